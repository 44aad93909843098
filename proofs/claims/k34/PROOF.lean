import PyProof.Rows.All
import Wide.All
import OpenK.AllK
import Wide.FinOn
import HandS.ForMost
import HandS.IsInst
import HandS.Gcd
import HandS.Wide
import HandS.WideBits
import HandS.Flow
import HandS.TupAny
import HandS.StrMore
import HandS.Conv
import HandS.RaiseMore
import HandS.ExcInit
import HandS.ExcIs
import HandS.ExcField
import HandS.ExcValue
import HandS.EndBits
import HandS.DeepEq
import HandS.Walk
import HandS.Codes
import KE.KExcIs
import HandS.Rev
import HandS.MapJoin
import HandS.Text
import PyProof.Rows.StrAscii
import PyProof.Rows.StrDigitsNeg
import PyProof.StrLawsAffix
import KE.IntTextLaws
import HandS.ReplaceLit
import HandS.Zip
import HandS.Star
import KE.GoesMore
import PyProof.EqKinds
import PyProof.FactsAll.dict
import KE.GoesZip
import HandS.Style
import HandS.SetFor
import HandS.SetTxt0
import HandS.Strs
import PyProof.Rows.SortShellAny
import KE.KEqDict
import HandS.Small
import HandS.TupMul
import HandS.DictComp
import PySem.Challenge.RW_soldwhole_k34_founders_circles_and_dues
import HandS.NoneIn
set_option Elab.async false
set_option linter.all false
set_option maxRecDepth 100000
set_option maxHeartbeats 8000000
/-! The guarded layer: a def's promise where no repr is under way (guards = []), so that repr of data may be asked. -/
namespace Sw
open PySem PySem.Spec PyProof.Rows L2

/-- no repr is under way -/
def Gd (A : Around) : Prop := A.guards = some []
theorem Gd.deeper {A : Around} (g : Gd A) (env : Env) : Gd (A.deeper env) := by
  unfold Gd at *
  first
    | exact g
    | (simp [Around.deeper, g])
theorem Gd.make {A : Around} (g : Gd A) (C : Addr) (us : List Value) (kw : List (Str × Value)) : Gd (A.under (.builtin "type.__call__" ⟨.ref C :: us, kw⟩)) := by
  unfold Gd at *
  first
    | exact g
    | (simp [Around.under, Code.guards, Code.isGuard, guardIds, pushGuards, g])
theorem gd_caller : Gd callerA := rfl

/-- the def at f keeps the promise sp, where no repr is under way -/
structure FnG (P : Program) (w : World) (K : PySem.W.Frag) (mg : Str → Option Value) (base : Heap) (k : Nat) (f : Addr) (fd : FuncData) (ps : List Str) (sp : Sp) : Prop where
  len : ∀ vs H Q E, sp vs H Q E → vs.length = ps.length
  go : ∀ {A : Around} {outer : List Env} {s : Shared} {H : Hp} {args : Args} {us : List Value} {vs : List V} {Q : VK} {E : XK},
    Gd A → Room k A → Env0 P w K mg base A outer s H → BindsTo s fd args (ps.zip us) → Vals vs us → sp vs H Q E →
    codeAny (model P w) A (.call (.ref f) args) (CR CX0 outer P w H s Q E) s
section
variable {P : Program} {w : World} {K : PySem.W.Frag} {mg : Str → Option Value} {base : Heap}
theorem FnG.of {k : Nat} {f : Addr} {fd : FuncData} {ps : List Str} {sp : Sp} (F : FnOk P w K mg base CX0 k f fd ps sp) : FnG P w K mg base k f fd ps sp :=
  ⟨F.len, fun _ hr e0 hb hv hs => F.run _ _ _ _ _ _ _ _ _ hr e0 hb hv hs⟩
theorem FnG.mono {j k : Nat} {f : Addr} {fd : FuncData} {ps : List Str} {sp : Sp} (F : FnG P w K mg base j f fd ps sp) (h : j ≤ k) : FnG P w K mg base k f fd ps sp :=
  ⟨F.len, fun g hr => F.go g (hr.mono h)⟩
end
section
variable {X : Cx} {k : Nat} {f : Addr} {fd : FuncData} {ps : List Str} {sp : Sp} {ds : List Value} {dvs : List V} {x : Str} {e : Expr} {es : List Expr} {t : TA} {p pos : Pos}
theorem runG {pins : List (Addr × Obj)} {σ : L2.St} {H : Hp} {s : Shared} {Q : VK} {us : List Value} {vs : List V} (F : FnG X.prog X.w X.K X.mg X.base k f fd ps sp) (g : Gd X.A) (hr : Room k X.A)
    (hb : Binds X.K fd ps ds) (hd : Vals dvs ds) (I : Inv X pins σ H s) (r : Vals vs us) (h : sp (vs ++ dvs) H Q E0) : wpAny (model X.prog X.w) X.A (call (.ref f) us) (EP X pins σ Q) X.xe s := by
  have rr : Vals (vs ++ dvs) (us ++ ds) := r.append hd
  have hz : (us ++ ds).length = ps.length := rr.length.symm.trans (F.len _ _ _ _ h)
  refine wpAny_call (codeAny_mono (F.go g hr I.env0 (hb s us I.kIn hz) rr h) fun res s' z => ?_)
  match res, z with
  | .ok (.ret u), z => exact I.after z
/-- f(e, ..), f a def of the text -/
theorem peG (F : FnG X.prog X.w X.K X.mg X.base k f fd ps sp) (g : Gd X.A) (hr : Room k X.A) (hg : Gl X x) (hm : X.mg x = some (.ref f)) (hk : PySem.W.keepIn X.K (.ref f) = true) (hb : Binds X.K fd ps ds) (hd : Vals dvs ds) (ha : PA X (e :: es) t)
    (hdb : (x == ("__debug__" : Str)) = false := by decide) (he : starEach (e :: es) X.env = (false, eval e X.env) :: starEach es X.env := by rfl) (hpl : (backTo pos (starEach es X.env)).any (·.1) = false := by rfl) :
    PE X (.Call (.Name x p) (e :: es) [] pos) (tCall sp dvs E0 t) :=
  ⟨fun pins s σ H Q I h => wpAny_Call_Name_kw (ld_glob I hg hm (PySem.W.callWith_K (h₀ := X.base) I.ok.mod.kin hk
    (thn (ha.run pos pins s σ H _ I h) fun us s1 z => by obtain ⟨vs, H1, I1, r, q⟩ := z; exact ⟨I1.kIn, runG F g hr hb hd I1 r q⟩) he hpl) hdb)⟩
theorem peG0 (F : FnG X.prog X.w X.K X.mg X.base k f fd ps sp) (g : Gd X.A) (hr : Room k X.A) (hg : Gl X x) (hm : X.mg x = some (.ref f)) (hk : PySem.W.keepIn X.K (.ref f) = true) (hb : Binds X.K fd ps ds) (hd : Vals dvs ds)
    (hdb : (x == ("__debug__" : Str)) = false := by decide) : PE X (.Call (.Name x p) [] [] pos) (tCall sp dvs E0 tNil) :=
  ⟨fun pins s σ H Q I h => wpAny_Call_Name_kw (ld_glob I hg hm (PySem.W.callWith_K0 I.kIn hk (runG (us := []) F g hr hb hd I .nil h)) hdb)⟩
end
section
variable {P : Program} {w : World} {K : PySem.W.Frag} {mg : Str → Option Value} {base : Heap}
/-- a def by its body, where no repr is under way -/
theorem Fun.okG {x qual : Str} {st : Stmt} {f : Addr} {fd : FuncData} {N ps : List Str} {k : Nat} {sp : Sp} (F : Fun K x qual st f fd) (S : FnScope N ps (defScope st)) (len : ∀ vs H Q E, sp vs H Q E → vs.length = ps.length)
    (hbody : ∀ (cdv : Value) (A : Around) (outer : List Env) (s : Shared) (H : Hp) (vs : List V) (Q : VK) (E : XK), Gd (A.deeper (envOfC qual (defScope st) s.heap.objs.size f cdv)) → Room k (A.deeper (envOfC qual (defScope st) s.heap.objs.size f cdv)) → sp vs H Q E →
      ∃ t, PSs (cxOf CX0 P w K mg base N qual (defScope st) f cdv A outer s H E).nox (defBody st) t ∧ t { nx := fun _ H' => Q .non H', rt := Q } (start N vs) H) : FnG P w K mg base (k + 1) f fd ps sp := by
  obtain ⟨oc, od, kV, doc, pm, an, cdv, ct, osl, rfl, lk, hcd⟩ := F.ex
  refine ⟨len, ?_⟩
  intro A outer s H args us vs Q E g hr e0 hb r hs
  have hz := len _ _ _ _ hs
  have up : ∀ b o, base.get? b = some o → s.heap.get? b = some o := fun b o z => (e0.bs b o z).1
  refine codeAny_call_function hr.depth ((e0.mod.kin.keeps up) _ _ lk) rfl S.co S.gen rfl (PySem.W.codeRec_of (e0.mod.kin.keeps up) hcd) (hb _ _ _ _ (wpAny_newFunctionEnv_cells S.kind (fun y hy => ?_) fun env he s1 x1 => ?_))
  · rcases S.par y.1 (List.of_mem_zip (show (y.1, y.2) ∈ ps.zip us from hy)).1 with q | q
    · exact .inl q
    · exact .inr ⟨q, PySem.W.cellsFrom_some _ _ _ (.inl q)⟩
  · subst he
    obtain ⟨t, ht, hq⟩ := hbody cdv A outer s H vs Q E (g.deeper _) (hr.deeper _) hs
    refine ⟨(e0.mod.nolimit.keeps up).keeps x1.toInCall.keep, codeAny_func (wpAny_mono (ht.nox.run [] s1 (start N vs) H _ (inv_start S hr.hd e0 hz r x1) hq) ?_ fun _ _ z => z)⟩
    intro fl s' z
    match fl, z with
    | .ret u, ⟨v, σ', H', J, rv, q⟩ => exact ⟨v, H', J.os, J.bare, J.base, J.hok, rv, q⟩
    | .next, ⟨σ', H', J, q⟩ => exact ⟨.non, H', J.os, J.bare, J.base, J.hok, rfl, q⟩
    | .brk, ⟨_, _, _, q⟩ => exact q.elim
    | .cont, ⟨_, _, _, q⟩ => exact q.elim
end
/-! ### the law's own call -/
section
variable {P : Program} {w : World} {K : PySem.W.Frag} {mg mb : Str → Option Value} {k : Nat} {fa a : Addr} {fd : FuncData} {x : Str} {sp : Sp} {s₁ : Shared} {vs : List Value} {ns : List Int}
/-- the abstract heap in which the script alone is known -/
def scr (a : Addr) (ob : Obj) (ns : List Int) : Hp := fun b => if b = a then some (.frz ob (.lst (ns.map V.int))) else none
theorem scr_at {ob : Obj} : scr a ob ns a = some (.frz ob (.lst (ns.map V.int))) := if_pos rfl
theorem scr_ne {ob : Obj} {b : Addr} (h : b ≠ a) : scr a ob ns b = none := if_neg h
theorem lawFrom (H : Hp) (hO : Only H) (KX : K.In s₁.heap) (hns : s₁.heap.Ns mainGlobals mg) (hb : s₁.heap.Ns builtinsNs mb) (hbb : ∀ y : Str, y ≠ "__name__" → mb y = bootBuiltins y) (hlim : s₁.heap.NoLimit) (hg : s₁.gens = #[])
    (ok : HOk P w H s₁.heap) (nk : ∀ b o, K.lookup b = some o → H b = none) (nd : ∀ b o es ep, s₁.heap.get? b = some o → o.data = .dict es ep → H b = none) (hr : Room k callerA)
    (F : ∀ base : Heap, K.In base → base.Ns mainGlobals mg → FnG P w K mg base k fa fd [x] sp) (hbind : ∀ (s : Shared) (u : Value), BindsTo s fd ⟨[u], []⟩ [(x, u)])
    (hs : sp [.ref a] H (fun v _ => v = .bl true) fun _ _ _ => False) :
    codeAny (model P w) callerA (.call (.ref fa) ⟨[.ref a], []⟩) (fun r s' => r = .ok (.ret (.bool true)) ∧ OldK s₁.heap s'.heap ∧ s'.os = s₁.os ∧ AllBare s'.gens) s₁ := by
  have kIn : K.In (hidT s₁.heap H) := fun b o z => hidT_get (KX b o z) (nk b o z)
  have nsIn : ∀ {b : Addr} {m : Str → Option Value}, s₁.heap.Ns b m → (hidT s₁.heap H).Ns b m := fun {b m} z => by
    obtain ⟨o, es, ep, z1, z2, z3⟩ := z
    exact ⟨o, es, ep, hidT_get z1 (nd b o es ep z1 z2), z2, z3⟩
  have lim : (hidT s₁.heap H).NoLimit := by
    obtain ⟨mc, z1, z2⟩ := hlim
    exact ⟨mc, nsIn z1, z2⟩
  have e0 : Env0 P w K mg (hidT s₁.heap H) callerA [] s₁ H :=
    { frames := rfl, mod := ⟨kIn, nsIn hns, ⟨mb, nsIn hb, hbb⟩, lim⟩, bs := fun _ _ z => of_hidT z, bsz := Nat.le_of_eq (hidT_size _ _), funs := trivial, frf := (fun b z => nomatch z), hok := ok, bare := .of_eq hg }
  refine codeAny_mono ((F _ kIn (nsIn hns)).go (us := [.ref a]) (vs := [.ref a]) gd_caller hr e0 (hbind s₁ (.ref a)) (.cons rfl .nil) hs) fun r s' z => ?_
  match r, z with
  | .ok (.ret u), z =>
    obtain ⟨v, H', zo, zb, un, ok', rv, q⟩ := z
    have q : v = .bl true := q
    subst q
    have eu : u = Value.bool true := rv
    subst eu
    refine ⟨rfl, .of_keep fun b o e => ?_, zo, zb⟩
    rcases hO b with n | ⟨ob, xs, n⟩
    · exact un.keep b o e n (fun z => nomatch z) (fun z => nomatch z)
    · have e1 := (ok b _ n).1
      have e2 := (ok' b _ (un.frzs b ob _ n)).1
      have e3 : o = ob := Option.some.inj (e.symm.trans e1)
      rw [e3]
      exact e2
theorem lawG (KX : K.In s₁.heap) (hns : s₁.heap.Ns mainGlobals mg) (hb : s₁.heap.Ns builtinsNs mb) (hbb : ∀ y : Str, y ≠ "__name__" → mb y = bootBuiltins y) (hlim : s₁.heap.NoLimit) (hg : s₁.gens = #[])
    (ha : s₁.heap.get? a = some { cls := .type "list", data := .seq vs.toArray }) (hi : IntsAre vs ns) (hl : ns.length ≤ sizeLine) (hr : Room k callerA)
    (F : ∀ base : Heap, K.In base → base.Ns mainGlobals mg → FnG P w K mg base k fa fd [x] sp) (hbind : ∀ (s : Shared) (u : Value), BindsTo s fd ⟨[u], []⟩ [(x, u)])
    (hsp : ∀ H : Hp, Only H → SqL K H a (ns.map V.int) → sp [.ref a] H (fun v _ => v = .bl true) fun _ _ _ => False) :
    codeAny (model P w) callerA (.call (.ref fa) ⟨[.ref a], []⟩) (fun r s' => r = .ok (.ret (.bool true)) ∧ OldK s₁.heap s'.heap ∧ s'.os = s₁.os ∧ AllBare s'.gens) s₁ := by
  have rv := vals_ints hi
  have hln := hi.length
  rcases hk : K.lookup a with _ | o
  · refine lawFrom (scr a { cls := .type "list", data := .seq vs.toArray } ns) ?_ KX hns hb hbb hlim hg ?_ ?_ ?_ hr F hbind (hsp _ ?_ (.inl (.inr ⟨_, scr_at⟩)))
    rotate_left
    · intro b u z
      by_cases e : b = a
      · rw [e, scr_at] at z
        cases z
        rw [e]
        exact ⟨ha, by rw [List.length_map]; exact hl, vs, _, rv, ha⟩
      · rw [scr_ne e] at z
        cases z
    · intro b o z
      refine scr_ne fun e => ?_
      rw [e, hk] at z
      cases z
    · intro b o es ep z1 z2
      refine scr_ne fun e => ?_
      rw [e, ha] at z1
      cases z1
      cases z2
    all_goals
      intro b
      by_cases e : b = a
      · exact .inr ⟨_, _, by rw [e]; exact scr_at⟩
      · exact .inl (scr_ne e)
  · have z := KX a o hk
    rw [ha] at z
    cases z
    exact lawFrom (fun _ => none) (fun _ => .inl rfl) KX hns hb hbb hlim hg (fun _ _ z => nomatch z) (fun _ _ _ => rfl) (fun _ _ _ _ _ _ => rfl) hr F hbind
      (hsp _ (fun _ => .inl rfl) (.inr ⟨_, vs.toArray, _, hk, rfl, rfl, rfl, by rw [List.size_toArray, hln]; exact hl, by simpa using rv⟩))
end
theorem walkG {l : PySem.W.OpenLaw} {n k : Nat} {q : Program} {loose : List Str} {XP : (Str → Option Value) → Heap → Prop} {YP : World → Heap → Prop} {d : DefRec} {K : Params → PySem.W.Frag} {sp : World → Sp} {x : Str}
    (hn : l.most = some n) (hn2 : n ≤ sizeLine) (hdf : d.params.defaults = []) (hr : Room k callerA) (hY : ∀ (w : World) (h : Heap), YP w h → (K w.params).In h)
    (F : ∀ (w : World) (mg : Str → Option Value) (fa : Addr) (h : Heap), (K w.params).In h → h.Ns mainGlobals mg → mg d.name = some (.ref fa) →
      ∃ fd : FuncData, (∀ (s : Shared) (u : Value), BindsTo s fd ⟨[u], []⟩ [(x, u)]) ∧
        ∀ base : Heap, (K w.params).In base → base.Ns mainGlobals mg → FnG l.prog w (K w.params) mg base k fa fd [x] (sp w))
    (hsp : ∀ (w : World) (H : Hp) (a : Addr) (ns : List Int), ns.length ≤ n → (∀ z ∈ ns, Builtin.Int.intBits z ≤ 1048576) → Only H → SqL (K w.params) H a (ns.map V.int) → sp w [.ref a] H (fun v _ => v = .bl true) fun _ _ _ => False) :
    PySem.W.WalkO q loose XP YP l.row.toRowW d [] (fun f vs => PySem.call f vs) :=
  Att.attach_callB hn hdf fun w s₀ s₁ mg mb fa o pm cd doc a vs ns G Y ho hd hcd hmg hobj hints hlen hbits hg => by
    obtain ⟨fd, hb, hF⟩ := F w mg fa _ (hY w _ Y) G.T.g hmg
    exact lawG (hY w _ Y) G.T.g G.T.b G.T.builtins G.T.nolimit hg hobj hints (Nat.le_trans hlen hn2) hr hF hb fun H hO hS => hsp w H a ns hlen hbits hO hS
end Sw
/-! Data as a whole over the abstract heap (Dt), what stays (Fut), == and repr of data. -/
namespace Sw
open PySem PySem.Spec PyProof.Rows L2

/-- a tuple of the written part -/
def KTup (K : PySem.W.Frag) (a : Addr) (xs : List V) : Prop :=
  ∃ (o : Obj) (its : Array Value) (n : Nat), K.lookup a = some o ∧ o.cls = .type "tuple" ∧ o.data = .seq its n ∧ its.size ≤ sizeLine ∧ Vals xs its.toList
def keyD : Key → PyData
  | .inl i => .int i
  | .inr x => .str x
mutual
/-- v is the datum d; mu: the lists and dicts that are about to change (none of them is part of d) -/
inductive Dt (K : PySem.W.Frag) (mu : Addr → Prop) (H : Hp) : V → PyData → Prop
  | non : Dt K mu H .non .none
  | bl (b : Bool) : Dt K mu H (.bl b) (.bool b)
  | int (i : Int) : Dt K mu H (.int i) (.int i)
  | str (x : Str) : Dt K mu H (.str x) (.str x)
  | lst {a : Addr} {xs : List V} {ds : List PyData} : ¬ mu a → Rd H a (.lst xs) → DtA K mu H xs ds → Dt K mu H (.ref a) (.list ds)
  | tup {a : Addr} {xs : List V} {ds : List PyData} : Rd H a (.tup xs) → DtA K mu H xs ds → Dt K mu H (.ref a) (.tuple ds)
  | tupK {a : Addr} {xs : List V} {ds : List PyData} : KTup K a xs → DtA K mu H xs ds → Dt K mu H (.ref a) (.tuple ds)
  | dct {a : Addr} {kvs : List (Key × V)} {ds : List (PyData × PyData)} : ¬ mu a → Rd H a (.dK kvs) → DtK K mu H kvs ds → Dt K mu H (.ref a) (.dict ds)
inductive DtA (K : PySem.W.Frag) (mu : Addr → Prop) (H : Hp) : List V → List PyData → Prop
  | nil : DtA K mu H [] []
  | cons {v : V} {vs : List V} {d : PyData} {ds : List PyData} : Dt K mu H v d → DtA K mu H vs ds → DtA K mu H (v :: vs) (d :: ds)
inductive DtK (K : PySem.W.Frag) (mu : Addr → Prop) (H : Hp) : List (Key × V) → List (PyData × PyData) → Prop
  | nil : DtK K mu H [] []
  | cons {k : Key} {v : V} {kvs : List (Key × V)} {d : PyData} {ds : List (PyData × PyData)} : Dt K mu H v d → DtK K mu H kvs ds → DtK K mu H ((k, v) :: kvs) ((keyD k, d) :: ds)
end

/-- what is not about to change stays, and tuples do -/
def Fut (mu : Addr → Prop) (H H' : Hp) : Prop := ∀ a o, H a = some o → (¬ mu a ∨ (∃ xs, o = .tup xs) ∨ ∃ ob u, o = .frz ob u) → H' a = some o
theorem Fut.refl {mu : Addr → Prop} (H : Hp) : Fut mu H H := fun _ _ e _ => e
theorem Fut.trans {mu : Addr → Prop} {H H1 H2 : Hp} (a : Fut mu H H1) (b : Fut mu H1 H2) : Fut mu H H2 := fun x o e h => b x o (a x o e h) h
theorem Fut.of_same {mu : Addr → Prop} {H H' : Hp} (s : Same H H') : Fut mu H H' := fun a o e _ => s a o e
theorem Fut.mono {mu mv : Addr → Prop} {H H' : Hp} (f : Fut mu H H') (h : ∀ a, mu a → mv a) : Fut mv H H' := fun a o e z => f a o e (z.imp (fun n m => n (h a m)) id)
theorem Fut.rd {mu : Addr → Prop} {H H' : Hp} (f : Fut mu H H') {a : Addr} {o : HO} (hm : ¬ mu a) (r : Rd H a o) : Rd H' a o := by
  rcases r with r | ⟨ob, r⟩
  · exact .inl (f a _ r (.inl hm))
  · exact .inr ⟨ob, f a _ r (.inl hm)⟩
theorem Fut.rdT {mu : Addr → Prop} {H H' : Hp} (f : Fut mu H H') {a : Addr} {xs : List V} (r : Rd H a (.tup xs)) : Rd H' a (.tup xs) := by
  rcases r with r | ⟨ob, r⟩
  · exact .inl (f a _ r (.inr (.inl ⟨xs, rfl⟩)))
  · exact .inr ⟨ob, f a _ r (.inr (.inr ⟨ob, _, rfl⟩))⟩
section
variable {K : PySem.W.Frag} {mu mv : Addr → Prop} {H H' : Hp}
mutual
theorem Dt.fut (f : Fut mu H H') : ∀ {v : V} {d : PyData}, Dt K mu H v d → Dt K mu H' v d
  | _, _, .non => .non
  | _, _, .bl b => .bl b
  | _, _, .int i => .int i
  | _, _, .str x => .str x
  | _, _, .lst n r h => .lst n (f.rd n r) (DtA.fut f h)
  | _, _, .tup r h => .tup (f.rdT r) (DtA.fut f h)
  | _, _, .tupK r h => .tupK r (DtA.fut f h)
  | _, _, .dct n r h => .dct n (f.rd n r) (DtK.fut f h)
theorem DtA.fut (f : Fut mu H H') : ∀ {vs : List V} {ds : List PyData}, DtA K mu H vs ds → DtA K mu H' vs ds
  | _, _, .nil => .nil
  | _, _, .cons h t => .cons (Dt.fut f h) (DtA.fut f t)
theorem DtK.fut (f : Fut mu H H') : ∀ {vs : List (Key × V)} {ds : List (PyData × PyData)}, DtK K mu H vs ds → DtK K mu H' vs ds
  | _, _, .nil => .nil
  | _, _, .cons h t => .cons (Dt.fut f h) (DtK.fut f t)
end
mutual
/-- fewer that change -/
theorem Dt.less (f : ∀ a, mv a → mu a) : ∀ {v : V} {d : PyData}, Dt K mu H v d → Dt K mv H v d
  | _, _, .non => .non
  | _, _, .bl b => .bl b
  | _, _, .int i => .int i
  | _, _, .str x => .str x
  | _, _, .lst n r h => .lst (fun z => n (f _ z)) r (DtA.less f h)
  | _, _, .tup r h => .tup r (DtA.less f h)
  | _, _, .tupK r h => .tupK r (DtA.less f h)
  | _, _, .dct n r h => .dct (fun z => n (f _ z)) r (DtK.less f h)
theorem DtA.less (f : ∀ a, mv a → mu a) : ∀ {vs : List V} {ds : List PyData}, DtA K mu H vs ds → DtA K mv H vs ds
  | _, _, .nil => .nil
  | _, _, .cons h t => .cons (Dt.less f h) (DtA.less f t)
theorem DtK.less (f : ∀ a, mv a → mu a) : ∀ {vs : List (Key × V)} {ds : List (PyData × PyData)}, DtK K mu H vs ds → DtK K mv H vs ds
  | _, _, .nil => .nil
  | _, _, .cons h t => .cons (Dt.less f h) (DtK.less f t)
end
mutual
/-- one more that changes, not tracked as yet -/
theorem Dt.more {l : Addr} (n : H l = Option.none) : ∀ {v : V} {d : PyData}, Dt K mu H v d → Dt K (fun a => mu a ∨ a = l) H v d
  | _, _, .non => .non
  | _, _, .bl b => .bl b
  | _, _, .int i => .int i
  | _, _, .str x => .str x
  | _, _, .lst m r h => .lst (fun z => z.elim m fun e => by
      rw [e] at r
      rcases r with r | ⟨_, r⟩ <;> (rw [n] at r; cases r)) r (DtA.more n h)
  | _, _, .tup r h => .tup r (DtA.more n h)
  | _, _, .tupK r h => .tupK r (DtA.more n h)
  | _, _, .dct m r h => .dct (fun z => z.elim m fun e => by
      rw [e] at r
      rcases r with r | ⟨_, r⟩ <;> (rw [n] at r; cases r)) r (DtK.more n h)
theorem DtA.more {l : Addr} (n : H l = Option.none) : ∀ {vs : List V} {ds : List PyData}, DtA K mu H vs ds → DtA K (fun a => mu a ∨ a = l) H vs ds
  | _, _, .nil => .nil
  | _, _, .cons h t => .cons (Dt.more n h) (DtA.more n t)
theorem DtK.more {l : Addr} (n : H l = Option.none) : ∀ {vs : List (Key × V)} {ds : List (PyData × PyData)}, DtK K mu H vs ds → DtK K (fun a => mu a ∨ a = l) H vs ds
  | _, _, .nil => .nil
  | _, _, .cons h t => .cons (Dt.more n h) (DtK.more n t)
end
theorem DtA.length : ∀ {vs : List V} {ds : List PyData}, DtA K mu H vs ds → vs.length = ds.length
  | _, _, .nil => rfl
  | _, _, .cons _ t => by rw [List.length_cons, List.length_cons, DtA.length t]
theorem DtA.get : ∀ {vs : List V} {ds : List PyData} {i : Nat} {v : V}, DtA K mu H vs ds → vs[i]? = some v → ∃ d, ds[i]? = some d ∧ Dt K mu H v d
  | _, _, _, _, .nil, e => by simp at e
  | _, _, 0, _, .cons h _, e => by
    simp at e
    subst e
    exact ⟨_, rfl, h⟩
  | _, _, i + 1, v, .cons _ t, e => by
    obtain ⟨d, h1, h2⟩ := DtA.get (i := i) (v := v) t (by simpa using e)
    exact ⟨d, by simpa using h1, h2⟩
theorem DtA.getD : ∀ {vs : List V} {ds : List PyData} {i : Nat} {d : PyData}, DtA K mu H vs ds → ds[i]? = some d → ∃ v, vs[i]? = some v ∧ Dt K mu H v d
  | _, _, _, _, .nil, e => by simp at e
  | _, _, 0, _, .cons h _, e => by
    simp at e
    subst e
    exact ⟨_, rfl, h⟩
  | _, _, i + 1, v, .cons _ t, e => by
    obtain ⟨d, h1, h2⟩ := DtA.getD (i := i) (d := v) t (by simpa using e)
    exact ⟨d, by simpa using h1, h2⟩
theorem DtA.append : ∀ {vs ws : List V} {ds es : List PyData}, DtA K mu H vs ds → DtA K mu H ws es → DtA K mu H (vs ++ ws) (ds ++ es)
  | _, _, _, _, .nil, s => s
  | _, _, _, _, .cons h t, s => .cons h (DtA.append t s)
theorem DtA.drop : ∀ {vs : List V} {ds : List PyData} (n : Nat), DtA K mu H vs ds → DtA K mu H (vs.drop n) (ds.drop n)
  | _, _, 0, r => r
  | _, _, _ + 1, .nil => .nil
  | _, _, n + 1, .cons _ t => DtA.drop n t
theorem DtA.take : ∀ {vs : List V} {ds : List PyData} (n : Nat), DtA K mu H vs ds → DtA K mu H (vs.take n) (ds.take n)
  | _, _, 0, _ => .nil
  | _, _, _ + 1, .nil => .nil
  | _, _, n + 1, .cons h t => .cons h (DtA.take n t)
theorem DtA.one {vs : List V} {ds : List PyData} (h : DtA K mu H vs ds) (e : ds.length = 1) : ∃ x d, vs = [x] ∧ ds = [d] ∧ Dt K mu H x d := by
  cases h with
  | nil => simp at e
  | cons r1 t =>
    cases t with
    | nil => exact ⟨_, _, rfl, rfl, r1⟩
    | cons _ _ => simp at e
theorem DtA.two {vs : List V} {ds : List PyData} (h : DtA K mu H vs ds) (e : ds.length = 2) : ∃ x y d f, vs = [x, y] ∧ ds = [d, f] ∧ Dt K mu H x d ∧ Dt K mu H y f := by
  cases h with
  | nil => simp at e
  | cons r1 t =>
    obtain ⟨y, f, rfl, rfl, r2⟩ := t.one (by simpa using e)
    exact ⟨_, _, _, _, rfl, rfl, r1, r2⟩
theorem DtA.three {vs : List V} {ds : List PyData} (h : DtA K mu H vs ds) (e : ds.length = 3) : ∃ x y z d f g, vs = [x, y, z] ∧ ds = [d, f, g] ∧ Dt K mu H x d ∧ Dt K mu H y f ∧ Dt K mu H z g := by
  cases h with
  | nil => simp at e
  | cons r1 t =>
    obtain ⟨y, z, f, g, rfl, rfl, r2, r3⟩ := t.two (by simpa using e)
    exact ⟨_, _, _, _, _, _, rfl, rfl, r1, r2, r3⟩
theorem DtA.ints : ∀ (ns : List Int), DtA K mu H (ns.map V.int) (ns.map PyData.int)
  | [] => .nil
  | n :: ns => .cons (.int n) (DtA.ints ns)
theorem DtA.strs : ∀ (ns : List Str), DtA K mu H (ns.map V.str) (ns.map PyData.str)
  | [] => .nil
  | n :: ns => .cons (.str n) (DtA.strs ns)
theorem _root_.L2.Same.seqT {H1 H2 : Hp} (e : Same H1 H2) {a : Addr} {xs : List V} (h : SqT K H1 a xs) : SqT K H2 a xs := by
  rcases h with (h | ⟨o, h⟩) | h
  · exact .inl (.inl (e _ _ h))
  · exact .inl (.inr ⟨o, e _ _ h⟩)
  · exact .inr h
theorem DtA.bls : ∀ (bs : List Bool), DtA K mu H (bs.map V.bl) (bs.map PyData.bool)
  | [] => .nil
  | n :: ns => .cons (.bl n) (DtA.bls ns)
end

/-! ### what the library reads -/
theorem nmem_app {p : Addr → Prop} {as bs : List Addr} (ha : ∀ a ∈ as, ¬ p a) (hb : ∀ a ∈ bs, ¬ p a) : ∀ a ∈ as ++ bs, ¬ p a := fun a h => (List.mem_append.mp h).elim (ha a) (hb a)
theorem nmem_cons {p : Addr → Prop} {b : Addr} {as : List Addr} (hb : ¬ p b) (ha : ∀ a ∈ as, ¬ p a) : ∀ a ∈ b :: as, ¬ p a := fun a h => (List.mem_cons.mp h).elim (fun e => by rw [e]; exact hb) (ha a)
section
variable {X : Cx} {pins : List (Addr × Obj)} {σ : L2.St} {H : Hp} {s : Shared} {mu : Addr → Prop}
theorem Rd.sqL {K : PySem.W.Frag} {a : Addr} {xs : List V} (r : Rd H a (.lst xs)) : SqL K H a xs := .inl r
theorem Rd.sqT {K : PySem.W.Frag} {a : Addr} {xs : List V} (r : Rd H a (.tup xs)) : SqT K H a xs := .inl r
theorem KTup.sqT {K : PySem.W.Frag} {a : Addr} {xs : List V} (r : KTup K a xs) : SqT K H a xs := .inr r
mutual
theorem Dt.reads (I : Inv X pins σ H s) : ∀ (d : PyData) (v : V) (u : Value), Dt X.K mu H v d → RelV v u → ∃ as, Reads s.heap u d as ∧ ∀ a ∈ as, ¬ mu a
  | .none, _, _, h, r => by
    cases h
    cases r
    exact ⟨_, Reads.none, fun _ z => nomatch z⟩
  | .bool b, _, _, h, r => by
    cases h
    cases r
    exact ⟨_, Reads.bool b, fun _ z => nomatch z⟩
  | .int i, _, _, h, r => by
    cases h
    obtain ⟨t, rfl⟩ := r
    exact ⟨_, Reads.int i t, fun _ z => nomatch z⟩
  | .str x, _, _, h, r => by
    cases h
    obtain ⟨t, rfl⟩ := r
    exact ⟨_, Reads.str x t, fun _ z => nomatch z⟩
  | .list ds, _, _, h, r => by
    cases h with
    | lst n rd ha =>
      cases r
      obtain ⟨its, rv, ⟨o, m, ho, hc, _, hd⟩, _⟩ := I.list (Rd.sqL rd)
      obtain ⟨as, hr, hn⟩ := DtA.reads I ds _ its ha rv
      exact ⟨_, Reads.list ho hc hd hr, nmem_cons n hn⟩
  | .tuple ds, _, _, h, r => by
    have key : ∀ {a : Addr} {xs : List V} {u : Value}, SqT X.K H a xs → DtA X.K mu H xs ds → RelV (.ref a) u → ∃ as, Reads s.heap u (.tuple ds) as ∧ ∀ a ∈ as, ¬ mu a := fun {a xs u} hs ha r => by
      cases r
      obtain ⟨its, rv, ⟨o, ho, hc, n, hd⟩, _⟩ := I.tuple hs
      obtain ⟨as, hr, hn⟩ := DtA.reads I ds _ its ha rv
      exact ⟨_, Reads.tuple ho hc hd hr, hn⟩
    cases h with
    | tup rd ha => exact key (Rd.sqT rd) ha r
    | tupK rd ha => exact key (KTup.sqT rd) ha r
  | .dict ds, _, _, h, r => by
    cases h with
    | @dct a kvs _ n rd ha =>
      cases r
      have z : ObjOk X.prog X.w H s.heap a (.dK kvs) := rd.ok I.hok
      obtain ⟨_, _, vs, rel, o, es, ep, ho, hx, hd, _, hp, _⟩ := z
      obtain ⟨as, bs, h1, h2, m1, m2⟩ := DtK.reads I ds kvs vs es.toList ha rel hp
      exact ⟨_, Reads.dict ho hx.1 hd h1 h2, nmem_cons n (nmem_app m1 m2)⟩
theorem DtA.reads (I : Inv X pins σ H s) : ∀ (ds : List PyData) (vs : List V) (us : List Value), DtA X.K mu H vs ds → Vals vs us → ∃ as, ReadsAll s.heap us ds as ∧ ∀ a ∈ as, ¬ mu a
  | [], _, _, h, r => by
    cases h
    cases r
    exact ⟨_, ReadsAll.nil, fun _ z => nomatch z⟩
  | d :: ds, _, _, h, r => by
    cases h with
    | cons h1 h2 =>
      cases r with
      | cons r1 r2 =>
        obtain ⟨as, q1, m1⟩ := Dt.reads I d _ _ h1 r1
        obtain ⟨bs, q2, m2⟩ := DtA.reads I ds _ _ h2 r2
        exact ⟨_, ReadsAll.cons q1 q2, nmem_app m1 m2⟩
theorem DtK.reads (I : Inv X pins σ H s) : ∀ (ds : List (PyData × PyData)) (kvs : List (Key × V)) (vs : List (Key × Value)) (es : List DictEntry), DtK X.K mu H kvs ds → KV kvs vs → Pairs (mixKind X.prog X.w) es vs →
    ∃ as bs, ReadsAll s.heap (es.map (·.key)) (ds.map (·.1)) as ∧ ReadsAll s.heap (es.map (·.val)) (ds.map (·.2)) bs ∧ (∀ a ∈ as, ¬ mu a) ∧ ∀ a ∈ bs, ¬ mu a
  | [], _, _, _, h, r, p => by
    cases h
    cases r
    cases p
    exact ⟨_, _, ReadsAll.nil, ReadsAll.nil, (fun _ z => nomatch z), (fun _ z => nomatch z)⟩
  | (dk, d) :: ds, _, _, _, h, r, p => by
    cases h with
    | @cons k v kvs _ _ h1 h2 =>
      cases r with
      | @cons _ q _ vs r1 r2 =>
        cases p with
        | @cons e _ es _ p1 p2 p3 =>
          obtain ⟨as, q1, m1⟩ := Dt.reads I d _ q.2 h1 r1.2
          obtain ⟨cs, bs, q2, q3, m2, m3⟩ := DtK.reads I ds _ _ _ h2 r2 p3
          have ek : keyIs k e.key = true := by
            have z : keyIs q.1 e.key = true := p1
            rw [← r1.1] at z
            exact z
          have q4 : ∃ as, Reads s.heap e.key (keyD k) as ∧ ∀ a ∈ as, ¬ mu a := by
            rcases keyIs_shape ek with ⟨i, t, z1, z2⟩ | ⟨x, t, z1, z2⟩
            · rw [z1, z2]
              exact ⟨_, Reads.int i t, fun _ z => nomatch z⟩
            · rw [z1, z2]
              exact ⟨_, Reads.str x t, fun _ z => nomatch z⟩
          obtain ⟨a0, q4, m4⟩ := q4
          refine ⟨_, _, ReadsAll.cons q4 q2, ReadsAll.cons (as := as) (by show Reads s.heap e.val d as; rw [p2]; exact q1) q3, nmem_app m4 m2, nmem_app m1 m3⟩
end
end
/-! ### == and repr of data -/
section
variable {X : Cx}
def rEqW (K : PySem.W.Frag) : R2 := fun x y H Q => ∃ mu d e, Dt K mu H x d ∧ Dt K mu H y e ∧ SeqAt.shaped d = true ∧ SeqAt.shaped e = true ∧ Q (.bl (PyData.eqv d e)) H
def rNeW (K : PySem.W.Frag) : R2 := fun x y H Q => ∃ mu d e, Dt K mu H x d ∧ Dt K mu H y e ∧ SeqAt.shaped d = true ∧ SeqAt.shaped e = true ∧ Q (.bl (!PyData.eqv d e)) H
theorem op_eqW (hu : X.A.units + 64 < cLine) : OpR X (compareOp .Eq) (rEqW X.K) := by
  intro pins s σ H x y v u Q I rx ry h
  obtain ⟨mu, d, e, hd, he, sd, se, q⟩ := h
  obtain ⟨as, r1, _⟩ := Dt.reads I d x v hd rx
  obtain ⟨bs, r2, _⟩ := Dt.reads I e y u he ry
  exact SeqAt.compareEq_shaped r1 r2 sd se hu ⟨.bl _, H, I, rfl, q⟩
theorem op_neW (hu : X.A.units + 64 < cLine) : OpR X (compareOp .NotEq) (rNeW X.K) := by
  intro pins s σ H x y v u Q I rx ry h
  obtain ⟨mu, d, e, hd, he, sd, se, q⟩ := h
  obtain ⟨as, r1, _⟩ := Dt.reads I d x v hd rx
  obtain ⟨bs, r2, _⟩ := Dt.reads I e y u he ry
  exact SeqAt.compareNe_shaped r1 r2 sd se hu ⟨.bl _, H, I, rfl, q⟩
/-- == of data, or of one thing with itself -/
def rEqA (K : PySem.W.Frag) : R2 := fun x y H Q => rEqW K x y H Q ∨ (rEqV K x y H Q ∨ rEq x y H Q)
theorem op_eqA (hu : X.A.units + 64 < cLine) : OpR X (compareOp .Eq) (rEqA X.K) := OpR.or (op_eqW hu) (OpR.or (op_eqV hu) op_eq)
def rRepr (K : PySem.W.Frag) : List V → Hp → VK → Prop := fun xs H Q => ∃ (x : V) (mu : Addr → Prop) (d : PyData), xs = [x] ∧ Dt K mu H x d ∧ d.showable = true ∧ (d.hasDict = false ∨ mu sysModules) ∧ d.depth ≤ 60 ∧ d.shown.length ≤ sizeLine ∧ Q (.str d.shown) H
theorem call_repr (hg : Gd X.A) (hu : X.A.units + 64 < cLine) : CallR X (.builtin "repr") (rRepr X.K) := by
  intro pins s σ H xs us Q I r h
  obtain ⟨x, mu, d, rfl, hd, hs, hm, hdp, hl, q⟩ := h
  cases r with
  | @cons _ u _ _ r1 r2 =>
    cases r2
    have fin : ∀ {t : Tok} {tk : Nat}, EP X pins σ Q (.str d.shown t) { s with toks := tk } := fun {t tk} => ⟨.str _, H, I.tok tk, ⟨t, rfl⟩, q⟩
    cases d with
    | none =>
      cases hd
      cases r1
      exact P.repr_of_none fin
    | bool b =>
      cases hd
      cases r1
      exact P.repr_of_bool fin
    | int i =>
      cases hd
      obtain ⟨t, rfl⟩ := r1
      exact P.repr_of_int (of_decide_eq_true hs) fin
    | str y =>
      cases hd
      obtain ⟨t, rfl⟩ := r1
      exact P.repr_of_str fin hl
    | _ =>
      obtain ⟨as, hr, hn⟩ := Dt.reads I _ x u hd r1
      have hu' : ∃ a, u = .ref a := by
        cases hd <;> exact ⟨_, r1⟩
      obtain ⟨a, rfl⟩ := hu'
      exact repr_of_reads' hr hs (fun hz => hm.elim (fun z => by rw [z] at hz; cases hz) fun z y => hn _ y z) hg (by omega) (fun _ _ e => e) (fun h' t tk hk => ⟨.str _, H, (I.kept (h' := h') (t' := tk) hk), ⟨t, rfl⟩, q⟩) hl
end
end Sw
/-! Calls of defs by what they promise; isinstance, len, items of data; the built-ins' names. -/
namespace Sw
open PySem PySem.Spec PyProof.Rows L2

/-- the module's name x is a def that keeps sp -/
structure CalG (P : Program) (w : World) (K : PySem.W.Frag) (mg : Str → Option Value) (base : Heap) (k : Nat) (x : Str) (sp : Sp) : Prop where
  ex : ∃ (f : Addr) (fd : FuncData) (ps : List Str), FnG P w K mg base k f fd ps sp ∧ mg x = some (.ref f) ∧ PySem.W.keepIn K (.ref f) = true ∧ Binds K fd ps []
section
variable {X : Cx} {k j : Nat} {sp : Sp} {x : Str} {e : Expr} {es : List Expr} {t : TA} {p pos : Pos}
theorem pc (c : CalG X.prog X.w X.K X.mg X.base k x sp) (g : Gd X.A) (hr : Room j X.A) (hk : k ≤ j) (hg : Gl X x) (ha : PA X (e :: es) t)
    (hdb : (x == ("__debug__" : Str)) = false := by decide) (he : starEach (e :: es) X.env = (false, eval e X.env) :: starEach es X.env := by rfl) (hpl : (backTo pos (starEach es X.env)).any (·.1) = false := by rfl) :
    PE X (.Call (.Name x p) (e :: es) [] pos) (tCall sp [] E0 t) := by
  obtain ⟨f, fd, ps, F, hm, kp, b⟩ := c.ex
  exact peG F g (hr.mono hk) hg hm kp b .nil ha hdb he hpl
theorem pc0 (c : CalG X.prog X.w X.K X.mg X.base k x sp) (g : Gd X.A) (hr : Room j X.A) (hk : k ≤ j) (hg : Gl X x) (hdb : (x == ("__debug__" : Str)) = false := by decide) :
    PE X (.Call (.Name x p) [] [] pos) (tCall sp [] E0 tNil) := by
  obtain ⟨f, fd, ps, F, hm, kp, b⟩ := c.ex
  exact peG0 F g (hr.mono hk) hg hm kp b .nil hdb
end
theorem Room.u64 {k : Nat} {A : Around} (r : Room k A) : A.units + 64 < cLine := by
  have := r.un
  omega

/-! ### isinstance of data -/
def tyName : PyData → String
  | .none => "NoneType" | .bool _ => "bool" | .int _ => "int" | .str _ => "str" | .list _ => "list" | .tuple _ => "tuple" | .dict _ => "dict"
def isT (T : String) (d : PyData) : Bool := tyName d == T || (tyName d == "bool" && T == "int")
section
variable {K : PySem.W.Frag} {mu : Addr → Prop} {H : Hp}
theorem Dt.tyx {v : V} {d : PyData} (h : Dt K mu H v d) : TyX K H v (.type (tyName d)) := by
  cases h with
  | non => exact .base .non
  | bl b => exact .base (.bl b)
  | int i => exact .base (.int i)
  | str x => exact .base (.str x)
  | lst n r _ =>
    rcases r with r | ⟨o, r⟩
    · exact .base (.lst r)
    · exact .base (.frz r)
  | tup r _ =>
    rcases r with r | ⟨o, r⟩
    · exact .base (.tup r)
    · exact .fTuple r
  | tupK r _ =>
    obtain ⟨o, its, n, h1, h2, _⟩ := r
    exact .kTuple h1 h2
  | dct n r _ =>
    rcases r with r | ⟨o, r⟩
    · exact .base (.dK r)
    · exact .fDict r
end
def tyAsk (T : String) : Bool := ["int", "bool", "str", "list", "tuple", "dict"].contains T
theorem kit_tab : ∀ T ∈ ["int", "bool", "str", "list", "tuple", "dict"], ∀ S ∈ ["NoneType", "bool", "int", "str", "list", "tuple", "dict"], kitB S T = some (S == T || (S == "bool" && T == "int")) := by decide +kernel
theorem tyName_mem (d : PyData) : tyName d ∈ ["NoneType", "bool", "int", "str", "list", "tuple", "dict"] := by
  cases d <;> simp [tyName]
def rIsD (K : PySem.W.Frag) : List V → Hp → VK → Prop := fun xs H Q => ∃ (x : V) (T : String) (mu : Addr → Prop) (d : PyData), xs = [x, .ty T] ∧ T ∈ ["int", "bool", "str", "list", "tuple", "dict"] ∧ Dt K mu H x d ∧ Q (.bl (isT T d)) H
section
variable {X : Cx}
theorem call_isD : CallR X (.builtin "isinstance") (rIsD X.K) := by
  intro pins s σ H xs us Q I r h
  obtain ⟨x, T, mu, d, rfl, hT, hd, q⟩ := h
  exact call_isi pins s σ H _ us Q I r ⟨x, .ty T, _, .type T, _, rfl, .ty T, hd.tyx, kit_ty (kit_tab T hT _ (tyName_mem d)), q⟩

/-! ### len, items -/
def lenD : PyData → Option Nat
  | .str x => some x.length | .list ds => some ds.length | .tuple ds => some ds.length | _ => none
theorem call_lenA : CallR X (.builtin "len") (fun xs H Q => ∃ (x : V) (n : Nat), xs = [x] ∧ LenV X.K x H n ∧ Q (.int n) H) := call_len
theorem lenV_of {K : PySem.W.Frag} {mu : Addr → Prop} {H : Hp} {v : V} {d : PyData} {n : Nat} (h : Dt K mu H v d) (hn : lenD d = some n) (hs : n ≤ sizeLine) : LenV K v H n := by
  cases h with
  | str x =>
    cases hn
    exact ⟨hs, rfl⟩
  | lst m r ha =>
    cases hn
    exact .inl ⟨_, Rd.sqL r, ha.length.symm⟩
  | tup r ha =>
    cases hn
    exact .inr ⟨_, Rd.sqT r, ha.length.symm⟩
  | tupK r ha =>
    cases hn
    exact .inr ⟨_, KTup.sqT r, ha.length.symm⟩
  | _ => cases hn
/-- an item of a tuple, of a list -/
theorem Dt.tupAt {K : PySem.W.Frag} {mu : Addr → Prop} {H : Hp} {v : V} {ds : List PyData} (h : Dt K mu H v (.tuple ds)) : ∃ a xs, v = .ref a ∧ SqT K H a xs ∧ DtA K mu H xs ds := by
  cases h with
  | tup r ha => exact ⟨_, _, rfl, Rd.sqT r, ha⟩
  | tupK r ha => exact ⟨_, _, rfl, KTup.sqT r, ha⟩
theorem Dt.lstAt {K : PySem.W.Frag} {mu : Addr → Prop} {H : Hp} {v : V} {ds : List PyData} (h : Dt K mu H v (.list ds)) : ∃ a xs, v = .ref a ∧ ¬ mu a ∧ Rd H a (.lst xs) ∧ DtA K mu H xs ds := by
  cases h with
  | lst n r ha => exact ⟨_, _, rfl, n, r, ha⟩
/-- o[i] of a list by values (in o[i] op= e), i from 0 on -/
def rGetL (K : PySem.W.Frag) : R2 := fun o i H Q => ∃ (p : Addr) (xs : List V) (j : Nat) (v : V), o = .ref p ∧ i = .int j ∧ SqL K H p xs ∧ xs[j]? = some v ∧ Q v H
theorem get_list : PGet X (rGetL X.K) := by
  intro pins s σ H o i ov iv Q I ro ri h
  obtain ⟨p, xs, j, v, rfl, rfl, hq, he, q⟩ := h
  cases ro
  obtain ⟨t, rfl⟩ := ri
  obtain ⟨its, r, pl, hz⟩ := I.list hq
  obtain ⟨u, eu, ru⟩ := r.get he
  have hn := line63
  have hl := (List.getElem?_eq_some_iff.mp he).1
  exact wpAny_getItem_list pl.isList (by omega) (by omega) (by simpa using eu) ⟨v, H, I, ru, q⟩
end

/-! ### the built-ins' names, not taken by the module -/
structure Bt (mg : Str → Option Value) : Prop where
  len : mg "len" = none
  int : mg "int" = none
  bool : mg "bool" = none
  str : mg "str" = none
  tuple : mg "tuple" = none
  list : mg "list" = none
  dict : mg "dict" = none
  isin : mg "isinstance" = none
  repr : mg "repr" = none
  abs : mg "abs" = none
  max : mg "max" = none
  min : mg "min" = none
  range : mg "range" = none
  enum : mg "enumerate" = none
  zip : mg "zip" = none
theorem bb_abs : bootBuiltins "abs" = some (.builtin "abs") := by decide +kernel
theorem bb_isin : bootBuiltins "isinstance" = some (.builtin "isinstance") := by decide +kernel
theorem bb_repr : bootBuiltins "repr" = some (.builtin "repr") := by decide +kernel
theorem bb_max : bootBuiltins "max" = some (.builtin "max") := by decide +kernel
theorem bb_min : bootBuiltins "min" = some (.builtin "min") := by decide +kernel
theorem bb_len : bootBuiltins "len" = some (.builtin "len") := PySem.boot_len
theorem bb_sum : bootBuiltins "sum" = some (.builtin "sum") := by decide +kernel
theorem bb_all : bootBuiltins "all" = some (.builtin "all") := by decide +kernel
theorem bb_any : bootBuiltins "any" = some (.builtin "any") := by decide +kernel
theorem bb_sorted : bootBuiltins "sorted" = some (.builtin "sorted") := by decide +kernel
theorem bb_divmod : bootBuiltins "divmod" = some (.builtin "divmod") := by decide +kernel
theorem bb_int : bootBuiltins "int" = some (.type "int") := by decide +kernel
theorem bb_bool : bootBuiltins "bool" = some (.type "bool") := by decide +kernel
theorem bb_str : bootBuiltins "str" = some (.type "str") := by decide +kernel
theorem bb_tuple : bootBuiltins "tuple" = some (.type "tuple") := by decide +kernel
theorem bb_list : bootBuiltins "list" = some (.type "list") := by decide +kernel
theorem bb_dict : bootBuiltins "dict" = some (.type "dict") := by decide +kernel
theorem bb_set : bootBuiltins "set" = some (.type "set") := by decide +kernel
theorem bb_VE : bootBuiltins "ValueError" = some (.type "ValueError") := by decide +kernel

/-! ### data of a size that may be shown and compared -/
mutual
def okD : PyData → Bool
  | .none | .bool _ => true
  | .int i => decide (i.natAbs < 10 ^ 500)
  | .str x => PyData.strOk x
  | .list xs | .tuple xs => okA xs
  | .dict kvs => okK kvs
def okA : List PyData → Bool
  | [] => true
  | x :: xs => okD x && okA xs
def okK : List (PyData × PyData) → Bool
  | [] => true
  | (k, v) :: r => okD k && okD v && okK r
end
structure Ok (d : PyData) : Prop where
  ok : okD d = true
  dp : d.depth ≤ 50
  wt : d.weight ≤ 27000
instance (d : PyData) : Decidable (Ok d) := decidable_of_iff (okD d = true ∧ d.depth ≤ 50 ∧ d.weight ≤ 27000) ⟨fun h => ⟨h.1, h.2.1, h.2.2⟩, fun h => ⟨h.ok, h.dp, h.wt⟩⟩
theorem int_short {i : Int} (h : i.natAbs < 10 ^ 500) : (PyData.shown (.int i)).length ≤ 600 := by
  have e := int_text_length_le10 (k := 500) (by decide) h
  show (Str.ofString (toString i)).length ≤ 600
  rw [PySem.ofString_length]
  omega
theorem int_log {i : Int} (h : i.natAbs < 10 ^ 500) : i.natAbs.log2 < 1920 := by
  have e : (10 : Nat) ^ 500 ≤ 2 ^ 1900 := by decide +kernel
  by_cases z : i.natAbs = 0
  · rw [z]
    decide
  · exact Nat.lt_trans ((Nat.log2_lt z).mpr (Nat.lt_of_lt_of_le h e)) (by decide)
mutual
theorem ok_show : ∀ d : PyData, okD d = true → d.showable = true ∧ d.leavesShort 600 = true
  | .none, _ => ⟨rfl, rfl⟩
  | .bool _, _ => ⟨rfl, rfl⟩
  | .int i, h => by
    have h1 : i.natAbs < 10 ^ 500 := by simpa only [okD, decide_eq_true_eq] using h
    exact ⟨by simp only [PyData.showable, decide_eq_true_eq]; exact int_log h1, by simp only [PyData.leavesShort, decide_eq_true_eq]; exact int_short h1⟩
  | .str x, h => ⟨rfl, PyData.leavesShort_of_canLay0 600 (.str x) (by simpa only [okD, PyData.canLay0] using h) rfl⟩
  | .list xs, h => by simpa only [PyData.showable, PyData.leavesShort] using ok_showA xs (by simpa only [okD] using h)
  | .tuple xs, h => by simpa only [PyData.showable, PyData.leavesShort] using ok_showA xs (by simpa only [okD] using h)
  | .dict kvs, h => by simpa only [PyData.showable, PyData.leavesShort] using ok_showK kvs (by simpa only [okD] using h)
theorem ok_showA : ∀ xs : List PyData, okA xs = true → PyData.showableAll xs = true ∧ PyData.leavesShortAll 600 xs = true
  | [], _ => ⟨rfl, rfl⟩
  | x :: xs, h => by
    have h' : okD x = true ∧ okA xs = true := by simpa only [okA, Bool.and_eq_true] using h
    have a := ok_show x h'.1
    have b := ok_showA xs h'.2
    simp only [PyData.showableAll, PyData.leavesShortAll, a.1, a.2, b.1, b.2, Bool.and_self, and_self]
theorem ok_showK : ∀ xs : List (PyData × PyData), okK xs = true → PyData.showableKv xs = true ∧ PyData.leavesShortKv 600 xs = true
  | [], _ => ⟨rfl, rfl⟩
  | (k, v) :: xs, h => by
    have h' : (okD k = true ∧ okD v = true) ∧ okK xs = true := by simpa only [okK, Bool.and_eq_true] using h
    have a := ok_show k h'.1.1
    have c := ok_show v h'.1.2
    have b := ok_showK xs h'.2
    simp only [PyData.showableKv, PyData.leavesShortKv, a.1, a.2, b.1, b.2, c.1, c.2, Bool.and_self, and_self]
end
mutual
theorem ok_lay : ∀ d : PyData, okD d = true → d.hasDict = false → d.canLay0 = true
  | .none, _, _ => rfl
  | .bool _, _, _ => rfl
  | .int i, _, _ => rfl
  | .str x, h, _ => by simpa only [okD, PyData.canLay0] using h
  | .list xs, h, n => by simpa only [PyData.canLay0] using ok_layA xs (by simpa only [okD] using h) (by simpa only [PyData.hasDict] using n)
  | .tuple xs, h, n => by simpa only [PyData.canLay0] using ok_layA xs (by simpa only [okD] using h) (by simpa only [PyData.hasDict] using n)
  | .dict kvs, _, n => by simp [PyData.hasDict] at n
theorem ok_layA : ∀ xs : List PyData, okA xs = true → PyData.hasDictAll xs = false → PyData.canLayAll0 xs = true
  | [], _, _ => rfl
  | x :: xs, h, n => by
    have h' : okD x = true ∧ okA xs = true := by simpa only [okA, Bool.and_eq_true] using h
    have n' : x.hasDict = false ∧ PyData.hasDictAll xs = false := by simpa only [PyData.hasDictAll, Bool.or_eq_false_iff] using n
    simp only [PyData.canLayAll0, ok_lay x h'.1 n'.1, ok_layA xs h'.2 n'.2, Bool.and_self]
end
theorem Ok.show {d : PyData} (h : Ok d) : d.showable = true := (ok_show d h.ok).1
theorem Ok.fits {d : PyData} (h : Ok d) : d.shown.length ≤ sizeLine := by
  have e := PyData.shown_le 600 (by decide) d (ok_show d h.ok).2
  have w := h.wt
  rw [sizeLine_eq]
  omega
theorem Ok.shaped {d : PyData} (h : Ok d) (n : d.hasDict = false) : SeqAt.shaped d = true := by
  have := h.dp
  unfold SeqAt.shaped
  rw [ok_lay d h.ok n, decide_eq_true (by omega)]
  rfl
theorem Ok.repr {K : PySem.W.Frag} {mu : Addr → Prop} {H : Hp} {v : V} {d : PyData} {Q : VK} (h : Ok d) (r : Dt K mu H v d) (n : d.hasDict = false ∨ mu sysModules) (q : Q (.str d.shown) H) : rRepr K [v] H Q :=
  ⟨v, mu, d, rfl, r, h.show, n, by have := h.dp; omega, h.fits, q⟩
theorem eqv_same {d : PyData} (h : d.canLay0 = true) : PyData.eqv d d = true := SeqAt.eqv_refl d h
theorem lay_strs : ∀ {xs : List Str}, (∀ z ∈ xs, PyData.strOk z = true) → PyData.canLayAll0 (xs.map PyData.str) = true ∧ PyData.depthAll (xs.map PyData.str) = 0
  | [], _ => ⟨rfl, rfl⟩
  | x :: xs, h => by
    have e1 : PyData.canLay0 (.str x) = true := by simpa only [PyData.canLay0] using h x List.mem_cons_self
    have e2 := lay_strs fun z hz => h z (List.mem_cons_of_mem _ hz)
    simp only [List.map_cons, PyData.canLayAll0, PyData.depthAll, e1, e2.1, e2.2, PyData.depth, Bool.and_self, Nat.max_self, and_self]
theorem shaped_strs {xs : List Str} (h : ∀ z ∈ xs, PyData.strOk z = true) : SeqAt.shaped (.list (xs.map PyData.str)) = true := by
  have e := lay_strs h
  unfold SeqAt.shaped
  simp only [PyData.canLay0, PyData.depth, e.1, e.2, Bool.true_and]
  decide
/-! ### short words for tests -/
theorem iteNe {A B : Prop} {i j : Int} (h1 : i ≠ j → A) (h2 : i = j → B) : if (!decide (V.int i = V.int j)) = true then A else B := by
  by_cases e : i = j
  · have z : (!decide (V.int i = V.int j)) = false := by rw [e, decide_eq_true rfl]; rfl
    rw [z]
    exact iteF (h2 e)
  · have z : (!decide (V.int i = V.int j)) = true := by rw [decide_eq_false fun q => e (V.int.inj q)]; rfl
    rw [z]
    exact iteT (h1 e)
theorem iteEq {A B : Prop} {i j : Int} (h1 : i = j → A) (h2 : i ≠ j → B) : if decide (V.int i = V.int j) = true then A else B := by
  by_cases e : i = j
  · rw [e, decide_eq_true rfl]
    exact iteT (h1 e)
  · rw [decide_eq_false fun q => e (V.int.inj q)]
    exact iteF (h2 e)
theorem iteP {A B : Prop} {p : Prop} [Decidable p] (h1 : p → A) (h2 : ¬ p → B) : if decide p = true then A else B := by
  by_cases e : p
  · rw [decide_eq_true e]
    exact iteT (h1 e)
  · rw [decide_eq_false e]
    exact iteF (h2 e)
theorem iteB {A B : Prop} {b : Bool} (h1 : b = true → A) (h2 : b = false → B) : if b = true then A else B := by
  cases b with
  | true => exact iteT (h1 rfl)
  | false => exact iteF (h2 rfl)
theorem iteN {A B : Prop} {b : Bool} (h1 : b = false → A) (h2 : b = true → B) : if (!b) = true then A else B := by
  cases b with
  | true => exact iteF (h2 rfl)
  | false => exact iteT (h1 rfl)
theorem dec_int (i j : Int) : decide (V.int i = V.int j) = decide (i = j) := by
  rw [decide_eq_decide]
  exact ⟨V.int.inj, fun e => by rw [e]⟩
theorem okA_mem : ∀ {ds : List PyData} {d : PyData}, okA ds = true → d ∈ ds → okD d = true
  | x :: xs, d, h, m => by
    have h' : okD x = true ∧ okA xs = true := by simpa only [okA, Bool.and_eq_true] using h
    rcases List.mem_cons.mp m with rfl | m
    · exact h'.1
    · exact okA_mem h'.2 m
theorem depthAll_mem : ∀ {ds : List PyData} {d : PyData}, d ∈ ds → d.depth ≤ PyData.depthAll ds
  | x :: xs, d, m => by
    simp only [PyData.depthAll]
    rcases List.mem_cons.mp m with rfl | m
    · omega
    · have := depthAll_mem m
      omega
theorem weightAll_mem : ∀ {ds : List PyData} {d : PyData}, d ∈ ds → d.weight + 1 ≤ PyData.weightAll ds
  | x :: xs, d, m => by
    simp only [PyData.weightAll]
    rcases List.mem_cons.mp m with rfl | m
    · omega
    · have := weightAll_mem m
      omega
theorem Ok.inT {ds : List PyData} {d : PyData} (h : Ok (.tuple ds)) (m : d ∈ ds) : Ok d := by
  have z1 := h.dp
  have z2 := h.wt
  have z3 := h.ok
  simp only [PyData.depth] at z1
  simp only [PyData.weight] at z2
  simp only [okD] at z3
  have y1 := depthAll_mem m
  have y2 := weightAll_mem m
  exact ⟨okA_mem z3 m, by omega, by omega⟩
theorem Ok.inL {ds : List PyData} {d : PyData} (h : Ok (.list ds)) (m : d ∈ ds) : Ok d := by
  have z1 := h.dp
  have z2 := h.wt
  have z3 := h.ok
  simp only [PyData.depth] at z1
  simp only [PyData.weight] at z2
  simp only [okD] at z3
  have y1 := depthAll_mem m
  have y2 := weightAll_mem m
  exact ⟨okA_mem z3 m, by omega, by omega⟩
theorem weight_len : ∀ ds : List PyData, ds.length ≤ PyData.weightAll ds
  | [] => Nat.le_refl _
  | x :: xs => by
    have := weight_len xs
    simp only [PyData.weightAll, List.length_cons]
    omega
theorem Ok.strLen {x : Str} (h : Ok (.str x)) : x.length ≤ 27000 := by
  have := h.wt
  simp only [PyData.weight] at this
  exact this
theorem isTup (d : PyData) : isT "tuple" d = true ↔ ∃ ds, d = .tuple ds := by
  cases d <;> simp [isT, tyName]
theorem isStr (d : PyData) : isT "str" d = true ↔ ∃ x, d = .str x := by
  cases d <;> simp [isT, tyName]
theorem isLst (d : PyData) : isT "list" d = true ↔ ∃ ds, d = .list ds := by
  cases d <;> simp [isT, tyName]
theorem isIntD (d : PyData) : (isT "int" d && !isT "bool" d) = true ↔ ∃ i, d = .int i := by
  cases d <;> simp [isT, tyName]
end Sw
/-! Mathematics of names and common divisors. -/
namespace Sw
open PySem PySem.Spec PyProof.Rows L2

def low (c : Nat) : Bool := decide (97 ≤ c ∧ c ≤ 122)
theorem low_tab : ∀ c, c < 128 → (Unicode.isAlpha c && !(Unicode.isUpper c || Unicode.isTitle c)) = low c ∧ (low c = true → Unicode.isLower c = true) := by decide +kernel
theorem low_lt {c : Nat} (h : low c = true) : c < 128 := by
  have z := of_decide_eq_true h
  omega
/-- what is_name asks of a text's signs, both ways -/
theorem name_two (cs : List Nat) (h : cs ≠ []) : (cs.all (· < 128) && (cs.all Unicode.isAlpha && (cs.any Unicode.isLower && !cs.any fun c => Unicode.isUpper c || Unicode.isTitle c))) = cs.all low := by
  rw [Bool.eq_iff_iff]
  constructor
  · intro z
    simp only [Bool.and_eq_true, List.all_eq_true, decide_eq_true_eq, Bool.not_eq_true', List.any_eq_false] at z
    obtain ⟨z1, z2, z3, z4⟩ := z
    rw [List.all_eq_true]
    intro c hc
    have e := (low_tab c (z1 c hc)).1
    rw [← e, z2 c hc]
    simpa using z4 c hc
  · intro z
    rw [List.all_eq_true] at z
    have key : ∀ c ∈ cs, c < 128 ∧ Unicode.isAlpha c = true ∧ (Unicode.isUpper c || Unicode.isTitle c) = false ∧ Unicode.isLower c = true := fun c hc => by
      have l := low_lt (z c hc)
      have e := low_tab c l
      rw [z c hc] at e
      have e1 := e.1
      rw [Bool.and_eq_true, Bool.not_eq_true'] at e1
      exact ⟨l, e1.1, e1.2, e.2 rfl⟩
    simp only [Bool.and_eq_true, List.all_eq_true, decide_eq_true_eq, Bool.not_eq_true', List.any_eq_false, List.any_eq_true]
    obtain ⟨c, hc⟩ := List.exists_mem_of_ne_nil cs h
    exact ⟨fun c hc => (key c hc).1, fun c hc => (key c hc).2.1, ⟨c, hc, (key c hc).2.2.2⟩, fun c hc => by simpa using (key c hc).2.2.1⟩
/-- a NAME's text -/
def nameS (x : Str) : Bool := decide (1 ≤ x.length) && decide (x.length ≤ 12) && x.cps.toList.all low
theorem name_txt (x : Str) (h : 1 ≤ x.length) : (Txt.isascii x && (Txt.isalpha x && Txt.islower x)) = x.cps.toList.all low := by
  have hl : x.cps.toList ≠ [] := fun z => by
    have e : x.length = x.cps.toList.length := rfl
    rw [z] at e
    simp at e
    omega
  have e := name_two x.cps.toList hl
  rw [← e]
  unfold Txt.isascii Txt.isalpha Txt.islower
  have h2 : decide (x.length > 0) = true := decide_eq_true h
  rw [h2, Bool.true_and, ← Array.all_toList, ← Array.all_toList, ← Array.any_toList, ← Array.any_toList]
def az : Str := "abcdefghijklmnopqrstuvwxyz"
theorem az_mem (c : Nat) : decide (c ∈ az.cps.toList) = low c := by
  have h : az.cps.toList = (List.range 26).map (· + 97) := by decide +kernel
  rw [h]
  unfold low
  rw [decide_eq_decide]
  simp only [List.mem_map, List.mem_range]
  constructor
  · rintro ⟨i, hi, rfl⟩
    omega
  · intro z
    exact ⟨c - 97, by omega, by omega⟩

/-! ### the common divisor by rests -/
theorem gcd_step (a b : Nat) : Nat.gcd b (a % b) = Nat.gcd a b := by
  rw [Nat.gcd_comm a b, Nat.gcd_rec b a, Nat.gcd_comm]
/-- the size of the common divisor -/
def gI (n d : Int) : Int := ((Nat.gcd n.natAbs d.natAbs : Nat) : Int)
def sh (n d : Int) : Int := if gI n d > 1 then gI n d else 1
def redI (n d : Int) : Int × Int := if d < 0 then ((-n) / sh n d, (-d) / sh n d) else (n / sh n d, d / sh n d)
theorem sh_pos (n d : Int) : 0 < sh n d := by
  unfold sh
  split <;> omega
theorem sh_eq {n d : Int} (h : d ≠ 0) : sh n d = gI n d := by
  have : 0 < Nat.gcd n.natAbs d.natAbs := Nat.gcd_pos_of_pos_right _ (by omega)
  unfold sh gI
  split <;> omega
theorem sh_le {n d : Int} (h : d ≠ 0) : (sh n d).natAbs ≤ d.natAbs := by
  rw [sh_eq h]
  unfold gI
  rw [Int.natAbs_natCast]
  exact Nat.le_of_dvd (by omega) (Nat.gcd_dvd_right _ _)
/-- small positive ones, reduced -/
theorem redI_pos {n d : Int} (hn : 0 < n) (hd : 0 < d) : 1 ≤ (redI n d).1 ∧ (redI n d).1 ≤ n ∧ 1 ≤ (redI n d).2 ∧ (redI n d).2 ≤ d ∧ gI (redI n d).1 (redI n d).2 = 1 := by
  obtain ⟨a, rfl⟩ : ∃ a : Nat, n = (a : Int) := ⟨n.toNat, by omega⟩
  obtain ⟨c, rfl⟩ : ∃ c : Nat, d = (c : Int) := ⟨d.toNat, by omega⟩
  have ha : 0 < a := by omega
  have hc : 0 < c := by omega
  have hg : 0 < Nat.gcd a c := Nat.gcd_pos_of_pos_right _ hc
  have e : redI (a : Int) (c : Int) = (((a / Nat.gcd a c : Nat) : Int), ((c / Nat.gcd a c : Nat) : Int)) := by
    unfold redI
    rw [if_neg (by omega), sh_eq (by omega)]
    unfold gI
    rw [Int.natAbs_natCast, Int.natAbs_natCast, Int.natCast_ediv, Int.natCast_ediv]
  rw [e]
  have d1 : Nat.gcd a c ≤ a := Nat.le_of_dvd ha (Nat.gcd_dvd_left a c)
  have d2 : Nat.gcd a c ≤ c := Nat.le_of_dvd hc (Nat.gcd_dvd_right a c)
  have p1 : 0 < a / Nat.gcd a c := Nat.div_pos d1 hg
  have p2 : 0 < c / Nat.gcd a c := Nat.div_pos d2 hg
  have p3 : a / Nat.gcd a c ≤ a := Nat.div_le_self _ _
  have p4 : c / Nat.gcd a c ≤ c := Nat.div_le_self _ _
  have p5 : Nat.gcd (a / Nat.gcd a c) (c / Nat.gcd a c) = 1 := Nat.coprime_div_gcd_div_gcd hg
  refine ⟨by show (1 : Int) ≤ ((a / Nat.gcd a c : Nat) : Int); omega, by show ((a / Nat.gcd a c : Nat) : Int) ≤ _; omega, by show (1 : Int) ≤ ((c / Nat.gcd a c : Nat) : Int); omega, by show ((c / Nat.gcd a c : Nat) : Int) ≤ _; omega, ?_⟩
  unfold gI
  show ((Nat.gcd (((a / Nat.gcd a c : Nat) : Int)).natAbs (((c / Nat.gcd a c : Nat) : Int)).natAbs : Nat) : Int) = 1
  rw [Int.natAbs_natCast, Int.natAbs_natCast, p5]
  rfl

/-! ### the bag of draws -/
/-- the bag at b: what is left of a great cell, the stirred number, how many cells were taken, the cells -/
def BagAt (H : Hp) (b : Addr) : Prop := ∃ (x y z : Int) (l : Addr) (cs : List Int), H b = some (.lst [.int x, .int y, .int z, .ref l]) ∧ H l = some (.lst (cs.map V.int)) ∧ l ≠ b ∧ 0 ≤ x ∧ 0 ≤ y ∧ y < 2147483647 ∧ 0 ≤ z ∧ cs.length ≤ 63 ∧ ∀ c ∈ cs, 0 ≤ c
/-- its cells lie at l -/
def BagL (H : Hp) (b l : Addr) : Prop := ∃ x y z : Int, H b = some (.lst [.int x, .int y, .int z, .ref l])
theorem BagL.eq {H : Hp} {b l k : Addr} {x y z : Int} (h : BagL H b l) (e : H b = some (.lst [.int x, .int y, .int z, .ref k])) : l = k := by
  obtain ⟨x', y', z', e'⟩ := h
  rw [e] at e'
  cases e'
  rfl
/-- the bag alone has changed -/
structure Rel (b : Addr) (H H' : Hp) : Prop where
  keep : ∀ a o, a ≠ b → H a = some o → H' a = some o
  cell : ∀ l, BagL H b l → BagL H' b l
  bag : BagAt H' b
theorem Rel.refl {b : Addr} {H : Hp} (h : BagAt H b) : Rel b H H := ⟨fun _ _ _ e => e, fun _ h => h, h⟩
theorem Rel.trans {b : Addr} {H H1 H2 : Hp} (r : Rel b H H1) (s : Rel b H1 H2) : Rel b H H2 := ⟨fun a o n e => s.keep a o n (r.keep a o n e), fun l h => s.cell l (r.cell l h), s.bag⟩
theorem BagAt.same {b : Addr} {H H' : Hp} (h : BagAt H b) (s : Same H H') : BagAt H' b := by
  obtain ⟨x, y, z, l, cs, h1, h2, r⟩ := h
  exact ⟨x, y, z, l, cs, s _ _ h1, s _ _ h2, r⟩
theorem BagL.same {b l : Addr} {H H' : Hp} (h : BagL H b l) (s : Same H H') : BagL H' b l := by
  obtain ⟨x, y, z, e⟩ := h
  exact ⟨x, y, z, s _ _ e⟩
theorem Rel.same {b : Addr} {H H1 H2 : Hp} (r : Rel b H H1) (s : Same H1 H2) : Rel b H H2 := ⟨fun a o n e => s a o (r.keep a o n e), fun l h => (r.cell l h).same s, r.bag.same s⟩
theorem Rel.of_same {b : Addr} {H H1 : Hp} (h : BagAt H b) (s : Same H H1) : Rel b H H1 := ⟨fun a o n e => s a o e, fun l h => h.same s, h.same s⟩
theorem Rel.fut {b : Addr} {mu : Addr → Prop} {H H' : Hp} (r : Rel b H H') (h : mu b) (hb : BagAt H b) : Fut mu H H' := fun a o e z => r.keep a o (fun q => by
  rcases z with z | z | z
  · exact z (by rw [q]; exact h)
  · obtain ⟨x, y, z', l, cs, h1, _⟩ := hb
    obtain ⟨xs, rfl⟩ := z
    rw [q, h1] at e
    cases e
  · obtain ⟨x, y, z', l, cs, h1, _⟩ := hb
    obtain ⟨ob, u, rfl⟩ := z
    rw [q, h1] at e
    cases e) e
theorem Rel.some {b : Addr} {H H' : Hp} (r : Rel b H H') {a : Addr} (h : H' a = Option.none) : H a = Option.none := by
  by_cases e : a = b
  · obtain ⟨x, y, z', l, cs, h1, _⟩ := r.bag
    rw [e, h1] at h
    cases h
  · cases q : H a with
    | none => rfl
    | some o =>
      rw [r.keep a o e q] at h
      cases h
theorem same_upd {H : Hp} {p : Addr} {o : HO} (h : H p = Option.none) : Same H (upd H p o) := fun b x e => by
  rw [upd_ne (ne_of_none e h)]
  exact e
theorem cut_mem {xs : List V} {lo hi : Option Int} {v : V} (h : v ∈ cutV xs lo hi) : v ∈ xs := by
  unfold cutV at h
  exact List.mem_of_mem_drop (List.mem_of_mem_take h)
theorem cut_len (xs : List V) (lo hi : Option Int) : (cutV xs lo hi).length ≤ xs.length := by
  unfold cutV
  rw [List.length_take, List.length_drop]
  omega
theorem head_cell {cs : List Int} (h : ∀ c ∈ cs, 0 ≤ c) (lo hi : Option Int) : ∃ c : Int, 0 ≤ c ∧ (cutV (cs.map V.int) lo hi ++ [V.int 0])[0]? = some (.int c) := by
  cases e : cutV (cs.map V.int) lo hi with
  | nil => exact ⟨0, Int.le_refl _, rfl⟩
  | cons v r =>
    have m : v ∈ cutV (cs.map V.int) lo hi := by
      rw [e]
      exact List.mem_cons_self
    obtain ⟨c, hc, rfl⟩ := List.mem_map.mp (cut_mem m)
    exact ⟨c, h c hc, rfl⟩
/-- a drawn integer from 0 to many less 1 -/
def spTake : Sp := fun vs H Q _ => ∃ (b : Addr) (many : Int), vs = [.ref b, .int many] ∧ BagAt H b ∧ 0 < many ∧ many < 1073741824 ∧ ∀ v H', 0 ≤ v → v < many → Rel b H H' → Q (.int v) H'
end Sw
/-! What an expression that draws from the bag gives as a datum (Ge exactly, Gv by a word of it). -/
namespace Sw
open PySem PySem.Spec PyProof.Rows L2

def tLstN (t : TA) : TE := fun σ H Q => t σ H fun xs H1 => xs.length ≤ sizeLine ∧ ∀ p, H1 p = none → p ≠ sysModules → Q (.ref p) (upd H1 p (.lst xs))
/-- a list display: its place is new, and not that of sys.modules -/
theorem pe_lstN {X : Cx} {es : List Expr} {t : TA} {pos : Pos} (h : PA X es t) : PE X (.List es pos) (tLstN t) :=
  ⟨fun pins s σ H Q I hq => wpAny_List_spliced (thn (h.run pos pins s σ H _ I hq) fun us s1 g => by
    obtain ⟨xs, H1, I1, r, z, q⟩ := g
    exact ⟨by rw [← r.length]; exact z, .ref s1.heap.objs.size, upd H1 s1.heap.objs.size (.lst xs), I1.laid (t' := s1.toks) (fun b u e => Heap.get?_push_of_some _ e) (Nat.le_refl _) ⟨z, us, 0, r, Heap.get?_push_size _ rfl⟩, rfl,
      q _ (I1.hok.fresh (Nat.le_refl _)) (Nat.ne_of_gt I1.big)⟩)⟩
def tDNewN : TE := fun _ H Q => ∀ p, H p = none → p ≠ sysModules → Q (.ref p) (upd H p (.dK []))
theorem pe_dnewN {X : Cx} {pos : Pos} : PE X (.Dict [] [] pos) tDNewN := ⟨fun pins s σ H Q I h =>
  wpAny_Dict_empty ⟨.ref s.heap.objs.size, _, I.laid (a := s.heap.objs.size) (o := .dK []) (t' := s.toks) (fun _ _ q => Heap.get?_push_of_some _ q) (Nat.le_refl _) (dk_empty s.heap I.big), rfl, h _ (I.hok.fresh (Nat.le_refl _)) (Nat.ne_of_gt I.big)⟩⟩
/-- what may change is tracked (or sys.modules) -/
def MuOk (mu : Addr → Prop) (H : Hp) : Prop := ∀ a, mu a → H a ≠ none ∨ a = sysModules
theorem MuOk.rel {mu : Addr → Prop} {b : Addr} {H H' : Hp} (m : MuOk mu H) (r : Rel b H H') : MuOk mu H' := fun a h => by
  rcases m a h with z | z
  · refine .inl fun e => z (r.some e)
  · exact .inr z
theorem MuOk.same {mu : Addr → Prop} {H H' : Hp} (m : MuOk mu H) (s : Same H H') : MuOk mu H' := fun a h => by
  rcases m a h with z | z
  · exact .inl fun e => z (s.free e)
  · exact .inr z
theorem MuOk.new {mu : Addr → Prop} {H : Hp} (m : MuOk mu H) {p : Addr} (n : H p = none) (s : p ≠ sysModules) : ¬ mu p := fun h => (m p h).elim (fun z => z n) s
theorem MuOk.bag {H : Hp} {b : Addr} (h : BagAt H b) : MuOk (fun a => a = b ∨ a = sysModules) H := fun a z => by
  rcases z with rfl | z
  · obtain ⟨x, y, z, l, cs, h1, _⟩ := h
    exact .inl (by rw [h1]; exact fun z => nomatch z)
  · exact .inr z

/-- a list may be changed -/
def Own (H : Hp) (v : V) (d : PyData) : Prop := (∀ ds, d = .list ds → ∃ a xs, v = .ref a ∧ H a = some (.lst xs)) ∧ (d = .dict [] → ∃ a, v = .ref a ∧ H a = some (.dK []))
theorem Own.fut {K : PySem.W.Frag} {mu : Addr → Prop} {H H' : Hp} {v : V} {d : PyData} (o : Own H v d) (h : Dt K mu H v d) (f : Fut mu H H') : Own H' v d := ⟨fun ds e => by
  subst e
  obtain ⟨a, xs, rfl, e⟩ := o.1 ds rfl
  obtain ⟨a', _, e2, n, _, _⟩ := h.lstAt
  cases e2
  exact ⟨a, xs, rfl, f a _ e (.inl n)⟩, fun e => by
  subst e
  obtain ⟨a, rfl, e⟩ := o.2 rfl
  cases h with
  | dct n _ _ => exact ⟨a, rfl, f a _ e (.inl n)⟩⟩
theorem own_not {H : Hp} {v : V} {d : PyData} (h : ∀ ds, d ≠ .list ds) (h2 : d ≠ .dict [] := by intro z; cases z) : Own H v d := ⟨fun ds e => absurd e (h ds), fun e => absurd e h2⟩
/-- .. all of them -/
def OwnA (H : Hp) (vs : List V) (ds : List PyData) : Prop := ∀ (i : Nat) (v : V) (d : PyData), vs[i]? = some v → ds[i]? = some d → Own H v d
theorem OwnA.nil {H : Hp} {ds : List PyData} : OwnA H [] ds := fun i v d e => by simp at e
theorem OwnA.cons {H : Hp} {v : V} {vs : List V} {d : PyData} {ds : List PyData} (h : Own H v d) (t : OwnA H vs ds) : OwnA H (v :: vs) (d :: ds) := fun i x y e1 e2 => by
  cases i with
  | zero =>
    cases e1
    cases e2
    exact h
  | succ i => exact t i x y (by simpa using e1) (by simpa using e2)
section
variable (K : PySem.W.Frag) (b : Addr) (mu : Addr → Prop) (σ : L2.St) (H0 : Hp)
/-- the expression gives the datum d -/
def Ge (te : TE) (d : PyData) : Prop := ∀ H, Rel b H0 H → MuOk mu H → ∀ Q : VK, (∀ v H', Rel b H H' → Dt K mu H' v d → Q v H') → te σ H Q
/-- .. a datum of which D holds -/
def Gv (te : TE) (D : PyData → Prop) : Prop := ∀ H, Rel b H0 H → MuOk mu H → ∀ Q : VK, (∀ v H' d, D d → Rel b H H' → Dt K mu H' v d → Own H' v d → Q v H') → te σ H Q
def GeA (ta : TA) (ds : List PyData) : Prop := ∀ H, Rel b H0 H → MuOk mu H → ∀ Q : List V → Hp → Prop, (∀ vs H', Rel b H H' → DtA K mu H' vs ds → Q vs H') → ta σ H Q
def GvA (ta : TA) (D : PyData → Prop) (n : Nat) : Prop := ∀ H, Rel b H0 H → MuOk mu H → ∀ Q : List V → Hp → Prop, (∀ vs H' ds, ds.length = n → (∀ d ∈ ds, D d) → Rel b H H' → DtA K mu H' vs ds → OwnA H' vs ds → Q vs H') → ta σ H Q
end
section
variable {K : PySem.W.Frag} {b : Addr} {mu : Addr → Prop} {σ : L2.St} {H0 : Hp} {te : TE} {ta tr : TA} {d : PyData} {ds : List PyData} {D : PyData → Prop} {n : Nat}
theorem Ge.gv (h : Ge K b mu σ H0 te d) (hd : D d) (hn : ∀ ds, d ≠ .list ds := by intro _ z; cases z) (hn2 : d ≠ .dict [] := by intro z; cases z) : Gv K b mu σ H0 te D := fun H hb m Q q => h H hb m Q fun v H' r e => q v H' d hd r e (own_not hn hn2)
theorem gv_lst (hm : mu b) (h : GeA K b mu σ H0 ta ds) (hl : ds.length ≤ 1000) (hd : D (.list ds)) : Gv K b mu σ H0 (tLstN ta) D := fun H hb m Q q =>
  h H hb m _ fun vs H1 r e => ⟨Nat.le_of_lt (small1000 (by rw [e.length]; exact hl)), fun p np ns => q _ _ _ hd (r.same (same_upd np)) (.lst ((m.rel r).new np ns) (.inl upd_same) (e.fut (.of_same (same_upd np)))) ⟨fun _ _ => ⟨p, vs, rfl, upd_same⟩, fun z => nomatch z⟩⟩
theorem ge_int {i : Int} : Ge K b mu σ H0 (tC (.int i)) (.int i) := fun H hb _ _ q => q _ H (.refl hb.bag) (.int i)
theorem ge_bl {i : Bool} : Ge K b mu σ H0 (tC (.bl i)) (.bool i) := fun H hb _ _ q => q _ H (.refl hb.bag) (.bl i)
theorem ge_str {i : Str} : Ge K b mu σ H0 (tC (.str i)) (.str i) := fun H hb _ _ q => q _ H (.refl hb.bag) (.str i)
theorem ge_non : Ge K b mu σ H0 (tC .non) .none := fun H hb _ _ q => q _ H (.refl hb.bag) .non
theorem ge_neg {i : Int} : Ge K b mu σ H0 (tUn (rU fun i => .int (-i)) (tC (.int i))) (.int (-i)) := fun H hb _ _ q => ⟨i, rfl, q _ H (.refl hb.bag) (.int _)⟩
theorem geA_nil : GeA K b mu σ H0 tNil [] := fun H hb _ _ q => q _ H (.refl hb.bag) .nil
theorem geA_cons (hm : mu b) (h : Ge K b mu σ H0 te d) (t : GeA K b mu σ H0 tr ds) : GeA K b mu σ H0 (tCons te tr) (d :: ds) := fun H hb m _ q =>
  h H hb m _ fun v H1 r1 e1 => t H1 (hb.trans r1) (m.rel r1) _ fun vs H2 r2 e2 => q _ H2 (r1.trans r2) (.cons (e1.fut (r2.fut hm r1.bag)) e2)
theorem gvA_nil : GvA K b mu σ H0 tNil D 0 := fun H hb _ _ q => q _ H [] rfl (fun _ z => nomatch z) (.refl hb.bag) .nil .nil
theorem gvA_cons (hm : mu b) (h : Gv K b mu σ H0 te D) (t : GvA K b mu σ H0 tr D n) : GvA K b mu σ H0 (tCons te tr) D (n + 1) := fun H hb m _ q =>
  h H hb m _ fun v H1 d hd r1 e1 o1 => t H1 (hb.trans r1) (m.rel r1) _ fun vs H2 ds hl hds r2 e2 o2 => q _ H2 (d :: ds) (by rw [List.length_cons, hl]) (fun x z => by
    rcases List.mem_cons.mp z with rfl | z
    · exact hd
    · exact hds x z) (r1.trans r2) (.cons (e1.fut (r2.fut hm r1.bag)) e2) (.cons (o1.fut e1 (r2.fut hm r1.bag)) o2)
theorem ge_tup (hm : mu b) (h : GeA K b mu σ H0 ta ds) (hl : ds.length ≤ 1000) : Ge K b mu σ H0 (tTup ta) (.tuple ds) := fun H hb m _ q =>
  h H hb m _ fun vs H1 r e => ⟨Nat.le_of_lt (small1000 (by rw [e.length]; exact hl)), fun p np => q _ _ (r.same (same_upd np)) (.tup (.inl upd_same) (e.fut (.of_same (same_upd np))))⟩
theorem ge_lst (hm : mu b) (h : GeA K b mu σ H0 ta ds) (hl : ds.length ≤ 1000) : Ge K b mu σ H0 (tLstN ta) (.list ds) := fun H hb m _ q =>
  h H hb m _ fun vs H1 r e => ⟨Nat.le_of_lt (small1000 (by rw [e.length]; exact hl)), fun p np ns => q _ _ (r.same (same_upd np)) (.lst ((m.rel r).new np ns) (.inl upd_same) (e.fut (.of_same (same_upd np))))⟩
end
theorem gv_dict {K : PySem.W.Frag} {b : Addr} {mu : Addr → Prop} {σ : L2.St} {H0 : Hp} {D : PyData → Prop} (hd : D (.dict [])) : Gv K b mu σ H0 tDNewN D := fun H hb m Q q =>
  fun p np ns => q _ _ _ hd (Rel.of_same hb.bag (same_upd np)) (.dct (m.new np ns) (.inl upd_same) .nil) ⟨(fun _ z => nomatch z), fun _ => ⟨p, rfl, upd_same⟩⟩
/-- a menu of drawn things: t is a list, one of its items comes back -/
def spSome : Sp := fun vs H Q _ => ∃ (b t : Addr) (xs : List V), vs = [.ref b, .ref t] ∧ BagAt H b ∧ t ≠ b ∧ H t = some (.lst xs) ∧ 0 < xs.length ∧ xs.length ≤ 1000 ∧ ∀ (i : Nat) v H', xs[i]? = some v → Rel b H H' → Q v H'
/-- a menu is asked -/
theorem gv_some {K : PySem.W.Frag} {b : Addr} {mu : Addr → Prop} {σ : L2.St} {H0 : Hp} {ta : TA} {D : PyData → Prop} {n i : Nat} (hm : mu b) (hσ : σ[i]? = some (some (.ref b))) (h : GvA K b mu σ H0 ta D n) (h0 : 0 < n) (h1 : n ≤ 1000) :
    Gv K b mu σ H0 (tCall spSome [] E0 (tCons (tVar i) (tCons (tLst ta) tNil))) D := fun H hb m Q q => by
  refine ⟨_, hσ, h H hb m _ fun vs H1 ds hl hD r e oo => ?_⟩
  have hv : vs.length = n := e.length.trans hl
  refine ⟨Nat.le_of_lt (small1000 (by omega)), fun p np => ?_⟩
  have nb : p ≠ b := fun z => by
    obtain ⟨x, y, z', l, cs, h1, _⟩ := r.bag
    rw [z, h1] at np
    cases np
  refine ⟨b, p, vs, rfl, r.bag.same (same_upd np), nb, upd_same, by omega, by omega, fun j v H2 hj r2 => ?_⟩
  obtain ⟨d, hd, ed⟩ := e.get hj
  have o1 := (oo j v d hj hd).fut ed (.of_same (same_upd (o := .lst vs) np))
  have r3 := r.same (same_upd (o := .lst vs) np)
  exact q v H2 d (hD d (List.mem_of_getElem? hd)) (r3.trans r2) ((ed.fut (.of_same (same_upd np))).fut (r2.fut hm r3.bag)) (o1.fut (ed.fut (.of_same (same_upd np))) (r2.fut hm r3.bag))
theorem gv_var {K : PySem.W.Frag} {b : Addr} {mu : Addr → Prop} {σ : L2.St} {H0 : Hp} {i : Nat} {v : V} {d : PyData} {D : PyData → Prop} (hm : mu b) (hb : BagAt H0 b) (hσ : σ[i]? = some (some v)) (h : Dt K mu H0 v d) (o : Own H0 v d) (hd : D d) : Gv K b mu σ H0 (tVar i) D := fun H r m Q q =>
  ⟨v, hσ, q v H d hd (.refl r.bag) (h.fut (r.fut hm hb)) (o.fut h (r.fut hm hb))⟩
/-- a menu that lies ready -/
theorem gv_someV {K : PySem.W.Frag} {b : Addr} {mu : Addr → Prop} {σ : L2.St} {H0 : Hp} {D : PyData → Prop} {i j : Nat} {t : Addr} {xs : List V} {ds : List PyData} (hm : mu b) (hb : BagAt H0 b) (hσ : σ[i]? = some (some (.ref b))) (hτ : σ[j]? = some (some (.ref t))) (ht : H0 t = some (.lst xs)) (nt : t ≠ b)
    (e : DtA K mu H0 xs ds) (o : OwnA H0 xs ds) (hD : ∀ d ∈ ds, D d) (h0 : 0 < ds.length) (h1 : ds.length ≤ 1000) : Gv K b mu σ H0 (tCall spSome [] E0 (tCons (tVar i) (tCons (tVar j) tNil))) D := fun H r m Q q => by
  have hv : xs.length = ds.length := e.length
  refine ⟨_, hσ, _, hτ, b, t, xs, rfl, r.bag, nt, r.keep _ _ nt ht, by omega, by omega, fun k v H2 hk r2 => ?_⟩
  obtain ⟨d, hd, ed⟩ := e.get hk
  have f := (r.trans r2).fut hm hb
  exact q v H2 d (hD d (List.mem_of_getElem? hd)) r2 (ed.fut f) ((o k v d hk hd).fut ed f)
/-- a def over the bag (and further arguments) gives a datum of which D holds -/
def spG (K : PySem.W.Frag) (as : List V) (D : PyData → Prop) : Sp := fun vs H Q _ => ∃ (b : Addr) (mu : Addr → Prop), vs = .ref b :: as ∧ mu b ∧ BagAt H b ∧ MuOk mu H ∧ ∀ v H' d, D d → Rel b H H' → Dt K mu H' v d → Own H' v d → Q v H'
/-- a drawn FRACTION above 0 -/
def NumP (n m : Int) : Prop := 1 ≤ n ∧ n ≤ 1000000000000 ∧ 1 ≤ m ∧ m ≤ 1000000000000 ∧ gI n m = 1
def NumD (d : PyData) : Prop := ∃ n m, d = .tuple [.int n, .int m] ∧ NumP n m
def spNum (K : PySem.W.Frag) : Sp := fun vs H Q E => ∃ most : Int, 0 < most ∧ most ≤ 100000000 ∧ spG K [.int most] NumD vs H Q E
theorem ge_num {K : PySem.W.Frag} {b : Addr} {mu : Addr → Prop} {σ : L2.St} {H0 : Hp} {i : Nat} {n : Int} (hm : mu b) (hσ : σ[i]? = some (some (.ref b))) (h0 : 0 < n) (h1 : n ≤ 100000000) :
    Gv K b mu σ H0 (tCall (spNum K) [] E0 (tCons (tVar i) (tCons (tC (.int n)) tNil))) NumD := fun H hb m Q q =>
  ⟨_, hσ, n, h0, h1, b, mu, rfl, hm, hb.bag, m, q⟩
theorem numD {n m : Int} (h : NumP n m) : NumD (.tuple [.int n, .int m]) := ⟨n, m, rfl, h⟩
theorem int_pow {n : Int} (h1 : 1 ≤ n) (h2 : n ≤ 1000000000000) : n.natAbs < 10 ^ 500 := by
  have e : (1000000000000 : Nat) < 10 ^ 500 := by decide +kernel
  omega
theorem NumD.not {H : Hp} {v : V} {d : PyData} (h : NumD d) : Own H v d := by
  obtain ⟨n, m, rfl, _⟩ := h
  exact own_not fun _ z => nomatch z
theorem numD_ok {d : PyData} (h : NumD d) : Ok d ∧ d.hasDict = false ∧ d.weight ≤ 202 ∧ d.depth = 1 := by
  obtain ⟨n, m, rfl, h1, h2, h3, h4, _⟩ := h
  have w : ∀ i : Int, 1 ≤ i → i ≤ 1000000000000 → (PyData.int i).weight ≤ 100 := fun i a b => by
    have hz : i.natAbs ≠ 0 := by omega
    have e : i.natAbs.log2 < 40 := (Nat.log2_lt hz).mpr (by omega)
    simp only [PyData.weight]
    split <;> omega
  have w1 := w n h1 h2
  have w2 := w m h3 h4
  have e1 : (PyData.tuple [.int n, .int m]).weight ≤ 202 := by
    simp only [PyData.weight, PyData.weightAll] at w1 w2 ⊢
    omega
  have e2 : (PyData.tuple [.int n, .int m]).depth = 1 := by
    simp [PyData.depth, PyData.depthAll]
  refine ⟨⟨?_, by rw [e2]; decide, by omega⟩, by simp [PyData.hasDict, PyData.hasDictAll], e1, e2⟩
  simp only [okD, okA, Bool.and_true, Bool.and_eq_true, decide_eq_true_eq]
  exact ⟨int_pow h1 h2, int_pow h3 h4⟩
end Sw
/-! Own exceptions as values: made by their own __init__, fields read, classes asked. -/
namespace Sw
open PySem PySem.Spec PyProof.Rows L2

/-- C(e, ..), an error as a value -/
def tMkV (C : Addr) (sp : Sp) (ta : TA) : TE := fun σ H Q => ta σ H fun vs H1 => vs.length ≤ 1000 ∧ ∀ a, H1 a = none → sp (.ref a :: vs) (upd H1 a (exo a C none)) (fun v H2 => v = .non ∧ Q (.ref a) H2) E0
theorem pe_exV {X : Cx} {x : Str} {C fI : Addr} {k : Nat} {fd : FuncData} {ps : List Str} {sp : Sp} {e : Expr} {es : List Expr} {ta : TA} {p pos : Pos} (T : OexC X.K C) (iC : PySem.W.findIn X.K (.ref C) "__init__" = some (some (.ref fI))) (tI : PySem.W.typeIn X.K (.ref fI) = some (.type "function"))
    (F1 : FnG X.prog X.w X.K X.mg X.base k fI fd ps sp) (g : Gd X.A) (hr : Room (k + 1) X.A) (hb : Binds X.K fd ps []) (hg : Gl X x) (hm : X.mg x = some (.ref C)) (ha : PA X (e :: es) ta)
    (hdb : (x == ("__debug__" : Str)) = false := by decide) (he : starEach (e :: es) X.env = (false, eval e X.env) :: starEach es X.env := by rfl) (hpl : (backTo pos (starEach es X.env)).any (·.1) = false := by rfl) :
    PE X (.Call (.Name x p) (e :: es) [] pos) (tMkV C sp ta) := by
  refine ⟨fun pins s σ H Q I h => ?_⟩
  obtain ⟨nm, q, N, bs, bm, sn, sub, ab, col, dd, k0, k1, k2, k3, k5, hC, hbm⟩ := T.cls
  refine wpAny_Call_Name_kw (ld_glob I hg hm ?_ hdb)
  refine PySem.W.callWith_K (h₀ := X.base) I.ok.mod.kin T.kC (thn (ha.run pos pins s σ H _ I h) fun us s1 ⟨vs, H1, I1, r1, hz, q1⟩ => ⟨I1.kIn, ?_⟩) he hpl
  show wpAny _ _ (call (.ref C) us) _ _ _
  obtain ⟨hp, g1, dr, tk, os⟩ := s1
  have hsz : hp.objs.size ≤ hp.objs.size + 1 := Nat.le_succ _
  have hn : H1 (hp.objs.size + 1) = none := I1.hok.fresh hsz
  have hq := q1 (hp.objs.size + 1) hn
  have kk : ∀ b o, hp.get? b = some o → ((hp.push (PySem.W.kdv_tup us)).push (PySem.HandSPX.excO C hp.objs.size)).get? b = some o := fun b o e => Heap.get?_push_of_some _ (Heap.get?_push_of_some _ e)
  have hget : ((hp.push (PySem.W.kdv_tup us)).push (PySem.HandSPX.excO C hp.objs.size)).get? (hp.objs.size + 1) = some (PySem.HandSPX.excO C hp.objs.size) := by heap_get
  have I2 : Inv X pins σ (upd H1 (hp.objs.size + 1) (exo (hp.objs.size + 1) C none)) ⟨(hp.push (PySem.W.kdv_tup us)).push (PySem.HandSPX.excO C hp.objs.size), g1, dr, tk, os⟩ :=
    I1.laid (t' := tk) (a := hp.objs.size + 1) (o := exo (hp.objs.size + 1) C none) (h' := (hp.push (PySem.W.kdv_tup us)).push (PySem.HandSPX.excO C hp.objs.size)) kk hsz (exo_ok hget)
  have r2 : Vals (V.ref (hp.objs.size + 1) :: vs) (Value.ref (hp.objs.size + 1) :: us) := .cons rfl r1
  have hl : (Value.ref (hp.objs.size + 1) :: us).length = ps.length := r2.length.symm.trans (F1.len _ _ _ _ hq)
  have hus : us.length ≤ sizeLine := by
    rw [← Paired.length r1, sizeLine_eq]
    omega
  have hbb := hb ⟨(hp.push (PySem.W.kdv_tup us)).push (PySem.HandSPX.excO C hp.objs.size), g1, dr, tk, os⟩ (Value.ref (hp.objs.size + 1) :: us) I2.kIn (by simpa using hl)
  rw [List.append_nil] at hbb
  refine wpAny_call (PySem.HandSPX.call_own F.excBase_ValueError (fun Y => PySem.HandSPX.refsVE_contains Y bm hbm) (I1.kIn _ _ hC) (PySem.W.looks_findIn I1.kIn iC) (fun self => PySem.W.bind_fn I1.kIn self tI) hus
    (codeAny_mono (F1.go (Gd.make g C us []) (hr.make C us []) (I2.env0.make C us []) hbb r2 hq) fun r s' hq' => ?_))
  match r, hq' with
  | .ok (.ret u), hq' =>
    obtain ⟨v, H2, I3, rv, ev, q2⟩ := I2.after hq'
    subst ev
    exact ⟨rv, .ref (hp.objs.size + 1), H2, I3, rfl, q2⟩
/-- C(), C without an own __init__ -/
def tMk0 (C : Addr) : TE := fun σ H Q => ∀ a, H a = none → Q (.ref a) (upd H a (exo a C none))
theorem pe_ex0 {X : Cx} {C : Addr} {bmB : List Value} {B newId initId : String} {x : Str} {p pos : Pos} (F : ExcBaseFacts B newId initId bmB) (q : PySem.W.excIn X.K C bmB newId = true) (gC : X.mg x = some (.ref C)) (kC : PySem.W.keepIn X.K (.ref C) = true) (hg : Gl X x)
    (hdb : (x == ("__debug__" : Str)) = false := by decide) :
    PE X (.Call (.Name x p) [] [] pos) (tMk0 C) := by
  refine ⟨fun pins s σ H Q I h => ?_⟩
  refine wpAny_Call_Name_kw (ld_glob I hg gC (PySem.W.callWith_K0 I.kIn kC ?_) hdb)
  obtain ⟨bm, N, nm, qn, bs, hdct, sn, sub, ab, col, dd, k0, k1, k2, k3, k5, mN, hC, hN, hni, T⟩ := exc_obj I.kIn q
  refine wpAny_call_exc_subT F T hC hN hni (fun h' a hm => ?_) (by show 0 ≤ sizeLine; rw [sizeLine_eq]; omega)
  have hn : H a = none := I.hok.gone hm.new
  obtain ⟨t, ht, _, _⟩ := hm.there
  exact ⟨.ref a, upd H a (exo a C none), I.laidN hm.keeps hm.new hn (exo_ok ht), rfl, h a hn⟩
/-- e.f, e an own error whose dict is known -/
def tXv (K : PySem.W.Frag) (f : Str) (te : TE) : TE := fun σ H Q => te σ H fun x H1 => ∃ (a C dx : Addr) (fs : List (Str × V)) (v : V), x = .ref a ∧ XfC K C ∧ PySem.W.findIn K (.ref C) f = some none ∧ H1 a = some (exo a C (some dx)) ∧ H1 dx = some (exd dx fs) ∧ fs.lookup f = some v ∧ Q v H1
theorem pe_xv {X : Cx} {e : Expr} {te : TE} {pos : Pos} {n : Str} (he : PE X e te) (hb : attributeBase e n X.env (eval e X.env) = eval e X.env := by rfl) :
    PE X (.Attribute e n pos) (tXv X.K n te) := by
  refine ⟨fun pins s σ H Q I h => ?_⟩
  refine attr_of hb (thn (he.run pins s σ H _ I h) fun u s1 hh => ?_)
  obtain ⟨x, H1, I1, rx, a, C, dx, fs, v, rfl, T, hno, ea, ed, l, q⟩ := hh
  obtain rfl : u = Value.ref a := rx
  obtain ⟨t1, ho⟩ := exo_at I1.hok ea
  obtain ⟨mA, hns, hr⟩ := exd_at I1.hok ed
  obtain ⟨od, hod, hl⟩ := lookIn_ns hns
  obtain ⟨u, hu, ru⟩ := RelO.some_of (v := v) (o := mA n) (by rw [← l]; exact hr n)
  have J : PySem.W.InstAt s1.heap a { cls := .ref C, dict := some dx, data := .fields #[.ref t1, .none, .none, .none, .bool false, .none] } C (some od) := ⟨ho, rfl, rfl, hod⟩
  exact HandSPX.exc_get I1.kIn J T.ga T.gg T.exC (PySem.W.findObj_own T.hdC hno rfl (by rw [hl, hu])) (handed_of ru) ⟨v, H1, I1.tok _, ru, q⟩
/-- isinstance(e, c), e an own error -/
def rIsX (K : PySem.W.Frag) : List V → Hp → VK → Prop := fun xs H Q => ∃ (a D : Addr) (dx : Option Addr) (c : V) (cv : Value) (b : Bool), xs = [.ref a, c] ∧ ExcC K D ∧ H a = some (exo a D dx) ∧ (∀ d, dx = some d → ∃ fs, H d = some (exd d fs)) ∧ (∀ u, RelV c u → u = cv) ∧ PySem.W.kitOne K (.ref D) cv = some b ∧ Q (.bl b) H
theorem call_isX {X : Cx} : CallR X (.builtin "isinstance") (rIsX X.K) := by
  intro pins s σ H xs us Q I r h
  obtain ⟨a, D, dx, c, cv, b, rfl, C, ea, hd, hcv, e, q⟩ := h
  cases r with
  | cons rx rr =>
    cases rr with
    | cons rt rr =>
      cases rr
      cases rx
      have ec := hcv _ rt
      subst ec
      obtain ⟨t1, ho⟩ := exo_at I.hok ea
      have hcl : (PySem.W.clsIn X.K D).isSome = true := by
        obtain ⟨cd, hc, _⟩ := PySem.W.any_some C.hd
        rw [hc]
        rfl
      have J : ∃ od, PySem.W.InstAt s.heap a { cls := .ref D, dict := dx, data := .fields #[.ref t1, .none, .none, .none, .bool false, .none] } D od := by
        cases dx with
        | none => exact ⟨none, ho, rfl, rfl, trivial⟩
        | some d =>
          obtain ⟨fs, ed⟩ := hd d rfl
          obtain ⟨mA, hns, _⟩ := exd_at I.hok ed
          obtain ⟨o, es, ep, e1, _⟩ := hns
          exact ⟨some o, ho, rfl, rfl, e1⟩
      obtain ⟨od, J⟩ := J
      exact PySem.W.kia_one (PySem.W.kitx_exc hcl C.hg C.hk C.hs C.ha C.hn C.ht C.hm) I.kIn J e (fun z => nomatch z) fun tk => ⟨.bl b, H, I.kept (t' := tk) fun _ _ z => z, rfl, q⟩
/-- __init__(self, y): self.f = y -/
def spInit1 (K : PySem.W.Frag) (C : Addr) (f : Str) : Sp := fun vs H Q _ => ∃ (a : Addr) (y : V), vs = [.ref a, y] ∧ H a = some (exo a C none) ∧ ∀ d, H d = none → d ≠ a → Q .non (upd (upd H d (exd d [(f, y)])) a (exo a C (some d)))
def spInit2 (K : PySem.W.Frag) (C : Addr) (f g : Str) : Sp := fun vs H Q _ => ∃ (a : Addr) (y z : V), vs = [.ref a, y, z] ∧ H a = some (exo a C none) ∧ ∀ d H', H d = none → d ≠ a → H' a = some (exo a C (some d)) → H' d = some (exd d [(g, z), (f, y)]) → (∀ b, b ≠ a → b ≠ d → H' b = H b) → Q .non H'
/-- a tuple's display, not to be looked into -/
@[irreducible] def tTupI (t : TA) : TE := tTup t
theorem pe_tupI {X : Cx} {es : List Expr} {k : Nat} {t : TA} {pos : Pos} (h : PA X es t) : PE X (.Tuple es k pos) (tTupI t) := by
  unfold tTupI
  exact pe_tup h
theorem pg_tupK {X : Cx} {K : PySem.W.Frag} {es : List Expr} {k : Nat} {t : TGs} {n : Nat} {pos : Pos} (hK : X.K = K) (hc : X.calm = true) (h : PGs X es t)
    (hn : (assignEach es X.env).length = n := by rfl) (hst : (assignEach es X.env).findIdx? (·.1) = none := by rfl) : PG X (.Tuple es k pos) (gTup K n t) := by
  subst hK
  exact pg_tup hc h hn hst
/-- the module's name x is an error class whose __init__ keeps sp -/
structure ExV (P : Program) (w : World) (K : PySem.W.Frag) (mg : Str → Option Value) (base : Heap) (x : Str) (C : Addr) (sp : Sp) : Prop where
  hm : mg x = some (.ref C)
  oex : OexC K C
  fn : ∃ (fI : Addr) (fd : FuncData) (ps : List Str), PySem.W.findIn K (.ref C) "__init__" = some (some (.ref fI)) ∧ PySem.W.typeIn K (.ref fI) = some (.type "function") ∧ FnG P w K mg base 1 fI fd ps sp ∧ Binds K fd ps []
theorem pex {X : Cx} {x : Str} {C : Addr} {j : Nat} {sp : Sp} {e : Expr} {es : List Expr} {ta : TA} {p pos : Pos} (c : ExV X.prog X.w X.K X.mg X.base x C sp) (g : Gd X.A) (hr : Room j X.A) (hk : 2 ≤ j) (hg : Gl X x) (ha : PA X (e :: es) ta)
    (hdb : (x == ("__debug__" : Str)) = false := by decide) (he : starEach (e :: es) X.env = (false, eval e X.env) :: starEach es X.env := by rfl) (hpl : (backTo pos (starEach es X.env)).any (·.1) = false := by rfl) :
    PE X (.Call (.Name x p) (e :: es) [] pos) (tMkV C sp ta) := by
  obtain ⟨fI, fd, ps, iC, tI, F, b⟩ := c.fn
  exact pe_exV c.oex iC tI F g (hr.mono hk) b hg c.hm ha hdb he hpl
/-- .. without an own __init__ -/
structure Ex0 (K : PySem.W.Frag) (mg : Str → Option Value) (x : Str) (C : Addr) : Prop where
  hm : mg x = some (.ref C)
  kC : PySem.W.keepIn K (.ref C) = true
  q : PySem.W.excIn K C [.type "ValueError", .type "Exception", .type "BaseException", .type "object"] "ValueError.__new__" = true
theorem px0 {X : Cx} {x : Str} {C : Addr} {p pos : Pos} (c : Ex0 X.K X.mg x C) (hg : Gl X x) (hdb : (x == ("__debug__" : Str)) = false := by decide) :
    PE X (.Call (.Name x p) [] [] pos) (tMk0 C) := pe_ex0 F.excBase_ValueError c.q c.hm c.kC hg hdb
end Sw
/-! Fractions in lowest terms, by integers. -/
namespace Sw
open PySem PySem.Spec PyProof.Rows L2

/-- nothing but 1 divides both -/
def Cp (a b : Int) : Prop := Nat.Coprime a.natAbs b.natAbs
theorem Cp.of {a b : Int} (h : ∀ k : Nat, (k : Int) ∣ a → (k : Int) ∣ b → k = 1) : Cp a b := by
  refine h _ ?_ ?_
  · exact Int.ofNat_dvd_left.mpr (Nat.gcd_dvd_left _ _)
  · exact Int.ofNat_dvd_left.mpr (Nat.gcd_dvd_right _ _)
theorem Cp.one {a b : Int} (c : Cp a b) {k : Nat} (h1 : (k : Int) ∣ a) (h2 : (k : Int) ∣ b) : k = 1 := by
  have h := Nat.dvd_gcd (Int.ofNat_dvd_left.mp h1) (Int.ofNat_dvd_left.mp h2)
  rw [show Nat.gcd a.natAbs b.natAbs = 1 from c] at h
  exact Nat.dvd_one.mp h
theorem Cp.symm {a b : Int} (h : Cp a b) : Cp b a := Nat.Coprime.symm h
theorem Cp.left {a b c : Int} (h : Cp a b) (d : c ∣ a) : Cp c b := .of fun _ h1 h2 => h.one (Int.dvd_trans h1 d) h2
theorem Cp.right {a b c : Int} (h : Cp a b) (d : c ∣ b) : Cp a c := (h.symm.left d).symm
theorem Cp.mul {a b c : Int} (h1 : Cp a b) (h2 : Cp a c) : Cp a (b * c) := by
  unfold Cp
  rw [Int.natAbs_mul]
  exact Nat.Coprime.mul_right h1 h2
theorem Cp.mulL {a b c : Int} (h1 : Cp a c) (h2 : Cp b c) : Cp (a * b) c := (h1.symm.mul h2.symm).symm
theorem Cp.add {a b k : Int} (h : Cp a b) : Cp (a + k * b) b := .of fun j h1 h2 => by
  have h3 : (j : Int) ∣ k * b := Int.dvd_trans h2 (Int.dvd_mul_left k b)
  have h4 : (j : Int) ∣ (a + k * b) - k * b := Int.dvd_sub h1 h3
  rw [Int.add_sub_cancel] at h4
  exact h.one h4 h2
theorem Cp.neg {a b : Int} (h : Cp a b) : Cp (-a) b := by
  unfold Cp
  rw [Int.natAbs_neg]
  exact h
theorem Cp.dvd {a b c : Int} (h : Cp a b) (d : a ∣ b * c) : a ∣ c := by
  rw [← Int.natAbs_dvd_natAbs] at d ⊢
  rw [Int.natAbs_mul] at d
  exact Nat.Coprime.dvd_of_dvd_mul_left h d
theorem gI_cp {a b : Int} : gI a b = 1 ↔ Cp a b := by
  unfold gI Cp Nat.Coprime
  omega
theorem gI_dvd (a b : Int) : gI a b ∣ a ∧ gI a b ∣ b := ⟨Int.ofNat_dvd_left.mpr (Nat.gcd_dvd_left _ _), Int.ofNat_dvd_left.mpr (Nat.gcd_dvd_right _ _)⟩
theorem gI_pos {a b : Int} (h : b ≠ 0) : 0 < gI a b := by
  have : 0 < Nat.gcd a.natAbs b.natAbs := Nat.gcd_pos_of_pos_right _ (by omega)
  unfold gI
  omega
/-- by the common divisor, nothing common is left -/
theorem cp_div {a b : Int} (h : b ≠ 0) : Cp (a / gI a b) (b / gI a b) := by
  have g := gI_pos (a := a) h
  obtain ⟨⟨x, hx⟩, y, hy⟩ := gI_dvd a b
  have ex : a / gI a b = x := Int.ediv_eq_of_eq_mul_right (by omega) hx
  have ey : b / gI a b = y := Int.ediv_eq_of_eq_mul_right (by omega) hy
  rw [ex, ey]
  have e1 : x.natAbs = a.natAbs / Nat.gcd a.natAbs b.natAbs := by
    have := congrArg Int.natAbs hx
    rw [Int.natAbs_mul] at this
    unfold gI at this g
    rw [Int.natAbs_natCast] at this
    exact (Nat.div_eq_of_eq_mul_right (by omega) this).symm
  have e2 : y.natAbs = b.natAbs / Nat.gcd a.natAbs b.natAbs := by
    have := congrArg Int.natAbs hy
    rw [Int.natAbs_mul] at this
    unfold gI at this g
    rw [Int.natAbs_natCast] at this
    exact (Nat.div_eq_of_eq_mul_right (by omega) this).symm
  unfold Cp
  rw [e1, e2]
  exact Nat.coprime_div_gcd_div_gcd (Nat.gcd_pos_of_pos_right _ (by omega))
/-- a FRACTION -/
structure Fr (n d : Int) : Prop where
  pos : 0 < d
  cp : Cp n d
theorem fr_eq {n d p q : Int} (h1 : Fr n d) (h2 : Fr p q) (e : n * q = p * d) : n = p ∧ d = q := by
  have a : d ∣ q := h1.cp.symm.dvd (by rw [e]; exact Int.dvd_mul_left p d)
  have b : q ∣ d := h2.cp.symm.dvd (by rw [← e]; exact Int.dvd_mul_left n q)
  have c : d = q := Int.dvd_antisymm (Int.le_of_lt h1.pos) (Int.le_of_lt h2.pos) a b
  subst c
  exact ⟨Int.eq_of_mul_eq_mul_right (by have := h1.pos; omega) e, rfl⟩
theorem redI_fr {x y : Int} (h : y ≠ 0) : Fr (redI x y).1 (redI x y).2 ∧ (redI x y).1 * y = x * (redI x y).2 := by
  have g := gI_pos (a := x) h
  obtain ⟨⟨a, ha⟩, b, hb⟩ := gI_dvd x y
  have ex : x / gI x y = a := Int.ediv_eq_of_eq_mul_right (by omega) ha
  have ey : y / gI x y = b := Int.ediv_eq_of_eq_mul_right (by omega) hb
  have c := cp_div (a := x) h
  rw [ex, ey] at c
  have cross : a * y = x * b := by
    generalize gI x y = k at ha hb
    subst ha hb
    simp only [Int.mul_left_comm, Int.mul_comm]
  unfold redI
  rw [sh_eq h]
  by_cases hy : y < 0
  · rw [if_pos hy, Int.neg_ediv_of_dvd (gI_dvd x y).1, Int.neg_ediv_of_dvd (gI_dvd x y).2, ex, ey]
    refine ⟨⟨?_, ?_⟩, ?_⟩
    · show 0 < -b
      have : b < 0 := by
        rcases Int.lt_or_le b 0 with z | z
        · exact z
        · have := Int.mul_nonneg (Int.le_of_lt g) z
          omega
      omega
    · show Cp (-a) (-b)
      exact (c.neg.symm.neg).symm
    · show -a * y = x * -b
      rw [Int.neg_mul, Int.mul_neg, cross]
  · rw [if_neg hy, ex, ey]
    refine ⟨⟨?_, c⟩, cross⟩
    show 0 < b
    rcases Int.lt_or_le 0 b with z | z
    · exact z
    · have := Int.mul_nonneg (Int.le_of_lt g) (show 0 ≤ -b by omega)
      rw [Int.mul_neg] at this
      omega
theorem redI_eq {x y p q : Int} (h : y ≠ 0) (f : Fr p q) (e : x * q = p * y) : redI x y = (p, q) := by
  obtain ⟨h1, h2⟩ := redI_fr (x := x) h
  have key : (redI x y).1 * q = p * (redI x y).2 := by
    have e3 : ((redI x y).1 * q) * y = (p * (redI x y).2) * y := by
      calc ((redI x y).1 * q) * y = ((redI x y).1 * y) * q := by rw [Int.mul_assoc, Int.mul_comm q y, ← Int.mul_assoc]
        _ = (x * (redI x y).2) * q := by rw [h2]
        _ = (x * q) * (redI x y).2 := by rw [Int.mul_assoc, Int.mul_comm (redI x y).2 q, ← Int.mul_assoc]
        _ = (p * y) * (redI x y).2 := by rw [e]
        _ = (p * (redI x y).2) * y := by rw [Int.mul_assoc, Int.mul_comm y, ← Int.mul_assoc]
    exact Int.eq_of_mul_eq_mul_right h e3
  obtain ⟨a, b⟩ := fr_eq h1 f key
  exact Prod.ext a b
/-- the program's own sum is in lowest terms -/
theorem add_red {n d m e : Int} (h1 : Fr n d) (h2 : Fr m e) : redI (n * e + m * d) (d * e) =
    ((n * (e / gI d e) + m * (d / gI d e)) / gI (n * (e / gI d e) + m * (d / gI d e)) (gI d e), d / gI d e * (e / gI (n * (e / gI d e) + m * (d / gI d e)) (gI d e))) := by
  have he : e ≠ 0 := by have := h2.pos; omega
  have hd : d ≠ 0 := by have := h1.pos; omega
  have gp := gI_pos (a := d) he
  have hdvd := gI_dvd d e
  have hc := cp_div (a := d) he
  obtain ⟨d1, ed⟩ := hdvd.1
  obtain ⟨e1, ee⟩ := hdvd.2
  have qd : d / gI d e = d1 := Int.ediv_eq_of_eq_mul_right (by omega) ed
  have qe : e / gI d e = e1 := Int.ediv_eq_of_eq_mul_right (by omega) ee
  rw [qd, qe] at hc ⊢
  generalize hg : gI d e = c at *
  have hc0 : c ≠ 0 := by omega
  -- part and what it shares with c
  have lp := gI_pos (a := n * e1 + m * d1) hc0
  have ldv := gI_dvd (n * e1 + m * d1) c
  have lcp := cp_div (a := n * e1 + m * d1) hc0
  obtain ⟨p, ep⟩ := ldv.1
  obtain ⟨r, er⟩ := ldv.2
  have qp : (n * e1 + m * d1) / gI (n * e1 + m * d1) c = p := Int.ediv_eq_of_eq_mul_right (by omega) ep
  have qr : c / gI (n * e1 + m * d1) c = r := Int.ediv_eq_of_eq_mul_right (by omega) er
  rw [qp, qr] at lcp
  rw [qp]
  generalize hl : gI (n * e1 + m * d1) c = l at *
  have ee2 : e = l * (r * e1) := by rw [ee, er, Int.mul_assoc]
  have qe2 : e / l = r * e1 := Int.ediv_eq_of_eq_mul_right (by omega) ee2
  rw [qe2]
  have d1p : 0 < d1 := by
    have := h1.pos
    rcases Int.lt_or_le 0 d1 with z | z
    · exact z
    · have := Int.mul_nonneg (Int.le_of_lt gp) (show 0 ≤ -d1 by omega)
      rw [Int.mul_neg] at this
      omega
  have rp : 0 < r * e1 := by
    have := h2.pos
    rcases Int.lt_or_le 0 (r * e1) with z | z
    · exact z
    · have := Int.mul_nonneg (Int.le_of_lt lp) (show 0 ≤ -(r * e1) by omega)
      rw [Int.mul_neg] at this
      omega
  have pd : p ∣ n * e1 + m * d1 := by rw [ep]; exact Int.dvd_mul_left l p
  have c1 : Cp p d1 := ((Cp.add (k := m) ((h1.cp.right (by rw [ed]; exact Int.dvd_mul_left c d1)).mulL hc.symm)).left pd)
  have c2 : Cp p e1 := by
    refine Cp.left (a := m * d1 + n * e1) (Cp.add (k := n) ((h2.cp.right (by rw [ee]; exact Int.dvd_mul_left c e1)).mulL hc)) ?_
    rw [Int.add_comm]
    exact pd
  refine redI_eq (Int.mul_ne_zero hd he) ⟨Int.mul_pos d1p rp, c1.mul (lcp.mul c2)⟩ ?_
  have e4 : n * e + m * d = c * (l * p) := by
    rw [← ep]
    conv =>
      lhs
      rw [ee, ed]
    rw [Int.mul_add, Int.mul_left_comm, Int.mul_left_comm c m]
  rw [e4]
  conv =>
    rhs
    rw [ed, ee2]
  simp only [Int.mul_assoc, Int.mul_comm, Int.mul_left_comm]
/-- .. its product -/
theorem mul_red {n d m e : Int} (h1 : Fr n d) (h2 : Fr m e) : redI (n * m) (d * e) = (n / gI n e * (m / gI m d), d / gI m d * (e / gI n e)) := by
  have he : e ≠ 0 := by have := h2.pos; omega
  have hd : d ≠ 0 := by have := h1.pos; omega
  have g1 := gI_pos (a := n) he
  have g2 := gI_pos (a := m) hd
  have k1 := cp_div (a := n) he
  have k2 := cp_div (a := m) hd
  have v1 := gI_dvd n e
  have v2 := gI_dvd m d
  generalize gI n e = l at *
  generalize gI m d = r at *
  obtain ⟨n1, en⟩ := v1.1
  obtain ⟨e1, ee⟩ := v1.2
  obtain ⟨m1, em⟩ := v2.1
  obtain ⟨d1, ed⟩ := v2.2
  rw [Int.ediv_eq_of_eq_mul_right (by omega) en, Int.ediv_eq_of_eq_mul_right (by omega) ee] at *
  rw [Int.ediv_eq_of_eq_mul_right (by omega) em, Int.ediv_eq_of_eq_mul_right (by omega) ed] at *
  have d1p : 0 < d1 := by
    have := h1.pos
    rcases Int.lt_or_le 0 d1 with z | z
    · exact z
    · have := Int.mul_nonneg (Int.le_of_lt g2) (show 0 ≤ -d1 by omega)
      rw [Int.mul_neg] at this
      omega
  have e1p : 0 < e1 := by
    have := h2.pos
    rcases Int.lt_or_le 0 e1 with z | z
    · exact z
    · have := Int.mul_nonneg (Int.le_of_lt g1) (show 0 ≤ -e1 by omega)
      rw [Int.mul_neg] at this
      omega
  have n1n : n1 ∣ n := by rw [en]; exact Int.dvd_mul_left l n1
  have m1m : m1 ∣ m := by rw [em]; exact Int.dvd_mul_left r m1
  have d1d : d1 ∣ d := by rw [ed]; exact Int.dvd_mul_left r d1
  have e1e : e1 ∣ e := by rw [ee]; exact Int.dvd_mul_left l e1
  refine redI_eq (Int.mul_ne_zero hd he) ⟨Int.mul_pos d1p e1p, Cp.mulL (((h1.cp.left n1n).right d1d).mul k1) (k2.mul ((h2.cp.left m1m).right e1e))⟩ ?_
  conv =>
    lhs
    rw [en, em]
  conv =>
    rhs
    rw [ed, ee]
  simp only [Int.mul_assoc, Int.mul_comm, Int.mul_left_comm]
/-- // by what is not 0 -/
def CDivA (_ j : Int) : Prop := j ≠ 0 ∧ j.natAbs.log2 < 9000
theorem op_fdivA {X : Cx} : OpR X (binaryOp .FloorDiv) (rI CDivA fun i j => .int (i.fdiv j)) := opI fun _ _ _ _ _ _ _ hc q => floordiv_int hc.1 q (.inl (PyProof.noPylong_of_log2 hc.2))
theorem log_lt {j : Int} (h : j.natAbs < 2 ^ 8000) : j.natAbs.log2 < 9000 := Nat.lt_of_lt_of_le (PySem.Flt.log2_lt_of (by decide) h) (by decide)
theorem mulW {i j : Int} (h1 : i.natAbs < 2 ^ 8000) (h2 : j.natAbs < 2 ^ 8000) : CMulW i j := wide_mul h1 h2 (by decide) (by decide) (by decide)
theorem divW {i j : Int} (h0 : 0 < j) (h1 : j.natAbs < 2 ^ 8000) : CDivW i j := wide_div h0 h1 (by decide) (by decide)
theorem gI_le {a b : Int} (h : b ≠ 0) : (gI a b).natAbs ≤ b.natAbs := by
  unfold gI
  rw [Int.natAbs_natCast]
  exact Nat.le_of_dvd (by omega) (Nat.gcd_dvd_right _ _)
theorem div_le {a c : Int} : (a / c).natAbs ≤ a.natAbs := Int.natAbs_ediv_le_natAbs a c
theorem natAbs_lt_mul {i j : Int} {a b : Nat} (h1 : i.natAbs < 2 ^ a) (h2 : j.natAbs < 2 ^ b) : (i * j).natAbs < 2 ^ (a + b) := wide_lt h1 h2
theorem natAbs_lt_add {i j : Int} {a : Nat} (h1 : i.natAbs < 2 ^ a) (h2 : j.natAbs < 2 ^ a) : (i + j).natAbs < 2 ^ (a + 1) := by
  rw [Nat.pow_succ]
  omega
theorem red_fdiv {n d : Int} (h : d ≠ 0) : (n.fdiv (if d < 0 then -gI n d else gI n d), d.fdiv (if d < 0 then -gI n d else gI n d)) = redI n d := by
  have g := gI_pos (a := n) h
  obtain ⟨g1, g2⟩ := gI_dvd n d
  unfold redI
  rw [sh_eq h]
  by_cases hd : d < 0
  · rw [if_pos hd, if_pos hd, Int.fdiv_eq_ediv_of_dvd (Int.neg_dvd.mpr g1), Int.fdiv_eq_ediv_of_dvd (Int.neg_dvd.mpr g2), Int.ediv_neg, Int.ediv_neg, Int.neg_ediv_of_dvd g1, Int.neg_ediv_of_dvd g2]
  · rw [if_neg hd, if_neg hd, Int.fdiv_eq_ediv_of_dvd g1, Int.fdiv_eq_ediv_of_dvd g2]
/-- a couple of integers stands at v -/
def Cpl (K : PySem.W.Frag) (H : Hp) (v : V) (n d : Int) : Prop := ∃ a, v = .ref a ∧ SqT K H a [.int n, .int d]
theorem Cpl.same {K : PySem.W.Frag} {H H' : Hp} {v : V} {n d : Int} (h : Cpl K H v n d) (s : Same H H') : Cpl K H' v n d := by
  obtain ⟨a, rfl, r⟩ := h
  exact ⟨a, rfl, s.seqT r⟩
theorem Cpl.mk {K : PySem.W.Frag} {H : Hp} {p : Addr} {n d : Int} (h : H p = some (.tup [.int n, .int d])) : Cpl K H (.ref p) n d := ⟨p, rfl, .inl (.inl h)⟩
/-- a new couple -/
def Res (Q : VK) (H : Hp) (r : Int × Int) : Prop := ∀ p H', Same H H' → H p = none → H' p = some (.tup [.int r.1, .int r.2]) → Q (.ref p) H'
theorem Res.now {Q : VK} {H H' : Hp} {r : Int × Int} {x y : Int} (h : Res Q H r) (s : Same H H') (e : r = (x, y)) : ∀ p, H' p = none → Q (.ref p) (upd H' p (.tup [.int x, .int y])) := fun p np => by
  subst e
  refine h p _ (s.trans (same_upd np)) ?_ upd_same
  cases z : H p with
  | none => rfl
  | some o =>
    rw [s _ _ z] at np
    cases np
theorem redI_neg {x y : Int} (h : y ≠ 0) : redI (-x) (-y) = redI x y := by
  obtain ⟨f, e⟩ := redI_fr (x := x) h
  have z := redI_eq (x := -x) (y := -y) (p := (redI x y).1) (q := (redI x y).2) (by omega) f (by rw [Int.neg_mul, Int.mul_neg, e])
  rw [z]
theorem Fr.flip {n d : Int} (h : Fr n d) (p : 0 < n) : Fr d n := ⟨p, h.cp.symm⟩
theorem Fr.flipN {n d : Int} (h : Fr n d) (p : n < 0) : Fr (-d) (-n) := ⟨by omega, h.cp.neg.symm.neg⟩
theorem Fr.neg {n d : Int} (h : Fr n d) : Fr (-n) d := ⟨h.pos, h.cp.neg⟩
theorem redI_le {x y : Int} (h : y ≠ 0) : (redI x y).1.natAbs ≤ x.natAbs ∧ (redI x y).2.natAbs ≤ y.natAbs := by
  unfold redI
  split
  · refine ⟨?_, ?_⟩
    · have := div_le (a := -x) (c := sh x y)
      rw [Int.natAbs_neg] at this
      exact this
    · have := div_le (a := -y) (c := sh x y)
      rw [Int.natAbs_neg] at this
      exact this
  · exact ⟨div_le, div_le⟩
theorem Cpl.fut {K : PySem.W.Frag} {mu : Addr → Prop} {H H' : Hp} {v : V} {n d : Int} (h : Cpl K H v n d) (f : Fut mu H H') : Cpl K H' v n d := by
  obtain ⟨a, rfl, (r | ⟨o, r⟩) | r⟩ := h
  · exact ⟨a, rfl, .inl (.inl (f _ _ r (.inr (.inl ⟨_, rfl⟩))))⟩
  · exact ⟨a, rfl, .inl (.inr ⟨o, f _ _ r (.inr (.inr ⟨_, _, rfl⟩))⟩)⟩
  · exact ⟨a, rfl, .inr r⟩
theorem Cpl.dt {K : PySem.W.Frag} {mu : Addr → Prop} {H : Hp} {v : V} {n d : Int} (h : Cpl K H v n d) : Dt K mu H v (.tuple [.int n, .int d]) := by
  obtain ⟨a, rfl, (r | ⟨o, r⟩) | r⟩ := h
  · exact .tup (.inl r) (.cons (.int _) (.cons (.int _) .nil))
  · exact .tup (.inr ⟨o, r⟩) (.cons (.int _) (.cons (.int _) .nil))
  · exact .tupK r (.cons (.int _) (.cons (.int _) .nil))
theorem Dt.cpl {K : PySem.W.Frag} {mu : Addr → Prop} {H : Hp} {v : V} {n d : Int} (h : Dt K mu H v (.tuple [.int n, .int d])) : Cpl K H v n d := by
  obtain ⟨a, xs, rfl, r, ha⟩ := h.tupAt
  obtain ⟨x, y, p, q, rfl, e, h1, h2⟩ := ha.two rfl
  cases e
  cases h1
  cases h2
  exact ⟨a, rfl, r⟩
/-- a row of couples -/
def RowF (K : PySem.W.Frag) (H : Hp) : List V → List (Int × Int) → Prop
  | [], [] => True
  | v :: vs, f :: fs => Cpl K H v f.1 f.2 ∧ RowF K H vs fs
  | _, _ => False
theorem RowF.fut {K : PySem.W.Frag} {mu : Addr → Prop} {H H' : Hp} (f : Fut mu H H') : ∀ {vs : List V} {fs : List (Int × Int)}, RowF K H vs fs → RowF K H' vs fs
  | [], [], _ => True.intro
  | v :: vs, g :: fs, h => ⟨h.1.fut f, RowF.fut f h.2⟩
  | [], _ :: _, h => h.elim
  | _ :: _, [], h => h.elim
theorem RowF.same {K : PySem.W.Frag} {H H' : Hp} {vs : List V} {fs : List (Int × Int)} (h : RowF K H vs fs) (s : Same H H') : RowF K H' vs fs := h.fut (mu := fun _ => False) (.of_same s)
theorem RowF.len {K : PySem.W.Frag} {H : Hp} : ∀ {vs : List V} {fs : List (Int × Int)}, RowF K H vs fs → vs.length = fs.length
  | [], [], _ => rfl
  | v :: vs, g :: fs, h => by rw [List.length_cons, List.length_cons, RowF.len h.2]
  | [], _ :: _, h => h.elim
  | _ :: _, [], h => h.elim
theorem RowF.get {K : PySem.W.Frag} {H : Hp} : ∀ {vs : List V} {fs : List (Int × Int)} {i : Nat} {v : V}, RowF K H vs fs → vs[i]? = some v → ∃ f, fs[i]? = some f ∧ Cpl K H v f.1 f.2
  | [], [], _, _, _, e => by simp at e
  | x :: vs, g :: fs, 0, _, h, e => by
    simp at e
    subst e
    exact ⟨g, rfl, h.1⟩
  | x :: vs, g :: fs, i + 1, v, h, e => by
    obtain ⟨f, h1, h2⟩ := RowF.get (i := i) h.2 (by simpa using e)
    exact ⟨f, by simpa using h1, h2⟩
  | [], _ :: _, _, _, h, _ => h.elim
  | _ :: _, [], _, _, h, _ => h.elim
theorem RowF.getD {K : PySem.W.Frag} {H : Hp} {vs : List V} {fs : List (Int × Int)} {i : Nat} {f : Int × Int} (h : RowF K H vs fs) (e : fs[i]? = some f) : ∃ v, vs[i]? = some v ∧ Cpl K H v f.1 f.2 := by
  have hi : i < vs.length := by rw [h.len]; exact (List.getElem?_eq_some_iff.mp e).1
  obtain ⟨g, h1, h2⟩ := h.get (List.getElem?_eq_getElem hi)
  rw [e] at h1
  cases h1
  exact ⟨_, List.getElem?_eq_getElem hi, h2⟩
theorem RowF.ins {K : PySem.W.Frag} {H : Hp} {v : V} {g : Int × Int} (hv : Cpl K H v g.1 g.2) : ∀ {vs : List V} {fs : List (Int × Int)} (i : Nat), RowF K H vs fs → RowF K H (vs.take i ++ v :: vs.drop i) (fs.take i ++ g :: fs.drop i)
  | vs, fs, 0, h => ⟨hv, h⟩
  | [], [], i + 1, _ => ⟨hv, True.intro⟩
  | x :: vs, f :: fs, i + 1, h => ⟨h.1, RowF.ins hv i h.2⟩
  | [], _ :: _, _ + 1, h => h.elim
  | _ :: _, [], _ + 1, h => h.elim
theorem RowF.dt {K : PySem.W.Frag} {mu : Addr → Prop} {H : Hp} : ∀ {vs : List V} {fs : List (Int × Int)}, RowF K H vs fs → DtA K mu H vs (fs.map fun f => .tuple [.int f.1, .int f.2])
  | [], [], _ => .nil
  | v :: vs, g :: fs, h => .cons h.1.dt (RowF.dt h.2)
  | [], _ :: _, h => h.elim
  | _ :: _, [], h => h.elim
theorem fut_at {H : Hp} {a : Addr} {xs : List V} {o' : HO} (ha : H a = some (.lst xs)) : Fut (fun b => b = a) H (upd H a o') := fun c o e z => by
  have nb : c ≠ a := fun q => by
    rcases z with z | ⟨ys, rfl⟩ | ⟨ob, u, rfl⟩
    · exact z q
    · rw [q, ha] at e
      cases e
    · rw [q, ha] at e
      cases e
  rw [upd_ne nb]
  exact e
theorem shaped_cpl (a b : Int) : SeqAt.shaped (.tuple [.int a, .int b]) = true := by
  simp [SeqAt.shaped, PyData.canLay0, PyData.canLayAll0, PyData.depth, PyData.depthAll]
theorem eqv_cpl (a b c d : Int) : PyData.eqv (.tuple [.int a, .int b]) (.tuple [.int c, .int d]) = decide ((a, b) = (c, d)) := by
  simp only [PyData.eqv, PyData.eqvAll, Bool.and_true, Prod.mk.injEq]
  by_cases h1 : a = c <;> by_cases h2 : b = d <;> simp [h1, h2]
/-- what was not there at first may change as it likes -/
theorem Rel.at {b p : Addr} {H H' : Hp} {o : HO} (R : Rel b H H') (hb : BagAt H b) (np : H p = none) : Rel b H (upd H' p o) := by
  obtain ⟨x0, y0, z0, l0, cs0, hb0, hl0, _⟩ := id hb
  have npb : p ≠ b := fun z => by
    rw [z, hb0] at np
    cases np
  refine ⟨fun a u n e => ?_, fun l hL => ?_, ?_⟩
  · rw [upd_ne (ne_of_none e np)]
    exact R.keep a u n e
  · obtain ⟨x, y, z, e⟩ := R.cell l hL
    exact ⟨x, y, z, by rw [upd_ne npb.symm]; exact e⟩
  · obtain ⟨x, y, z, l, cs, q1, q2, q3, q4⟩ := R.bag
    have el : l0 = l := (R.cell l0 ⟨_, _, _, hb0⟩).eq q1
    have e : l ≠ p := fun e => by
      rw [el, e, np] at hl0
      cases hl0
    exact ⟨x, y, z, l, cs, by rw [upd_ne npb.symm]; exact q1, by rw [upd_ne e]; exact q2, q3, q4⟩
theorem RowF.snoc {K : PySem.W.Frag} {H : Hp} {v : V} {g : Int × Int} (hv : Cpl K H v g.1 g.2) : ∀ {vs : List V} {fs : List (Int × Int)}, RowF K H vs fs → RowF K H (vs ++ [v]) (fs ++ [g])
  | [], [], _ => ⟨hv, True.intro⟩
  | x :: vs, f :: fs, h => ⟨h.1, RowF.snoc hv h.2⟩
  | [], _ :: _, h => h.elim
  | _ :: _, [], h => h.elim
end Sw
/-! sep.join(reversed(a list of texts)). -/
namespace Sw
open PySem PySem.Spec PyProof.Rows L2
section
variable {prog : Program} {w : World} {A : Around} {E : Value → Shared → Prop} {s : Shared}
theorem join_rev {x : Str} {t : Tok} {it l : Addr} {items : Array Value} {ys : List Str} {Q : Value → Shared → Prop} (hh : A.handled = none) (hit : s.heap.IsRevIter it l ((items.size : Int) - 1)) (hl : s.heap.IsList l items) (hne : l ≠ it) (hn : items.size ≤ sizeLine)
    (hP : ∀ acc : Array Value, ItemsOf (fun i v => items[items.size - 1 - i]? = some v) acc items.size → StrsAre acc.toList ys) (hok : (ys.map (·.length)).sum + ys.length * x.length ≤ 16777216)
    (hq : ∀ (h' : Heap), (∀ b o, b ≠ it → s.heap.get? b = some o → h'.get? b = some o) → ∀ (t' : Tok) (k : Nat), Q (.str (Txt.join x ys) t') { s with heap := h', toks := k }) :
    wpAny (model prog w) A (call (.builtin "str.join") [.str x t, .ref it]) Q E s := by
  refine wpAny_call (codeAny_call_builtin F.slot_str_join.plain F.entry_str_join (F.slot_str_join.check _ _ _ _ _ _ _ _ (typeIs_str _ _ _) (F.args_str_join_2 _ _) ?_))
  rw [join_tree_other]
  refine wpAny_bind (wpAny_typeOf hit.typeIs ?_)
  show wpAny _ A.in1 ((pyIter (.ref it)).tryCatch _ >>= fun i => collect i >>= fun zs => joinTail x zs) _ _ s
  refine wpAny_bind (wpAny_tryCatch (wpAny_pyIter_revIter hit ?_))
  have hh1 : A.in1.handled = none := hh
  refine wpAny_bind (RT.collect_rev hh1 hit hl hne hn fun h' tk acc hk hacc => ?_)
  obtain ⟨zs, hz, ht⟩ := strsAre_values (hP acc hacc)
  subst ht
  rw [hz]
  have ok2 := joinOk_of hok
  unfold JoinOk at ok2
  rw [Bool.not_eq_true'] at ok2
  have g : Gives (joinTail x (strValues zs)) (joinMade x zs) := by
    rcases zs with _ | ⟨p, _ | ⟨q, r⟩⟩
    all_goals exact gives_joinTail x _ ok2
  exact g prog w A (wants Q E) _ (post_join zs ⟨joinFit_length ok2, hq h' hk⟩)
end
/-- sep.join(reversed(e)) -/
def tJoinRev (K : PySem.W.Frag) (x : Str) (te : TE) : TE := fun σ H Q => te σ H fun v H1 => ∃ (a : Addr) (ys : List Str), v = .ref a ∧ SqL K H1 a (ys.map V.str) ∧ (ys.map (·.length)).sum + ys.length * x.length ≤ 16777216 ∧ Q (.str (Txt.join x ys.reverse)) H1
theorem pe_joinRev {X : Cx} {x : Str} {e : Expr} {te : TE} {u0 : Nat} {pc0 apos pos p2 pos2 : Pos} (hc : X.calm = true) (hg2 : Gl X "reversed") (hm2 : X.mg "reversed" = none) (he : PE X e te)
    (hs : starEach [e] X.env = (false, eval e X.env) :: starEach [] X.env := by rfl)
    (hs2 : starEach [.Call (.Name "reversed" p2) [e] [] pos2] X.env = [(false, eval (.Call (.Name "reversed" p2) [e] [] pos2) X.env)] := by rfl)
    (hbase : attributeBase (.Constant (.str x) u0 pc0) "join" X.env (eval (.Constant (.str x) u0 pc0) X.env) = eval (.Constant (.str x) u0 pc0) X.env := by rfl) (hline : (apos.endLine == pos.line) = true := by rfl) :
    PE X (.Call (.Attribute (.Constant (.str x) u0 pc0) "join" apos) [.Call (.Name "reversed" p2) [e] [] pos2] [] pos) (tJoinRev X.K x te) := by
  refine ⟨fun pins s σ H Q I h => ?_⟩
  refine PySem.Call_method1 hbase hs2 hline (thn (pe_str.run pins s σ H (fun v H1 => v = .str x ∧ H1 = H) I ⟨rfl, rfl⟩) fun v s1 ⟨x1, H1, I1, r1, q1⟩ => ?_)
  obtain ⟨rfl, rfl⟩ := q1
  obtain ⟨t, rfl⟩ := _root_.id r1
  refine ⟨"str", _, F.plainAttrs_str, F.slot_str_join, F.type_str_join, typeIs_str _ _ _, (fun _ e => nomatch e), Calls.callWith_builtin rfl (Calls.evalArgs_plain (Calls.spliced_cons ?_))⟩
  refine Call_ (ld_blt I1 hg2 hm2 PyProof.Rows.boot_reversed (PyProof.Rows.callWith_type1 (args_cons (thn (he.run pins s1 σ H1 _ I1 h) fun u s2 ⟨v, H2, I2, r2, q2⟩ => args_nil ?_) hs) hs rfl))
  obtain ⟨a, ys, rfl, hq, hz, q⟩ := q2
  obtain rfl : u = Value.ref a := r2
  obtain ⟨its, rv, p', hsz⟩ := I2.list hq
  refine call_reversed_list p'.isList ?_
  have k0 : ∀ b o, s2.heap.get? b = some o → (s2.heap.push (revObj a ((its.toArray.size : Int) - 1))).get? b = some o := fun b o e => Heap.get?_push_of_some _ e
  have I3 : Inv X pins σ H2 { s2 with heap := s2.heap.push (revObj a ((its.toArray.size : Int) - 1)) } := I2.kept (t' := s2.toks) k0
  obtain ⟨f0, f1, f2, f3, f4, f5⟩ := I2.fpOk (H' := H2) (b := s2.heap.objs.size) (Nat.le_refl _) (I2.hok.fresh (Nat.le_refl _))
  have hl := p'.isList
  obtain ⟨ol, hol, _⟩ := id hl
  have hne : a ≠ s2.heap.objs.size := Nat.ne_of_lt (Heap.lt_size hol)
  have hn : its.toArray.size ≤ sizeLine := by rw [List.size_toArray, ← rv.length]; exact hsz
  refine Calls.spliced_nil ?_
  refine join_rev (s := { s2 with heap := s2.heap.push (revObj a ((its.toArray.size : Int) - 1)) }) (ys := ys.reverse) (I2.ok.hd hc) ⟨_, Heap.get?_push_size _ rfl, rfl, rfl⟩ (hl.push _) hne hn (fun acc hacc => ?_) ?_ fun h' hk t' k => ?_
  · have z := RT.vals_rev rv hacc
    rw [← List.map_reverse] at z
    exact strs_of_vals z
  · rw [List.map_reverse, List.sum_reverse, List.length_reverse]
    exact hz
  · exact ⟨.str _, H2, I3.turned (t' := k) (fun b o hb e => hk b o hb e) f0 f1 f3 f4 f5, ⟨t', rfl⟩, q⟩
end Sw
/-! Texts of integers, read. -/
namespace Sw
open PySem PySem.Spec PyProof.Rows L2

/-- behind one sign - -/
def stripL : List Nat → List Nat
  | 45 :: r => r
  | l => l
def digL (l : List Nat) : Bool := decide (0 < l.length) && l.all fun c => decide (48 ≤ c) && decide (c ≤ 57)
theorem digL_iff {l : List Nat} : digL l = true ↔ l ≠ [] ∧ NumText.AllDigits l := by
  unfold digL NumText.AllDigits
  rw [Bool.and_eq_true, decide_eq_true_eq, List.all_eq_true]
  refine and_congr ⟨fun h e => (by rw [e] at h; exact absurd h (by decide)), fun h => List.length_pos_iff.mpr h⟩ ⟨fun h c hc => ?_, fun h c hc => ?_⟩
  · have := h c hc
    rw [Bool.and_eq_true, decide_eq_true_eq, decide_eq_true_eq] at this
    exact this
  · rw [Bool.and_eq_true, decide_eq_true_eq, decide_eq_true_eq]
    exact h c hc
theorem dig_tab : ∀ c, c < 128 → Unicode.isDigit c = (decide (48 ≤ c) && decide (c ≤ 57)) := by decide +kernel
theorem dig_eq (l : List Nat) : (Txt.isascii ⟨l.toArray⟩ && Txt.isdigit ⟨l.toArray⟩) = digL l := by
  unfold Txt.isascii Txt.isdigit digL
  show (l.toArray.all _ && (decide (l.toArray.size > 0) && l.toArray.all _)) = _
  rw [List.all_toArray, List.all_toArray, List.size_toArray]
  have key : ∀ l : List Nat, (l.all (fun c => decide (c < 128)) && l.all Unicode.isDigit) = l.all fun c => decide (48 ≤ c) && decide (c ≤ 57) := by
    intro l
    induction l with
    | nil => rfl
    | cons c l ih =>
      rw [List.all_cons, List.all_cons, List.all_cons, ← ih]
      by_cases hc : c < 128
      · rw [dig_tab c hc, decide_eq_true hc]
        cases decide (48 ≤ c) <;> cases decide (c ≤ 57) <;> simp
      · rw [decide_eq_false hc, decide_eq_false (show ¬ c ≤ 57 by omega)]
        simp
  rw [← key l]
  cases decide (l.length > 0) <;> simp
/-- the integer that a text shows, if it is its own text -/
def valL (l : List Nat) : Int := match l with
  | 45 :: r => -((NumText.digitsVal r : Nat) : Int)
  | l => ((NumText.digitsVal l : Nat) : Int)
theorem strip_min (r : List Nat) : stripL (45 :: r) = r ∧ valL (45 :: r) = -((NumText.digitsVal r : Nat) : Int) := ⟨rfl, rfl⟩
theorem strip_no {l : List Nat} (h : ∀ r, l ≠ 45 :: r) : stripL l = l ∧ valL l = ((NumText.digitsVal l : Nat) : Int) := by
  unfold stripL valL
  refine ⟨?_, ?_⟩
  · split
    · rename_i r
      exact absurd rfl (h r)
    · rfl
  · split
    · rename_i r
      exact absurd rfl (h r)
    · rfl
theorem min_or (l : List Nat) : (∃ r, l = 45 :: r) ∨ ∀ r, l ≠ 45 :: r := by
  by_cases h : ∃ r, l = 45 :: r
  · exact .inl h
  · exact .inr fun r e => h ⟨r, e⟩
theorem int_reads {l : List Nat} (h : digL (stripL l) = true) (hl : (stripL l).length ≤ 40) : intText? ⟨l.toArray⟩ = some (valL l) ∧ l.length ≤ 41 := by
  rcases min_or l with ⟨r, rfl⟩ | hn
  · rw [(strip_min r).1] at h hl
    rw [(strip_min r).2]
    obtain ⟨h1, h2⟩ := digL_iff.mp h
    refine ⟨intText_neg (x := ⟨(45 :: r).toArray⟩) (cs := r) (by simp) h2 h1 ?_, by rw [List.length_cons]; omega⟩
    show (45 :: r).toArray.size ≤ 4300
    rw [List.size_toArray, List.length_cons]
    omega
  · rw [(strip_no hn).1] at h hl
    rw [(strip_no hn).2]
    obtain ⟨h1, h2⟩ := digL_iff.mp h
    refine ⟨intText_digits (x := ⟨l.toArray⟩) (by simpa using h2) (by simpa using h1) ?_, by omega⟩
    show l.toArray.size ≤ 4300
    rw [List.size_toArray]
    omega
def intL (l : List Nat) : Option Int := if digL (stripL l) = true ∧ (stripL l).length ≤ 40 ∧ (Str.ofString (toString (valL l))).cps.toList = l then some (valL l) else none
theorem removeprefix_min (l : List Nat) : Txt.removeprefix ⟨l.toArray⟩ "-" = ⟨(stripL l).toArray⟩ := by
  have em : ("-" : Str) = ⟨#[45]⟩ := by decide +kernel
  rw [em, PySem.StrLaws.removeprefix_eq]
  have e1 : (⟨#[45]⟩ : Str).length = 1 := rfl
  have e2 : (⟨l.toArray⟩ : Str).length = l.length := by
    show l.toArray.size = _
    rw [List.size_toArray]
  have e3 : (⟨l.toArray⟩ : Str).cps.toList = l := by simp
  have e4 : Builtin.Str.subAt ⟨l.toArray⟩ ⟨#[45]⟩ 0 = decide (l.take 1 = [45]) := by
    unfold Builtin.Str.subAt
    show (l.toArray.extract 0 (0 + 1) == #[45]) = _
    rw [show l.toArray.extract 0 (0 + 1) = (l.take 1).toArray by simp]
    rw [Bool.eq_iff_iff, beq_iff_eq, decide_eq_true_eq]
    exact ⟨fun h => by simpa using congrArg Array.toList h, fun h => by rw [h]⟩
  rw [e1, e2, e3, e4]
  rcases min_or l with ⟨r, rfl⟩ | hn
  · rw [(strip_min r).1, if_pos (by simp)]
    simp
  · rw [(strip_no hn).1, if_neg]
    rw [Bool.and_eq_true, decide_eq_true_eq, decide_eq_true_eq]
    rintro ⟨_, h⟩
    match l, h, hn with
    | c :: r, h, hn =>
      have : c = 45 := by simpa using h
      subst this
      exact hn r rfl
/-- a text, k times: only its length is told -/
def rRepS : R2 := fun x y H Q => ∃ (z : Str) (k : Int), x = .str z ∧ y = .int k ∧ 2 ≤ k ∧ k ≤ 1000 ∧ 1 ≤ z.length ∧ z.length ≤ 1000 ∧ ∀ r : Str, r.length = z.length * k.toNat → Q (.str r) H
theorem rep_size (c : Array Nat) : ∀ m : Nat, ((List.replicate m c).foldl (· ++ ·) #[]).size = c.size * m := fun m => by
  have key : ∀ (m : Nat) (a : Array Nat), ((List.replicate m c).foldl (· ++ ·) a).size = a.size + c.size * m := by
    intro m
    induction m with
    | zero =>
      intro a
      simp
    | succ m ih =>
      intro a
      rw [List.replicate_succ, List.foldl_cons, ih, Array.size_append, Nat.mul_succ]
      omega
  rw [key m #[]]
  simp
theorem op_repS {X : Cx} : OpR X (binaryOp .Mult) rRepS := by
  intro pins s σ H x y v u Q I rx ry h
  obtain ⟨z, k, rfl, rfl, k2, k1, z1, z2, q⟩ := h
  obtain ⟨t, rfl⟩ := rx
  obtain ⟨t', rfl⟩ := ry
  have hm : z.length * k.toNat ≤ 1000000 := Nat.le_trans (Nat.mul_le_mul z2 (show k.toNat ≤ 1000 by omega)) (by decide)
  have hc : (k == 1 || z.length == 0) = false := by
    rw [Bool.or_eq_false_iff, beq_eq_false_iff_ne, beq_eq_false_iff_ne]
    omega
  refine P.mul_str (by rw [decide_eq_false (by omega), decide_eq_false (by omega)]; rfl) (fun _ _ => ?_) (fun _ _ => ?_) ?_
  · have e : (1000 : Int) ≤ (2 ^ 63 - 1) / k := by
      rw [Int.le_ediv_iff_mul_le (by omega)]
      omega
    omega
  · unfold Builtin.Str.tooLong
    have sl := sizeLine_eq
    first
      | (rw [decide_eq_false]; omega)
      | (simp; omega)
  · rw [if_neg (by omega), if_neg (by rw [hc]; exact Bool.false_ne_true)]
    have hz : (⟨(List.replicate k.toNat z.cps).foldl (· ++ ·) #[]⟩ : Str).length = z.length * k.toNat := rep_size z.cps k.toNat
    refine ⟨?_, ⟨.str _, H, I.tok _, ⟨_, rfl⟩, q _ hz⟩⟩
    have sl := sizeLine_eq
    first
      | (rw [hz]; omega)
      | (show _ ≤ _; rw [hz]; omega)
end Sw
/-! A written text ahead gives a token. -/
namespace Sw
open PySem PySem.Spec PyProof.Rows L2
section
variable {X : Cx} {f e : Expr} {es : List Expr} {tf te : TE} {ta : TA} {c : Str} {j : Nat} {pc0 pos : Pos} {r : R2}
/-- [.., 'c' + f, ..]: behind it a token is out -/
theorem pa_lit (ho : OpR X (binaryOp .Add) r) (hf : PE X f tf) (hr : PAT X es ta) (hs : starEach (.BinOp (.Constant (.str c) j pc0) .Add f pos :: es) X.env = (false, eval (.BinOp (.Constant (.str c) j pc0) .Add f pos) X.env) :: starEach es X.env := by rfl) :
    PA X (.BinOp (.Constant (.str c) j pc0) .Add f pos :: es) (tCons (tOp r (tC (.str c)) tf) ta) := by
  refine ⟨fun pos' pins s σ H Q I h => ?_⟩
  rw [hs]
  show wpAny _ _ (spliced ((false, eval (.BinOp (.Constant (.str c) j pc0) .Add f pos) X.env) :: backTo pos' (starEach es X.env))) _ _ s
  refine Calls.spliced_cons ?_
  refine wpAny_BinOp (Calls.Constant_str ?_)
  refine wpAny_mono (PySem.wpAny_toks (hf.run pins _ σ H _ (I.tok (s.toks + 1)) h)) (fun u s2 q => ?_) fun _ _ z => z.2
  obtain ⟨hk, y, H1, I1, r1, q1⟩ := q
  have hk : s.toks + 1 ≤ s2.toks := hk
  refine wpAny_mono (PySem.wpAny_toks (ho pins s2 σ H1 (.str c) y _ u _ I1 ⟨s.toks, rfl⟩ r1 q1)) (fun v s3 q => ?_) fun _ _ z => z.2
  obtain ⟨hk2, x, H2, I2, r2, q2⟩ := q
  exact thn (hr pos' pins s3 σ H2 _ (by omega) I2 q2) fun us s4 ⟨xs, H3, I3, r3, q3⟩ => ⟨x :: xs, H3, I3, .cons r2 r3, q3⟩
/-- a part of a list behind a written one, which wants no token itself -/
theorem pat_of (he : PE X e te) (hr : PAT X es ta) (hs : starEach (e :: es) X.env = (false, eval e X.env) :: starEach es X.env := by rfl) : PAT X (e :: es) (tCons te ta) := pat_cons (CwR.PET.of he) hr hs
end
end Sw
/-! Lists beside the empty one; rules within a comprehension. -/
namespace Sw
open PySem PySem.Spec PyProof.Rows L2
def rNeNil (K : PySem.W.Frag) : R2 := fun x y H Q => ∃ p q xs, x = .ref p ∧ y = .ref q ∧ SqL K H p xs ∧ SqL K H q [] ∧ Q (.bl (!decide (xs = []))) H
def rEqNil (K : PySem.W.Frag) : R2 := fun x y H Q => ∃ p q xs, x = .ref p ∧ y = .ref q ∧ SqL K H p xs ∧ SqL K H q [] ∧ Q (.bl (decide (xs = []))) H
theorem op_neNil {X : Cx} {K : PySem.W.Frag} (hK : X.K = K) (hu : X.A.units + 64 < cLine) : OpR X (compareOp .NotEq) (rNeNil K) := by
  subst hK
  intro pins s σ H x y v u Q I rx ry h
  obtain ⟨p, q, xs, rfl, rfl, hp, hq, k⟩ := h
  cases rx
  cases ry
  obtain ⟨its, rv, p', hz⟩ := I.list hp
  obtain ⟨its2, rv2, p2, hz2⟩ := I.list hq
  cases rv2
  have hu' : X.A.units < cLine := by omega
  have hl := rv.length
  cases xs with
  | nil =>
    cases rv
    refine PySem.SeqAt.RcNeAt.lists (e := fun _ => true) p'.isList p2.isList rfl hu' (fun j h1 h2 => by simp at h1) X.prog X.w _ _ ⟨.bl _, H, I, rfl, k⟩
  | cons x xs =>
    refine PySem.SeqAt.RcNeAt.lists_lengths p'.isList p2.isList (by cases rv; simp) hu' X.prog X.w _ _ ⟨.bl _, H, I, rfl, ?_⟩
    simpa using k
theorem op_eqNil {X : Cx} {K : PySem.W.Frag} (hK : X.K = K) (hu : X.A.units + 64 < cLine) : OpR X (compareOp .Eq) (rEqNil K) := by
  subst hK
  intro pins s σ H x y v u Q I rx ry h
  obtain ⟨p, q, xs, rfl, rfl, hp, hq, k⟩ := h
  cases rx
  cases ry
  obtain ⟨its, rv, p', hz⟩ := I.list hp
  obtain ⟨its2, rv2, p2, hz2⟩ := I.list hq
  cases rv2
  have hu' : X.A.units < cLine := by omega
  have hl := rv.length
  cases xs with
  | nil =>
    cases rv
    refine PySem.SeqAt.RcAt.lists (e := fun _ => true) p'.isList p2.isList rfl hu' (fun j h1 h2 => by simp at h1) X.prog X.w _ _ ⟨.bl _, H, I, rfl, k⟩
  | cons x xs =>
    refine PySem.SeqAt.RcAt.lists_lengths p'.isList p2.isList (by cases rv; simp) hu' X.prog X.w _ _ ⟨.bl _, H, I, rfl, ?_⟩
    simpa using k
theorem call_lenK {X : Cx} {K : PySem.W.Frag} (hK : X.K = K) : CallR X (.builtin "len") (fun xs H Q => ∃ x n, xs = [x] ∧ LenV K x H n ∧ Q (V.int ((n : Nat) : Int)) H) := by
  subst hK
  exact call_lenA
end Sw
/-! Rules by a named heap of the top, for what stands within a comprehension; lcm; zip of tuples. -/
namespace Sw
open PySem PySem.Spec PyProof.Rows L2 StX RZ
section
variable {X : Cx} {K : PySem.W.Frag}
theorem ix_listK (hK : X.K = K) : IxR X (rIxL K) := by
  subst hK
  exact ix_list
theorem ix_tupK (hK : X.K = K) : IxR X (rIxT K) := by
  subst hK
  exact ix_tup
theorem sl_listK (hK : X.K = K) : SlR X (rSlL K) := by
  subst hK
  exact sl_list
theorem sl_tupAK (hK : X.K = K) : SlR X (rSlA K) := by
  subst hK
  exact sl_tupA
theorem op_catAK (hK : X.K = K) : OpR X (binaryOp .Add) (rCatA K) := by
  subst hK
  exact op_catA
theorem pi_listK {tg l : Expr} {tl : TE} (hK : X.K = K) (hl : PE X l tl) : PI X tg l (iList K tl) := by
  subst hK
  exact pi_list hl
theorem pi_tupK {tg l : Expr} {tl : TE} (hK : X.K = K) (hl : PE X l tl) : PI X tg l (iTup K tl) := by
  subst hK
  exact pi_tup hl
def rTupOf (K : PySem.W.Frag) : List V → Hp → VK → Prop := fun xs H Q => ∃ p ys, xs = [.ref p] ∧ ((SqL K H p ys ∧ ∀ l, H l = none → Q (.ref l) (upd H l (.tup ys))) ∨ (SqT K H p ys ∧ Q (.ref p) H))
theorem call_tupK (hK : X.K = K) : CallR X (.type "tuple") (rTupOf K) := by
  subst hK
  exact call_tuple_of
theorem pa_starK {e : Expr} {es : List Expr} {te : TE} {t : TA} {p : Pos} (hK : X.K = K) (he : PE X e te) (hr : PA X es t) (hs : starEach (.Starred e p :: es) X.env = (true, eval e X.env) :: starEach es X.env := by rfl) : PA X (.Starred e p :: es) (tStar K te t) := by
  subst hK
  exact pa_star he hr hs
def rLcm : List V → Hp → VK → Prop := fun vs H Q => ∃ a b : Int, vs = [.int a, .int b] ∧ 0 < a ∧ 0 < b ∧ a.natAbs < 2 ^ 3000 ∧ b.natAbs < 2 ^ 3000 ∧ Q (.int ((Nat.lcm a.natAbs b.natAbs : Nat) : Int)) H
theorem lcm_le_mul {a b : Nat} (hb : 0 < b) (ha : 0 < a) : Nat.lcm a b ≤ a * b := by
  unfold Nat.lcm
  exact Nat.div_le_self _ _
theorem cr_lcm : CallR X (.builtin "math.lcm") rLcm := by
  intro pins s σ H vs us Q I r h
  obtain ⟨a, b, rfl, ha0, hb0, ha, hb, q⟩ := h
  obtain ⟨t, u, rfl⟩ := Vals.int2 r
  have l1 : (max 1 a.natAbs).log2 < 3000 := PySem.Flt.log2_lt_of (by decide) (by
    rcases Nat.le_total 1 a.natAbs with z | z
    · rw [Nat.max_eq_right z]
      exact ha
    · omega)
  have l2 : (max a.natAbs b.natAbs).log2 < 3000 := PySem.Flt.log2_lt_of (by decide) (by
    rcases Nat.le_total a.natAbs b.natAbs with z | z
    · rw [Nat.max_eq_right z]
      exact hb
    · rw [Nat.max_eq_left z]
      exact ha)
  have e1 : Nat.lcm 1 a.natAbs = a.natAbs := Nat.lcm_one_left _
  have sz : ((((Nat.lcm 1 a.natAbs).lcm b.natAbs : Nat) : Int)).natAbs.log2 < bitsLine := by
    rw [e1, Int.natAbs_natCast]
    have h6 : Nat.lcm a.natAbs b.natAbs < 2 ^ (3000 + 3000) := by
      rw [Nat.pow_add]
      exact Nat.lt_of_le_of_lt (lcm_le_mul (by omega) (by omega)) (Nat.mul_lt_mul'' ha hb)
    exact Nat.lt_of_lt_of_le (PySem.Flt.log2_lt_of (by decide) h6) (by decide)
  have key := PySem.W.mg_run_lcm a t b u (by omega) (by omega) sz
  refine PySem.call_function_meets PySem.W.MGF.kind_lcm PySem.W.MGF.plain_lcm PySem.W.MGF.entry_lcm (PySem.W.MGF.args_lcm _ _) key.meets ?_
  refine ⟨.int _, H, I.tok _, ⟨_, rfl⟩, ?_⟩
  rw [e1]
  exact q
end
section
variable {K : PySem.W.Frag} {a b : Addr} {xs ys : List V}
theorem walk_zipT {n : Nat} (hn : n = min xs.length ys.length) : Walk (ItzT K a b) n (fun H => SqT K H a xs ∧ SqT K H b ys) (YPair (fun i => xs[i]?) (fun i => ys[i]?)) := by
  subst hn
  refine ⟨fun i _ hi q => ?_, fun _ q => ⟨xs, ys, q.1, q.2, by omega⟩, fun i H v H' _ q y => ?_⟩
  · have h1 : i < xs.length := by omega
    have h2 : i < ys.length := by omega
    exact ⟨xs, ys, xs[i], ys[i], q.1, q.2, by simp [h1], by simp [h2]⟩
  · obtain ⟨T, x, z, h1, h2, h3, h4, h5⟩ := y
    exact ⟨T, x, z, h1, h2, h3, h4 xs q.1, h5 ys q.2⟩
end
end Sw
/-! enumerate over a tuple. -/
namespace Sw
open PySem PySem.Spec PyProof.Rows L2
set_option maxHeartbeats 2000000 in
theorem enumB_new {v : Value} {o : Obj} {W : Heap → Prop} (B : Begins v o W) :
    Meets (Builtin.«enumerate.__new__» ⟨[.type "enumerate", v], []⟩) (fun _ R s => W s.heap ∧ R (.ok (.ret (.ref (s.heap.push o).objs.size)))
      { s with heap := (s.heap.push o).push { cls := .type "enumerate", data := .fields #[.none, .bool false, .ref s.heap.objs.size, rawInt 0, .none, .none] } }) := by
  refine .of_wp fun prog w A R s h => ?_
  obtain ⟨hp, gg, dd, tk, os⟩ := s
  obtain ⟨hW, hR⟩ := h
  have isub := sub_enumerate
  have step : ∀ {A2 : Around} {E2 : Value → Shared → Prop} {Q2 : Value → Shared → Prop}, Q2 (.ref hp.objs.size) ⟨hp.push o, gg, dd, tk, os⟩ → wpAny (model prog w) A2 (pyIter v) Q2 E2 ⟨hp, gg, dd, tk, os⟩ := fun z => B.iter prog w _ _ ⟨hp, gg, dd, tk, os⟩ _ hW z
  wp_walk using step
  refine wpAny_stack_any fun stk => wpAny_pure ?_
  split
  · rename_i c1 _ _ _ _ _
    cases (c1 == Value.type "enumerate") <;> (wp_walk using step; exact ⟨_, rfl, hR⟩)
  · wp_walk using step
    exact ⟨_, rfl, hR⟩
theorem call_enumB {prog : Program} {w : World} {A : Around} {E : Value → Shared → Prop} {s : Shared} {v : Value} {o : Obj} {W : Heap → Prop} {Q : Value → Shared → Prop} (B : Begins v o W) (hW : W s.heap)
    (k : ∀ h2, IsEnum h2 (s.heap.objs.size + 1) s.heap.objs.size 0 .none → h2.get? s.heap.objs.size = some o → (∀ b ob, s.heap.get? b = some ob → h2.get? b = some ob) → Q (.ref (s.heap.objs.size + 1)) { s with heap := h2 }) :
    wpAny (model prog w) A (call (.type "enumerate") [v]) Q E s := by
  refine callType_new F.called_enumerate (by decide) (F.typeCall_enumerate_1 _) (F.newCall_enumerate_1 _) (fun ob => F.args_object_init_2 ob _) F.entry_enumerate_new (enumB_new B) ⟨hW, ?_⟩
  have size1 : (s.heap.push o).objs.size = s.heap.objs.size + 1 := Heap.size_push ..
  show _ ∧ _
  rw [size1]
  have isE : IsEnum ((s.heap.push o).push { cls := .type "enumerate", data := .fields #[.none, .bool false, .ref s.heap.objs.size, rawInt 0, .none, .none] }) (s.heap.objs.size + 1) s.heap.objs.size 0 .none := by
    have z := Heap.get?_push_size (s.heap.push o) (o := { cls := .type "enumerate", data := .fields #[.none, .bool false, .ref s.heap.objs.size, rawInt 0, .none, .none] }) rfl
    rw [size1] at z
    exact z
  exact ⟨⟨_, isE, rfl⟩, k _ isE (Heap.get?_push_of_some _ (Heap.get?_push_size _ B.free)) fun b ob z => Heap.get?_push_of_some _ (Heap.get?_push_of_some _ z)⟩
/-- the tuple at a, each item in a new pair -/
def IteT (K : PySem.W.Frag) (a : Addr) : It where
  go i H := ∃ (xs : List V) (x : V), SqT K H a xs ∧ xs[i]? = some x
  yld i H v H' := ∃ T x, v = .ref T ∧ H T = none ∧ H' = upd H T (.tup [.int (i : Nat), x]) ∧ ∀ xs, SqT K H a xs → xs[i]? = some x
  stop i H := ∃ xs : List V, SqT K H a xs ∧ xs.length = i
theorem tup_ne_enum {h : Heap} {e it a : Addr} {i : Int} {old : Value} {its : Array Value} (he : IsEnum h e it i old) (ht : h.IsTuple a its) : a ≠ e := fun z => by
  obtain ⟨ob, e1, c1, _⟩ := ht
  have e2 : h.get? e = some _ := he
  rw [z, e2] at e1
  cases e1
  exact absurd (Value.type.inj c1) (by decide)
theorem tup_ne_iter {h : Heap} {it a t : Addr} {i : Nat} {its : Array Value} (hi : h.IsTupleIter it t i) (ht : h.IsTuple a its) : a ≠ it := fun z => by
  obtain ⟨ob, e1, c1, _⟩ := ht
  obtain ⟨ob2, e2, c2, _⟩ := hi
  rw [z, e2] at e1
  cases e1
  rw [c2] at c1
  exact absurd (Value.type.inj c1) (by decide)
theorem turn_enumT {P : Program} {w : World} {K : PySem.W.Frag} {elts : List Expr} {kk : Nat} {tpos : Pos} (a e it : Addr) :
    Turn P w K (.Tuple elts kk tpos) (IteT K a) [e, it] e (fun i h => (∃ old, IsEnum h e it ((i : Nat) : Int) old) ∧ h.IsTupleIter it a i ∧ e ≠ it) := by
  refine ⟨by simp, ?_, ?_, ?_, ?_, ?_⟩
  · rintro i h ⟨⟨old, he⟩, ⟨o, ho, _, hd⟩, _⟩ b hb
    rcases (show b = e ∨ b = it by simpa using hb) with rfl | rfl
    · exact ⟨_, he, fun v q => nomatch q⟩
    · exact ⟨o, ho, fun v q => by rw [hd] at q; cases q⟩
  · rintro i h h' ⟨⟨old, he⟩, hi, hne⟩ k
    exact ⟨⟨old, k e (by simp) _ he⟩, hi.at fun o q => k it (by simp) o q, hne⟩
  · intro X hP hw hK hc i pins s σ H E I hf st hg
    subst hP hw hK
    obtain ⟨⟨old, he⟩, hit, hne⟩ := st
    obtain ⟨xs, x, hq, hx⟩ := hg
    obtain ⟨its, rv, p, _⟩ := I.tuple hq
    obtain ⟨u, hu, ru⟩ := rv.get hx
    have p2 : s.heap.IsTuple a its.toArray := p
    have ae := tup_ne_enum he p2
    have ai := tup_ne_iter hit p2
    have hel : e < s.heap.objs.size := Heap.lt_size he
    have hu2 : its.toArray[i]? = some u := by simpa using hu
    have hil : i < its.toArray.size := (Array.getElem?_eq_some_iff.mp hu2).1
    have DD := Draws.tuple (prog := X.prog) (w := X.w) (A := X.A.in1) (I.ok.hd hc) it a ai its.toArray
    refine wpAny_pyNext_enum_itemD DD he ⟨hit, p2⟩ hil hne (by simp only [List.mem_cons, List.not_mem_nil, or_false, not_or]; exact ⟨hne, Ne.symm ae⟩) fun y h' tk hy ho hst hT hsz hk => ?_
    have ey : y = u := by
      rw [hu2] at hy
      exact (Option.some.inj hy).symm
    subst ey
    refine ⟨_, rfl, wpAny_letOwnedTupleGo_enum (s := { s with heap := h', toks := tk + 1 }) ho fun h3 he3 sb => ?_⟩
    have hT3 : h3.get? s.heap.objs.size = some { cls := .type "tuple", data := .seq #[.int i tk, y] } := by
      rw [← hT]
      exact sb.2 _ (Nat.ne_of_gt hel)
    have fresh : ObjOk X.prog X.w (upd H s.heap.objs.size (.tup [.int (i : Nat), x])) h3 s.heap.objs.size (.tup [.int (i : Nat), x]) :=
      ⟨by show 2 ≤ sizeLine; decide, [.int i tk, y], .cons ⟨_, rfl⟩ (.cons ru .nil), ⟨_, hT3, rfl, _, rfl⟩⟩
    have stay : ∀ b ob, b ∉ [e, it] → s.heap.get? b = some ob → h3.get? b = some ob := fun b ob hb q => by
      have b1 : b ≠ e := fun z => hb (by simp [z])
      have b2 : b ≠ it := fun z => hb (by simp [z])
      rw [sb.2 b b1]
      exact hk b ob b1 b2 q
    have I1 : Inv X pins σ (upd H s.heap.objs.size (.tup [.int (i : Nat), x])) { s with heap := h3, toks := tk + 1 } := I.turnedNew (ch := [e, it]) stay hf (Nat.le_refl _) fresh
    refine ⟨.ref s.heap.objs.size, _, I1, rfl, ⟨_, x, rfl, I.hok.fresh (Nat.le_refl _), rfl, fun ys hy => by rw [I.tuple_inj hy hq]; exact hx⟩, ⟨⟨y, ?_⟩, hst.1.at fun ob q => (sb.2 it (Ne.symm hne)).trans q, hne⟩, fun b hb => ?_⟩
    · rw [show ((i + 1 : Nat) : Int) = (i : Int) + 1 by omega]
      exact he3
    · have hb2 : b < s.heap.objs.size := by
        rcases (show b = e ∨ b = it by simpa using hb) with rfl | rfl
        · exact hel
        · obtain ⟨ob, q, _⟩ := hit
          exact Heap.lt_size q
      rw [upd_ne (Nat.ne_of_lt hb2)]
      exact (hf b hb).1
  · intro X hP hw hK hc i pins s σ H E I hf st hg
    subst hP hw hK
    obtain ⟨⟨old, he⟩, hit, hne⟩ := st
    obtain ⟨xs, hq, hx⟩ := hg
    obtain ⟨its, rv, p, _⟩ := I.tuple hq
    have p2 : s.heap.IsTuple a its.toArray := p
    obtain ⟨f0, f1, f2, f3, f4, f5⟩ := hf it (by simp)
    have DD := Draws.tuple (prog := X.prog) (w := X.w) (A := X.A.in1) (I.ok.hd hc) it a (tup_ne_iter hit p2) its.toArray
    have en : i = its.toArray.size := by
      have := rv.length
      rw [List.size_toArray]
      omega
    rw [en] at hit
    exact wpAny_pyNext_enum_endD DD he ⟨hit, p2⟩ fun h' eb => ⟨rfl, I.turned (t' := s.toks) (fun b o hb q => eb b o hb q) f0 f1 f3 f4 f5⟩
  · rintro A i s Q E ⟨⟨_, he⟩, _⟩ h
    exact wpAny_pyIter_enum he h
def iEnumT (K : PySem.W.Frag) (ta : TA) : TI := fun σ H R => ta σ H fun vs H1 => ∃ a xs, vs = [.ref a] ∧ SqT K H1 a xs ∧ R (IteT K a) H1
theorem pi_enumT {X : Cx} {e : Expr} {ta : TA} {p pos tpos : Pos} {elts : List Expr} {kk : Nat} (hg : Gl X "enumerate") (hm : X.mg "enumerate" = none) (ha : PA X [e] ta) (hs : starEach [e] X.env = [(false, eval e X.env)] := by rfl) :
    PI X (.Tuple elts kk tpos) (.Call (.Name "enumerate" p) [e] [] pos) (iEnumT X.K ta) := by
  constructor
  intro pins s σ H R I h
  refine Call_ (ld_blt I hg hm boot_enumerate (PyProof.Rows.callWith_type1 (thn (ha.run pos pins s σ H _ I h) fun us s1 ⟨vs, H1, I1, r1, a, xs, ex, hq, q⟩ => ?_) hs rfl))
  subst ex
  obtain ⟨u, rfl, r2⟩ := vals1 r1
  cases r2
  obtain ⟨its, rv, pl, _⟩ := I1.tuple hq
  have p2 : s1.heap.IsTuple a its.toArray := pl
  refine call_enumB (begins_tuple a its.toArray) p2 fun h2 he ho hk => wpAny_pyIter_enum he ?_
  have I2 : Inv X pins σ H1 { s1 with heap := h2 } := I1.kept (t' := s1.toks) hk
  refine ⟨s1.heap.objs.size + 1, [s1.heap.objs.size + 1, s1.heap.objs.size], _, _, H1, rfl, I2, turn_enumT a (s1.heap.objs.size + 1) s1.heap.objs.size, ⟨⟨.none, he⟩, ⟨_, ho, rfl, rfl⟩, Nat.succ_ne_self _⟩, fun b hb => ?_, q⟩
  have le : s1.heap.objs.size ≤ b := by
    rcases (show b = s1.heap.objs.size + 1 ∨ b = s1.heap.objs.size by simpa using hb) with z | z
    · exact z ▸ Nat.le_succ _
    · exact z ▸ Nat.le_refl _
  exact I1.fpOk le (I1.hok.fresh le)
theorem walk_enumT {K : PySem.W.Frag} {a : Addr} {xs : List V} : Walk (IteT K a) xs.length (fun H => SqT K H a xs) (YPair (fun i => some (.int (i : Nat))) (fun i => xs[i]?)) := by
  refine ⟨fun i H hi q => ⟨xs, xs[i], q, by simp [hi]⟩, fun H q => ⟨xs, q, rfl⟩, fun i H v H' hi q y => ?_⟩
  obtain ⟨T, x, h1, h2, h3, h4⟩ := y
  exact ⟨T, .int (i : Nat), x, h1, h2, h3, rfl, h4 xs q⟩
end Sw
/-! Any datum beside a text: ==, not in. -/
namespace Sw
open PySem PySem.Spec PyProof.Rows L2 PySem.SeqAt
open AutoSeq1 (wpAny_loadPart')
theorem dict_eq_declines_str (l : Addr) (c : Value) (es : Array DictEntry) (ep : Nat) (b : Str) (u : Tok) :
    Meets (Builtin.«dict.__eq__» ⟨[.ref l, .str b u], []⟩) (fun _ R s => s.heap.get? l = some { cls := .type "dict", dict := none, data := .dict es ep, slots := #[] } ∧ R (.ok (.ret .notImplemented)) s) :=
  .of_wp fun prog w A R s h => by obtain ⟨hp, g, d, tk, os⟩ := s; obtain ⟨hl, h⟩ := h; have f1 := F.sub_str_dict; wp_walk using wpAny_loadPart' hl, wpAny_load hl; exact ⟨_, rfl, h⟩
theorem str_eq_declines_dict (b : Str) (u : Tok) (l : Addr) (es : Array DictEntry) (ep : Nat) :
    Meets (Builtin.«str.__eq__» ⟨[.str b u, .ref l], []⟩) (fun _ R s => s.heap.get? l = some { cls := .type "dict", dict := none, data := .dict es ep, slots := #[] } ∧ R (.ok (.ret .notImplemented)) s) :=
  .of_wp fun prog w A R s h => by obtain ⟨hp, g, d, tk, os⟩ := s; obtain ⟨hl, h⟩ := h; wp_walk using wpAny_loadPart' hl, wpAny_load hl; exact ⟨_, rfl, h⟩
section
variable {A : Around} {s : Shared}
theorem rcAt_dict_str {l : Addr} {o : Obj} {es : Array DictEntry} {ep : Nat} (b : Str) (u : Tok) (ho : s.heap.get? l = some o) (hx : o.ExactDict) (hd : o.data = .dict es ep) (hu : A.units < cLine) : RcAt A s (.ref l) (.str b u) false := fun prog w E Q h => by
  obtain ⟨cls, dd, data, sl⟩ := o
  obtain ⟨h1, h2, h3⟩ := hx
  simp only at h1 h2 h3 hd
  subst h1 h2 h3 hd
  exact rc_eq_decline_or (k := false) ⟨_, ho, rfl⟩ (typeIs_str s b u) (by decide) F.sub_str_dict F.slot_dict_eq F.slot_str_eq_refl
    (fun _ hq => call_meets F.slot_dict_eq ⟨_, ho, rfl⟩ F.entry_dict_eq (F.args_dict_eq_2 _ _) (dict_eq_declines_str l (.type "dict") es ep b u) ⟨ho, hq⟩)
    (fun _ hq => call_meets F.slot_str_eq_refl (typeIs_str s b u) F.entry_str_eq (F.args_str_eq_2 _ _) (str_eq_declines_dict b u l es ep) ⟨ho, hq⟩)
    (fun _ hq => wpAny_of_eq (rfl : isSame (.ref l) (.str b u) = pure false) hq) (.inr hu) h
theorem rcAt_str_dict {l : Addr} {o : Obj} {es : Array DictEntry} {ep : Nat} (b : Str) (u : Tok) (ho : s.heap.get? l = some o) (hx : o.ExactDict) (hd : o.data = .dict es ep) (hu : A.units < cLine) : RcAt A s (.str b u) (.ref l) false := fun prog w E Q h => by
  obtain ⟨cls, dd, data, sl⟩ := o
  obtain ⟨h1, h2, h3⟩ := hx
  simp only at h1 h2 h3 hd
  subst h1 h2 h3 hd
  exact rc_eq_decline_or (k := false) (typeIs_str s b u) ⟨_, ho, rfl⟩ (by decide) F.sub_dict_str F.slot_str_eq F.slot_dict_eq_refl
    (fun _ hq => call_meets F.slot_str_eq (typeIs_str s b u) F.entry_str_eq (F.args_str_eq_2 _ _) (str_eq_declines_dict b u l es ep) ⟨ho, hq⟩)
    (fun _ hq => call_meets F.slot_dict_eq_refl ⟨_, ho, rfl⟩ F.entry_dict_eq (F.args_dict_eq_2 _ _) (dict_eq_declines_str l (.type "dict") es ep b u) ⟨ho, hq⟩)
    (fun _ hq => wpAny_of_eq (rfl : isSame (.str b u) (.ref l) = pure false) hq) (.inr hu) h
theorem eqAt_str_dict {l : Addr} {o : Obj} {es : Array DictEntry} {ep : Nat} (b : Str) (u : Tok) (ho : s.heap.get? l = some o) (hx : o.ExactDict) (hd : o.data = .dict es ep) (hu : A.units < cLine) : EqAt A s (.str b u) (.ref l) false := fun prog w E Q h => by
  unfold eqBool
  refine wpAny_holding ?_
  refine wpAny_ite_split (fun hab => absurd (eq_of_beq hab) nofun) (fun _ => ?_)
  exact wpAny_bind (rcAt_str_dict b u ho hx hd hu prog w E _ (wpAny_truthy_bool h))
end
/-- the datum is this text -/
def isS (z : Str) : PyData → Bool
  | .str x => decide (x = z)
  | _ => false
def isSin (zs : List Str) : PyData → Bool
  | .str x => decide (x ∈ zs)
  | _ => false
def rEqS (K : PySem.W.Frag) : R2 := fun x y H Q => ∃ mu d z, Dt K mu H x d ∧ y = .str z ∧ Q (.bl (isS z d)) H
def rNotInS (K : PySem.W.Frag) : R2 := fun x y H Q => ∃ mu d zs p, Dt K mu H x d ∧ y = .ref p ∧ SqT K H p (zs.map V.str) ∧ Q (.bl (!isSin zs d)) H
section
variable {X : Cx} {K : PySem.W.Frag}
theorem op_eqS (hK : X.K = K) (hu : X.A.units + 64 < cLine) : OpR X (compareOp .Eq) (rEqS K) := by
  subst hK
  intro pins s σ H x y v u Q I rx ry h
  obtain ⟨mu, d, z, hd, rfl, q⟩ := h
  have hu' : X.A.units < cLine := by omega
  have sc := fun (a : scal x (.str z) = true) (b : Q (.bl (decide (x = V.str z))) H) => op_eq pins s σ H x (.str z) v u Q I rx ry ⟨a, b⟩
  cases hd with
  | non => exact sc rfl q
  | bl b => exact sc rfl q
  | int i => exact sc rfl q
  | str w =>
    refine sc rfl ?_
    rw [show decide (V.str w = V.str z) = decide (w = z) by rw [Bool.eq_iff_iff]; simp]
    exact q
  | lst _ rd _ =>
    cases rx
    obtain ⟨t, rfl⟩ := ry
    obtain ⟨its, rv, p, _⟩ := I.list (Rd.sqL rd)
    exact RcAt.list_str z t p.isList hu' X.prog X.w _ _ ⟨.bl _, H, I, rfl, q⟩
  | tup rd _ =>
    cases rx
    obtain ⟨t, rfl⟩ := ry
    obtain ⟨its, rv, p, _⟩ := I.tuple (Rd.sqT rd)
    exact RcAt.tuple_str z t p hu' X.prog X.w _ _ ⟨.bl _, H, I, rfl, q⟩
  | tupK rd _ =>
    cases rx
    obtain ⟨t, rfl⟩ := ry
    obtain ⟨its, rv, p, _⟩ := I.tuple (KTup.sqT rd)
    exact RcAt.tuple_str z t p hu' X.prog X.w _ _ ⟨.bl _, H, I, rfl, q⟩
  | @dct a kvs _ _ rd _ =>
    cases rx
    obtain ⟨t, rfl⟩ := ry
    have zo : ObjOk X.prog X.w H s.heap a (.dK kvs) := rd.ok I.hok
    obtain ⟨_, _, vs, rel, o, es, ep, ho, hx, hdd, _⟩ := zo
    exact rcAt_dict_str z t ho hx hdd hu' X.prog X.w _ _ ⟨.bl _, H, I, rfl, q⟩
/-- which of the texts -/
def eqS (d : PyData) : Value → Bool
  | .str z _ => isS z d
  | _ => false
theorem op_notInT (hK : X.K = K) (hu : X.A.units + 64 < cLine) : OpR X (compareOp .NotIn) (rNotInS K) := by
  subst hK
  intro pins s σ H x y v u Q I rx ry h
  obtain ⟨mu, d, zs, p, hd, rfl, hp, q⟩ := h
  cases ry
  obtain ⟨its, rv, pl, hz⟩ := I.tuple hp
  have hu' : X.A.in1.units < cLine := by
    have : X.A.in1.units = X.A.units + 1 := rfl
    omega
  have it : ∀ y ∈ its, ∃ z t, y = Value.str z t := by
    intro y hy
    obtain ⟨i, hi, e⟩ := List.getElem_of_mem hy
    have hl := rv.length
    obtain ⟨y2, e2, r2⟩ := rv.get (show (zs.map V.str)[i]? = some (V.str (zs[i]'(by rw [List.length_map] at hl; omega))) by
      rw [List.getElem?_map, List.getElem?_eq_getElem (by rw [List.length_map] at hl; omega)]
      rfl)
    rw [List.getElem?_eq_getElem hi, e] at e2
    cases e2
    obtain ⟨t, rfl⟩ := r2
    exact ⟨_, t, rfl⟩
  have an : its.any (eqS d) = isSin zs d := by
    have key : ∀ {zs : List Str} {us : List Value}, Vals (zs.map V.str) us → us.any (eqS d) = isSin zs d := by
      intro zs
      induction zs with
      | nil =>
        intro us r
        cases r
        cases d <;> rfl
      | cons z zs ih =>
        intro us r
        cases r with
        | cons r1 r2 =>
          obtain ⟨t, rfl⟩ := r1
          rw [List.any_cons, ih r2]
          show (isS z d || isSin zs d) = isSin (z :: zs) d
          cases d with
          | str w =>
            show (decide (w = z) || decide (w ∈ zs)) = decide (w ∈ z :: zs)
            rw [Bool.eq_iff_iff]
            simp
          | _ => rfl
    exact key rv
  refine notIn_tupleAt (eqS d) pl (fun y hy => ?_) ⟨.bl _, H, I, rfl, ?_⟩
  · obtain ⟨z, t, rfl⟩ := it y (by simpa using hy)
    show EqAt X.A.in1 s (.str z t) v (isS z d)
    cases hd with
    | non =>
      cases rx
      exact EqAt.str_none z t
    | bl b =>
      cases rx
      exact EqAt.str_bool z t b
    | int i =>
      obtain ⟨t2, rfl⟩ := rx
      exact EqAt.str_int z t i t2
    | str w =>
      obtain ⟨t2, rfl⟩ := rx
      have e := EqAt.str_str (A := X.A.in1) (s := s) z t w t2
      have e2 : isS z (.str w) = (z == w) := by
        show decide (w = z) = (z == w)
        rw [Bool.eq_iff_iff, decide_eq_true_eq, beq_iff_eq]
        exact ⟨Eq.symm, Eq.symm⟩
      rw [e2]
      exact e
    | lst _ rd _ =>
      cases rx
      obtain ⟨its, rv, p, _⟩ := I.list (Rd.sqL rd)
      exact EqAt.str_list z t p.isList hu'
    | tup rd _ =>
      cases rx
      obtain ⟨its, rv, p, _⟩ := I.tuple (Rd.sqT rd)
      exact EqAt.str_tuple z t p hu'
    | tupK rd _ =>
      cases rx
      obtain ⟨its, rv, p, _⟩ := I.tuple (KTup.sqT rd)
      exact EqAt.str_tuple z t p hu'
    | @dct a kvs _ _ rd _ =>
      cases rx
      have zo : ObjOk X.prog X.w H s.heap a (.dK kvs) := rd.ok I.hok
      obtain ⟨_, _, vs, rel, o, es, ep, ho, hx, hdd, _⟩ := zo
      exact eqAt_str_dict z t ho hx hdd hu'
  · rw [List.any_toArray, an]
    exact q
end
end Sw
/-! A tuple beside the empty one. -/
namespace Sw
open PySem PySem.Spec PyProof.Rows L2
def rNeNilT (K : PySem.W.Frag) : R2 := fun x y H Q => ∃ p q xs, x = .ref p ∧ y = .ref q ∧ SqT K H p xs ∧ SqT K H q [] ∧ Q (.bl (!decide (xs = []))) H
def rEqNilT (K : PySem.W.Frag) : R2 := fun x y H Q => ∃ p q xs, x = .ref p ∧ y = .ref q ∧ SqT K H p xs ∧ SqT K H q [] ∧ Q (.bl (decide (xs = []))) H
theorem nil_len {xs : List V} {its : List Value} (rv : Vals xs its) : (its.toArray.size == (#[] : Array Value).size) = decide (xs = []) := by
  have := rv.length
  rw [List.size_toArray, Bool.eq_iff_iff, beq_iff_eq, decide_eq_true_eq]
  show its.length = 0 ↔ _
  rw [← this]
  exact List.length_eq_zero_iff
theorem op_neNilT {X : Cx} {K : PySem.W.Frag} (hK : X.K = K) (hu : X.A.units + 64 < cLine) : OpR X (compareOp .NotEq) (rNeNilT K) := by
  subst hK
  intro pins s σ H x y v u Q I rx ry h
  obtain ⟨p, q, xs, rfl, rfl, hp, hq, k⟩ := h
  cases rx
  cases ry
  obtain ⟨its, rv, p', hz⟩ := I.tuple hp
  obtain ⟨its2, rv2, p2, hz2⟩ := I.tuple hq
  cases rv2
  have hu' : X.A.units < cLine := by omega
  refine PySem.SeqAt.RcNeAt.tuples (e := fun _ => true) p' p2 hu' (fun j h1 h2 => absurd h2 (by simp)) X.prog X.w _ _ ⟨.bl _, H, I, rfl, ?_⟩
  rw [nil_len rv]
  simpa using k
theorem op_eqNilT {X : Cx} {K : PySem.W.Frag} (hK : X.K = K) (hu : X.A.units + 64 < cLine) : OpR X (compareOp .Eq) (rEqNilT K) := by
  subst hK
  intro pins s σ H x y v u Q I rx ry h
  obtain ⟨p, q, xs, rfl, rfl, hp, hq, k⟩ := h
  cases rx
  cases ry
  obtain ⟨its, rv, p', hz⟩ := I.tuple hp
  obtain ⟨its2, rv2, p2, hz2⟩ := I.tuple hq
  cases rv2
  have hu' : X.A.units < cLine := by omega
  refine PySem.SeqAt.RcAt.tuples (e := fun _ => true) p' p2 hu' (fun j h1 h2 => absurd h2 (by simp)) X.prog X.w _ _ ⟨.bl _, H, I, rfl, ?_⟩
  rw [nil_len rv]
  simpa using k
theorem extend_tup (l : Addr) (items : Array Value) (n : Nat) (b : Addr) (items2 : Array Value) (n2 : Nat) (dd : Option Addr) (sl : Array (Option Value)) (hs0 : ¬(!items.isEmpty && Builtin.List.listTooLong (items.size + items2.size)) = true) (hs1 : items.size ≤ sizeLine) (hs2 : items.size + items2.size ≤ sizeLine + 1) :
    Meets (Builtin.«list.extend» ⟨[.ref l, .ref b], []⟩) (fun _ R s => s.heap.get? l = some { cls := .type "list", dict := none, data := .seq items n, slots := #[] } ∧ s.heap.get? b = some { cls := .type "tuple", dict := dd, data := .seq items2 n2, slots := sl } ∧ R (.ok (.ret Value.none)) { s with heap := s.heap.update l (Obj.mapSeq fun x => x ++ items2), toks := s.toks }) :=
  .of_wp fun prog w A R s h => by
    obtain ⟨hp, g, d, tk, os⟩ := s; obtain ⟨hl, hb, h⟩ := h; have f1 := AutoSeq1.idx_int; have f2 := AutoSeq1.sub_tuple_tuple; have f3 := AutoSeq1.sub_list_list; have f4 := AutoSeq1.sub_tuple_list; have f5 := AutoSeq1.sub_list_tuple;
    have hz' : (items ++ items2).size ≤ sizeLine + 1 := by rw [Array.size_append]; exact hs2
    wp_walk using (wpAny_updateSeq hl rfl (hz := hs1) (_hz' := hz')), AutoSeq1.wpAny_loadPart' hl, AutoSeq1.wpAny_loadPart' hb; exact ⟨_, rfl, h⟩
def rExtT (K : PySem.W.Frag) : V → List V → Hp → VK → Prop := fun x vs H Q => ∃ l b xs zs, x = .ref l ∧ vs = [.ref b] ∧ H l = some (.lst xs) ∧ SqT K H b zs ∧ xs.length + zs.length ≤ sizeLine ∧ Q .non (upd H l (.lst (xs ++ zs)))
theorem mt_extendT {X : Cx} {K : PySem.W.Frag} (hK : X.K = K) : MtM X "list.extend" (rExtT K) := by
  subst hK
  intro pins s σ H x vs v us Q I rx rv h
  obtain ⟨l, b, xs, zs, rfl, rfl, hH, hB, hz, q⟩ := h
  cases rx
  obtain ⟨u, rfl, ru⟩ := rv.one
  cases ru
  obtain ⟨z, its, n, r, hl, e⟩ := I.lstM hH
  obtain ⟨its2, r2, ⟨⟨cls, dd, data, sl⟩, e2, hc, n2, hd⟩, _⟩ := I.tuple hB
  simp only at hc hd
  subst hc hd
  have hl2 := r2.length
  have hsz : its.toArray.size + its2.toArray.size ≤ sizeLine := by rw [List.size_toArray, List.size_toArray]; omega
  have hlong : ¬ (!its.toArray.isEmpty && Builtin.List.listTooLong (its.toArray.size + its2.toArray.size)) = true := by
    rw [notLongL hsz, Bool.and_false]
    exact Bool.false_ne_true
  refine call_meets F.slot_list_extend ⟨_, e, rfl⟩ F.entry_list_extend (F.args_list_extend_2 _ _)
    (extend_tup l its.toArray n b its2.toArray n2 dd sl hlong (by rw [List.size_toArray]; omega) (by omega)) ⟨e, e2, ?_⟩
  refine ⟨.non, _, I.lset (its' := its ++ its2) hH e (by simp) (r.append r2) ?_, rfl, q⟩
  rw [List.length_append]
  omega
theorem mt_extT {X : Cx} : MtR X "list.extend" (rExtT X.K) := mt_extendT rfl
end Sw
/-! zip of a text and a tuple; dict.update. -/
namespace Sw
open PySem PySem.Spec PyProof.Rows L2
def ItST (K : PySem.W.Frag) (x : Str) (b : Addr) : It where
  go i H := ∃ (ys : List V) (c : Nat) (y : V), SqT K H b ys ∧ x.cps[i]? = some c ∧ ys[i]? = some y
  yld i H v H' := ∃ T c y, v = .ref T ∧ H T = none ∧ H' = upd H T (.tup [.str ⟨#[c]⟩, y]) ∧ x.cps[i]? = some c ∧ ∀ ys, SqT K H b ys → ys[i]? = some y
  stop i H := ∃ ys : List V, SqT K H b ys ∧ (i = x.cps.size ∨ i = ys.length) ∧ i ≤ x.cps.size ∧ i ≤ ys.length
theorem turn_zipST {P : Program} {w : World} {K : PySem.W.Frag} {elts : List Expr} {kk : Nat} {tpos : Pos} {x : Str} {t : Tok} {b z TI TO i1 i2 : Addr} (D : ZipSep2 z TI TO i1 i2 [i1] [i2, b]) (hb : b ≠ i2) :
    Turn P w K (.Tuple elts kk tpos) (ItST K x b) [z, TI, TO, i1, i2] z (fun i h => IsZip h z TI TO .none ∧ IsTupOf2 h TI (.ref i1) (.ref i2) ∧ (∃ a1 a2, IsTupOf2 h TO a1 a2) ∧ h.IsStrIter i1 (strIterType x) x t i ∧ h.IsTupleIter i2 b i) where
  mem := by simp
  obj := fun i h st c hc => by
    obtain ⟨hz, hTI, ⟨x, y, hTO⟩, ⟨o1, e1, _, d1⟩, ⟨o2, e2, _, d2⟩⟩ := st
    have e' : c = z ∨ c = TI ∨ c = TO ∨ c = i1 ∨ c = i2 := by simpa using hc
    rcases e' with q | q | q | q | q
    · rw [q]; exact ⟨_, hz, fun v q => nomatch q⟩
    · rw [q]; exact ⟨_, hTI, fun v q => nomatch q⟩
    · rw [q]; exact ⟨_, hTO, fun v q => nomatch q⟩
    · rw [q]; exact ⟨o1, e1, fun v q => by rw [d1] at q; cases q⟩
    · rw [q]; exact ⟨o2, e2, fun v q => by rw [d2] at q; cases q⟩
  keep := fun i h h' st k => by
    obtain ⟨hz, hTI, ⟨x, y, hTO⟩, h1, h2⟩ := st
    exact ⟨k z (by simp) _ hz, k TI (by simp) _ hTI, ⟨x, y, k TO (by simp) _ hTO⟩, (let ⟨o, e, c, d⟩ := h1; ⟨o, k i1 (by simp) o e, c, d⟩), h2.at fun o q => k i2 (by simp) o q⟩
  item := by
    intro X hP hw hK hc i pins s σ H E I hf st hg
    subst hP hw hK
    obtain ⟨hz, hTI, ⟨x0, y0, hTO⟩, h1, h2⟩ := st
    obtain ⟨ys, c, y, hqy, hx, hy⟩ := hg
    obtain ⟨its2, rv2, p2, _⟩ := I.tuple hqy
    have p3 : s.heap.IsTuple b its2.toArray := p2
    obtain ⟨u2, hu2, ru2⟩ := rv2.get hy
    have hu3 : its2.toArray[i]? = some u2 := by simpa using hu2
    have hzl : z < s.heap.objs.size := Heap.lt_size hz
    have D1 := Draws.text (prog := X.prog) (w := X.w) (A := X.A.in1) (I.ok.hd hc) i1 x t
    have D2 := Draws.tuple (prog := X.prog) (w := X.w) (A := X.A.in1) (I.ok.hd hc) i2 b hb its2.toArray
    refine wpAny_pyNext_zipD2_item D D1 D2 hz hTI hTO h1 ⟨h2, p3⟩ (Array.getElem?_eq_some_iff.mp hx).1 (Array.getElem?_eq_some_iff.mp hu3).1 fun x1 x2 h' tk y1 y2 z' TO' h1' h2' hT hsz hk => ?_
    obtain ⟨c', u1, hc', rfl⟩ := y1
    rw [hx] at hc'
    cases hc'
    have y2 : its2.toArray[i]? = some x2 := y2
    rw [hu3] at y2
    cases y2
    obtain ⟨h2', _⟩ := h2'
    refine ⟨_, rfl, wpAny_letOwnedTupleGo_zip (s := { s with heap := h', toks := tk }) z' fun h'' z'' sb => ?_⟩
    have hT2 : h''.get? s.heap.objs.size = some { cls := .type "tuple", data := .seq #[.str ⟨#[c]⟩ u1, u2] } := (sb.2 _ (Nat.ne_of_gt hzl)).trans hT
    have new : ObjOk X.prog X.w (upd H s.heap.objs.size (.tup [.str ⟨#[c]⟩, y])) h'' s.heap.objs.size (.tup [.str ⟨#[c]⟩, y]) :=
      ⟨by show 2 ≤ sizeLine; decide, [.str ⟨#[c]⟩ u1, u2], .cons ⟨_, rfl⟩ (.cons ru2 .nil), ⟨_, hT2, rfl, _, rfl⟩⟩
    have I1 : Inv X pins σ (upd H s.heap.objs.size (.tup [.str ⟨#[c]⟩, y])) { s with heap := h'', toks := tk } :=
      I.turnedNew (t' := tk) (ch := [z, TI, TO, i1, i2]) (fun c o hb q => (sb.2 c (fun q' => hb (by simp [q']))).trans (hk c o (fun q' => hb (by simp [q'])) (fun q' => hb (by simp [q'])) (fun q' => hb (by simp [q'])) (fun q' => hb (by simp [q'])) q)) hf (Nat.le_refl _) new
    refine ⟨.ref s.heap.objs.size, _, I1, rfl, ⟨_, c, y, rfl, I.hok.fresh (Nat.le_refl _), rfl, hx, fun l hl => by rw [I.tuple_inj hl hqy]; exact hy⟩, ⟨z'', ?_, ⟨.str ⟨#[c]⟩ u1, u2, ?_⟩, ?_, ?_⟩, fun c hcm => ?_⟩
    · exact (sb.2 _ D.TIz).trans (hk _ _ D.TIz D.TITO D.TIi1 D.TIi2 hTI)
    · exact (sb.2 _ D.TOz).trans TO'
    · obtain ⟨o, e, c1, d1⟩ := h1'
      exact ⟨o, (sb.2 _ D.zi1.symm).trans e, c1, d1⟩
    · exact h2'.at fun o q => (sb.2 _ D.zi2.symm).trans q
    · have hlt : c < s.heap.objs.size := by
        have e' : c = z ∨ c = TI ∨ c = TO ∨ c = i1 ∨ c = i2 := by simpa using hcm
        rcases e' with q | q | q | q | q
        · rw [q]; exact hzl
        · rw [q]; exact Heap.lt_size hTI
        · rw [q]; exact Heap.lt_size hTO
        · rw [q]; obtain ⟨_, e1, _⟩ := h1; exact Heap.lt_size e1
        · rw [q]; obtain ⟨_, e2, _⟩ := h2; exact Heap.lt_size e2
      rw [upd_ne (Nat.ne_of_lt hlt)]
      exact (hf c hcm).1
  done := by
    intro X hP hw hK hc i pins s σ H E I hf st hg
    subst hP hw hK
    obtain ⟨hz, hTI, ⟨x0, y0, hTO⟩, h1, h2⟩ := st
    obtain ⟨ys, hqy, hend, l1, l2⟩ := hg
    obtain ⟨its2, rv2, p2, _⟩ := I.tuple hqy
    have p3 : s.heap.IsTuple b its2.toArray := p2
    have ll := rv2.length
    have D1 := Draws.text (prog := X.prog) (w := X.w) (A := X.A.in1) (I.ok.hd hc) i1 x t
    have D2 := Draws.tuple (prog := X.prog) (w := X.w) (A := X.A.in1) (I.ok.hd hc) i2 b hb its2.toArray
    have sz : its2.toArray.size = ys.length := by rw [List.size_toArray, ll]
    exact wpAny_pyNext_zipD2_end D D1 D2 hz hTI hTO h1 ⟨h2, p3⟩ l1 (by rw [sz]; exact l2) (by rw [sz]; exact hend) fun h' tk hk => ⟨rfl, I.turnedL (t' := tk) (ch := [z, TI, TO, i1, i2]) (fun c o hb q =>
      hk c o (fun q' => hb (by simp [q'])) (fun q' => hb (by simp [q'])) (fun q' => hb (by simp [q'])) (fun q' => hb (by simp [q'])) q) hf⟩
  self := fun A i s Q E st h => wpAny_pyIter_zip st.1 h
theorem sepN (n b : Nat) (h : b < n) : ZipSep2 (n + 4) (n + 2) (n + 3) n (n + 1) [n] [n + 1, b] := by
  have two : ∀ c : Nat, c ≠ n + 1 → c ≠ b → ¬ List.Mem c [n + 1, b] := fun c h1 h2 e => by
    have e2 : c ∈ [n + 1, b] := e
    simp only [List.mem_cons, List.not_mem_nil, or_false] at e2
    omega
  have one : ∀ c : Nat, c ≠ n → ¬ List.Mem c [n] := fun c h1 e => by
    have e2 : c ∈ [n] := e
    simp only [List.mem_cons, List.not_mem_nil, or_false] at e2
    omega
  exact { TIz := by show ¬ ((n + 2 : Nat) = n + 4); omega
          TOz := by show ¬ ((n + 3 : Nat) = n + 4); omega
          TITO := by show ¬ ((n + 2 : Nat) = n + 3); omega
          TIi1 := by show ¬ ((n + 2 : Nat) = n); omega
          mem1 := List.mem_cons_self
          zf1 := one _ (by omega)
          Tf1 := one _ (by omega)
          TIi2 := by show ¬ ((n + 2 : Nat) = n + 1); omega
          mem2 := List.mem_cons_self
          zf2 := two _ (by omega) (by omega)
          Tf2 := two _ (by omega) (by omega)
          sep1_2 := two _ (by omega) (by omega)
          sep2_1 := one _ (by omega) }
theorem le5 (n c : Nat) (h : c ∈ [n + 4, n + 2, n + 3, n, n + 1]) : n ≤ c := by
  simp only [List.mem_cons, List.not_mem_nil, or_false] at h
  omega
def iZipST (K : PySem.W.Frag) (ta : TA) : TI := fun σ H R => ta σ H fun vs H1 => ∃ x b ys, vs = [.str x, .ref b] ∧ SqT K H1 b ys ∧ R (ItST K x b) H1
theorem pi_zipST {X : Cx} {e e2 : Expr} {ta : TA} {p pos tpos : Pos} {elts : List Expr} {kk : Nat} (hg : Gl X "zip") (hm : X.mg "zip" = none) (ha : PA X [e, e2] ta)
    (hs : starEach [e, e2] X.env = (false, eval e X.env) :: starEach [e2] X.env := by rfl) (hpl : (backTo pos (starEach [e2] X.env)).any (·.1) = false := by rfl) :
    PI X (.Tuple elts kk tpos) (.Call (.Name "zip" p) [e, e2] [] pos) (iZipST X.K ta) := by
  refine ⟨fun pins s σ H R I h => ?_⟩
  refine Call_ (ld_blt I hg hm PyProof.Rows.boot_zip (PyProof.Rows.callWith_type1 (thn (ha.run pos pins s σ H _ I h) fun us s1 ⟨vs, H1, I1, r1, q1⟩ => ?_) hs hpl))
  obtain ⟨x, b, ys, ex, hqy, q⟩ := q1
  subst ex
  cases r1 with
  | @cons _ u1 _ us1 r1 r2 =>
  obtain ⟨t, rfl⟩ := r1
  cases r2 with
  | @cons _ u2 _ us2 r3 r4 =>
  cases r4
  cases r3
  obtain ⟨its2, rv2, p2, _⟩ := I1.tuple hqy
  have p3 : s1.heap.IsTuple b its2.toArray := p2
  have bl : b < s1.heap.objs.size := by
    obtain ⟨ob, e1, _⟩ := id p3
    exact Heap.lt_size e1
  refine zip_begins2 (begins_text x t) (begins_tuple b its2.toArray) trivial p3 fun h2 hz hTI hTO ho1 ho2 hsz hk => wpAny_pyIter_zip hz ?_
  have I2 : Inv X pins σ H1 { s1 with heap := h2 } := I1.kept (t' := s1.toks) hk
  have D : ZipSep2 (s1.heap.objs.size + 4) (s1.heap.objs.size + 2) (s1.heap.objs.size + 3) s1.heap.objs.size (s1.heap.objs.size + 1) [s1.heap.objs.size] [s1.heap.objs.size + 1, b] := sepN _ _ bl
  refine ⟨s1.heap.objs.size + 4, [s1.heap.objs.size + 4, s1.heap.objs.size + 2, s1.heap.objs.size + 3, s1.heap.objs.size, s1.heap.objs.size + 1], _, _, H1, rfl, I2, turn_zipST (t := t) D (Nat.ne_of_lt (Nat.lt_succ_of_lt bl)), ⟨hz, hTI, ⟨_, _, hTO⟩, ⟨_, ho1, rfl, rfl⟩, ⟨_, ho2, rfl, rfl⟩⟩, fun c hc => ?_, q⟩
  have le : s1.heap.objs.size ≤ c := le5 _ _ hc
  exact I1.fpOk le (I1.hok.fresh le)
theorem walk_zipST {K : PySem.W.Frag} {x : Str} {b : Addr} {ys : List V} {n : Nat} (h1 : n = x.cps.size) (h2 : n = ys.length) : Walk (ItST K x b) n (fun H => SqT K H b ys) (YPair (fun i => (x.cps[i]?).map fun c => V.str ⟨#[c]⟩) (fun i => ys[i]?)) := by
  refine ⟨fun i H hi q => ⟨ys, x.cps[i], ys[i], q, Array.getElem?_eq_getElem (by omega), List.getElem?_eq_getElem (by omega)⟩, fun H q => ⟨ys, q, .inl h1, by omega, by omega⟩, fun i H v H' hi q y => ?_⟩
  obtain ⟨T, c, y0, e1, e2, e3, e4, e5⟩ := y
  exact ⟨T, _, y0, e1, e2, e3, by show (x.cps[i]?).map _ = _; rw [e4]; rfl, e5 ys q⟩
def rUpd : V → List V → Hp → VK → Prop := fun x vs H Q => ∃ d b kvs more, x = .ref d ∧ vs = [.ref b] ∧ H d = some (.dK kvs) ∧ H b = some (.dK more) ∧ d ≠ b ∧ kvs.length + more.length ≤ sizeLine ∧ Q .non (upd H d (.dK (mergeK kvs more)))
theorem mt_update {X : Cx} : MtR X "dict.update" rUpd := by
  intro pins s σ H x vs v us Q I rx rv h
  obtain ⟨d, b, kvs, more, rfl, rfl, hd, hb, ne, hsz, q⟩ := h
  cases rx
  obtain ⟨u, rfl, ru⟩ := rv.one
  cases ru
  obtain ⟨z1, m1, vs1, r1, D1⟩ := dk_of I.hok hd
  obtain ⟨z2, m2, vs2, r2, D2⟩ := dk_of I.hok hb
  refine call_meetsIn PySem.F.slot_dict_update D1.typeIs PySem.F.entry_dict_update (PySem.F.args_dict_update_2 _ _) (meets_dict_update (mixKind X.prog X.w) d b ne m2)
    ⟨vs1, vs2, D1, D2, (by rw [← r1.length, ← r2.length]; exact hsz), fun h' hmm _ hs => ?_⟩
  have hz : (mergeK kvs more).length ≤ sizeLine := Nat.le_trans (length_mergeK more kvs) hsz
  have he : ∃ q, h'.get? d = some q := let ⟨q, _, _, hq, _⟩ := hmm; ⟨q, hq⟩
  exact ⟨.non, _, d_write I (t' := s.toks) (by rw [hd]; exact True.intro) hs he (dk_new hz m1 (r2.merge r1) hmm), rfl, q⟩
end Sw
/-! A tuple, turned about; a text, some times over. -/
namespace Sw
open PySem PySem.Spec PyProof.Rows L2 HT
section
variable {prog : Program} {w : World} {A : Around} {E : Value → Shared → Prop} {s : Shared}
theorem adjust_rev (n : Nat) : Builtin.Slice.sliceAdjust none none (-1) (n : Int) = ((n : Int) - 1, -1) := by
  unfold Builtin.Slice.sliceAdjust
  have h1 : ((-1 : Int) < 0) := by decide
  simp only [h1, if_true]
theorem places_rev (n : Nat) : Builtin.Slice.slicePlaces ((n : Int) - 1) (-1) (-1) = n := by
  unfold Builtin.Slice.slicePlaces
  have h1 : ¬ ((-1 : Int) > 0) := by decide
  simp only [h1, if_false]
  split
  · simp
  · omega
theorem fm_congr {α β : Type} {f g : α → Option β} : ∀ {l : List α}, (∀ x ∈ l, f x = g x) → l.filterMap f = l.filterMap g
  | [], _ => rfl
  | x :: l, h => by
    rw [List.filterMap_cons, List.filterMap_cons, h x List.mem_cons_self, fm_congr fun y hy => h y (List.mem_cons_of_mem _ hy)]
theorem pick_rev (xs : Array Value) : ((List.range xs.size).filterMap fun (m : Nat) => xs[(((xs.size : Int) - 1) + (m : Int) * (-1)).toNat]?).toArray = xs.toList.reverse.toArray := by
  congr 1
  have key : ∀ m : Nat, m < xs.size → xs[(((xs.size : Int) - 1) + (m : Int) * (-1)).toNat]? = xs.toList.reverse[m]? := fun m hm => by
    rw [show (((xs.size : Int) - 1) + (m : Int) * (-1)).toNat = xs.size - 1 - m by omega, List.getElem?_reverse (by rw [Array.length_toList]; exact hm), Array.getElem?_toList, Array.length_toList]
  have e : (List.range xs.size).filterMap (fun (m : Nat) => xs[(((xs.size : Int) - 1) + (m : Int) * (-1)).toNat]?) = (List.range xs.size).filterMap (fun m => xs.toList.reverse[m]?) := fm_congr fun m hm => key m (List.mem_range.mp hm)
  rw [e]
  have e2 : ∀ l : List Value, (List.range l.length).filterMap (fun m => l[m]?) = l := by
    intro l
    induction l with
    | nil => rfl
    | cons x l ih =>
      rw [List.length_cons, List.range_succ_eq_map, List.filterMap_cons]
      show x :: List.filterMap _ (List.map Nat.succ (List.range l.length)) = x :: l
      rw [List.filterMap_map]
      congr 1
  have e3 := e2 xs.toList.reverse
  rw [List.length_reverse, Array.length_toList] at e3
  rw [e3]
theorem getItem_tuple_rev {t sl : Addr} {items : Array Value} {vs : Value} {Q : Value → Shared → Prop} (ht : IsTup s.heap t items) (hs : s.heap.IsSliceOf sl .none .none vs) (ps : IsPart vs (some (-1)))
    (h : Q (.ref s.heap.objs.size) { s with heap := s.heap.push { cls := .type "tuple", data := .seq items.toList.reverse.toArray } })
    (hsz : items.size ≤ sizeLine) : wpAny (model prog w) A (getItem (.ref t) (.ref sl)) Q E s := by
  have hok : sizeOk (.seq items.toList.reverse.toArray) := by
    show items.toList.reverse.toArray.size ≤ sizeLine
    rw [List.size_toArray, List.length_reverse, Array.length_toList]
    exact hsz
  obtain ⟨os, hos, hcs, hds⟩ := id hs
  have hTs : s.TypeIs (.ref sl) "slice" := ⟨os, hos, hcs⟩
  unfold getItem
  try with_reducible refine wpAny_holding ?_
  first | refine wpAny_bind (wpAny_pure ?_) | skip
  refine wpAny_bind (wpAny_sequenceKey ht.typeIs (by decide) ?_)
  refine wpAny_bind (wpAny_callSpecial?_slot (name := Str.ofString "__getitem__") ht.typeIs PyProof.Rows.slot_tuple_getitem
    (wpAny_call_entry PyProof.Rows.slot_tuple_getitem ht.typeIs entry_tuple_getitem ?_ (args_tuple_getitem _ _)))
  show wpAny _ _ (Builtin.Tuple.tupleItemsOf (.ref t) >>= _) _ _ s
  refine wpAny_bind (tupleItemsOf_ ht ?_)
  refine wpAny_bind (wpAny_typeOf hTs ?_)
  rw [if_pos (by decide)]
  have applied : ∀ {Q' : Int × Int × Nat → Shared → Prop} {A' : Around} {E' : Value → Shared → Prop}, Q' ((items.size : Int) - 1, -1, items.size) s → wpAny (model prog w) A' (Builtin.Slice.sliceApplied (.ref sl) (pure (items.size : Int))) Q' E' s := fun {Q' A' E'} q => by
    unfold Builtin.Slice.sliceApplied Builtin.Slice.sliceFields
    refine wpAny_bind (wpAny_bind (wpAny_field hos hds (x := .none) rfl (wpAny_bind (wpAny_field hos hds (x := .none) rfl (wpAny_bind (wpAny_field hos hds (x := vs) rfl (wpAny_pure ?_)))))))
    refine wpAny_bind (slicePart_ ps ?_)
    show wpAny _ _ (if ((-1 : Int) == 0) = true then _ else _) _ _ s
    rw [if_neg (by decide)]
    refine wpAny_bind (slicePart_none (wpAny_bind (slicePart_none (wpAny_bind (wpAny_pure ?_)))))
    show wpAny _ _ (match Builtin.Slice.sliceAdjust none none (-1) (items.size : Int) with | (lo, hi) => pure (lo, (-1 : Int), Builtin.Slice.slicePlaces lo hi (-1))) _ _ s
    rw [adjust_rev]
    show wpAny _ _ (pure ((items.size : Int) - 1, (-1 : Int), Builtin.Slice.slicePlaces ((items.size : Int) - 1) (-1) (-1))) _ _ s
    rw [places_rev]
    exact wpAny_pure q
  refine wpAny_bind (applied ?_)
  have hno : ¬ ((((items.size : Int) - 1) == 0 && (-1 : Int) == 1 && items.size == items.size) = true) := by
    intro q
    rw [Bool.and_eq_true, Bool.and_eq_true] at q
    exact absurd (eq_of_beq q.1.2) (by decide)
  show wpAny _ _ (if (((items.size : Int) - 1) == 0 && (-1 : Int) == 1 && items.size == items.size) = true then _ else _) _ _ s
  rw [if_neg hno, pick_rev]
  first
    | exact wpAny_bind (m := Builtin.Tuple.tupleExact _) (wpAny_newObj_type (wpAny_pure ⟨_, rfl, wpAny_pure h⟩) hok)
    | exact wpAny_bind (m := Builtin.Tuple.tupleExact _) (wpAny_newObj_type (wpAny_bind (wpAny_pure (wpAny_pure ⟨_, rfl, wpAny_pure h⟩))) hok)
    | exact wpAny_bind (wpAny_bind (m := Builtin.Tuple.tupleExact _) (wpAny_newObj_type (wpAny_pure (wpAny_pure ⟨_, rfl, wpAny_pure h⟩)) hok))
    | exact wpAny_bind (wpAny_bind (m := Builtin.Tuple.tupleExact _) (wpAny_newObj_type (wpAny_pure ⟨_, rfl, wpAny_pure h⟩) hok))
end
def tRevT (K : PySem.W.Frag) (te : TE) : TE := fun σ H Q => te σ H fun x H1 => ∃ a xs, x = .ref a ∧ SqT K H1 a xs ∧ ∀ p, H1 p = none → Q (.ref p) (upd H1 p (.tup xs.reverse))
theorem pe_revT {X : Cx} {e : Expr} {te : TE} {k : Nat} {p1 p2 p3 pos : Pos} (he : PE X e te) : PE X (.Subscript e (.Slice none none (some (.UnaryOp .USub (.Constant (.int 1) k p1) p2)) p3) pos) (tRevT X.K te) := by
  refine ⟨fun pins s σ H Q I h => Subscript_ (thn (he.run pins s σ H _ I h) fun v s1 ⟨x, H1, I1, r1, a, xs, ex, hx, q⟩ => ?_)⟩
  subst ex
  cases r1
  have hst : PO X (some (.UnaryOp .USub (.Constant (.int 1) k p1) p2)) (tPart (tUn (rU fun i => .int (-i)) (tC (.int 1)))) := po_some (pe_un un_neg pe_int)
  refine wpAny_Slice (thn (po_none.run pins s1 σ H1 (fun o H2 => o = none ∧ H2 = H1) I1 ⟨rfl, rfl⟩) fun vl s2 ⟨l, H2, I2, pl, el, e2⟩ => ?_)
  subst el e2
  cases pl
  refine thn (po_none.run pins s2 σ H2 (fun o H3 => o = none ∧ H3 = H2) I2 ⟨rfl, rfl⟩) fun vu s3 ⟨u, H3, I3, pu, eu, e3⟩ => ?_
  subst eu e3
  cases pu
  refine thn (hst.run pins s3 σ H3 (fun o H4 => o = some (-1) ∧ H4 = H3) I3 ⟨1, rfl, -1, rfl, rfl, rfl⟩) fun vs s4 ⟨o, H4, I4, ps, eo, e4⟩ => ?_
  subst eo e4
  have I5 : Inv X pins σ H4 { s4 with heap := s4.heap.push { cls := .type "slice", data := .fields #[.none, .none, vs] } } := I4.kept (t' := s4.toks) fun b ob q => Heap.get?_push_of_some _ q
  obtain ⟨its, r, ht, hz⟩ := I5.tuple hx
  have hlen := r.length
  show wpAny (model X.prog X.w) X.A (subscriptTail e (.Slice none none (some (.UnaryOp .USub (.Constant (.int 1) k p1) p2)) p3) (.ref a) (.ref s4.heap.objs.size)) (EP X pins σ Q) X.xe { s4 with heap := s4.heap.push { cls := .type "slice", data := .fields #[.none, .none, vs] } }
  refine tail_any (ops := [.ref a, .ref s4.heap.objs.size]) ht.typeIs (PyProof.Rows.slot_tuple_getitem.lookup) ?_ (by with_unfolding_all rfl)
  refine getItem_tuple_rev ht (Heap.IsSliceOf.new _ .none .none vs) ps ?_ (by rw [List.size_toArray]; omega)
  refine ⟨.ref _, _, I5.laid (t' := s4.toks) (o := .tup xs.reverse) (fun b ob q => Heap.get?_push_of_some _ q) (Nat.le_refl _) ?_, rfl, q _ (I5.hok.fresh (Nat.le_refl _))⟩
  refine ⟨by rw [List.length_reverse]; exact hz, its.reverse, r.reverse, ⟨_, Heap.get?_push_size _ rfl, rfl, 0, ?_⟩⟩
  simp
/-- a text, k times: its length, its letters -/
def rRepQ : R2 := fun x y H Q => ∃ (z : Str) (k : Int), x = .str z ∧ y = .int k ∧ 2 ≤ k ∧ k ≤ 1000 ∧ 1 ≤ z.length ∧ z.length ≤ 1000 ∧ ∀ r : Str, r.length = z.length * k.toNat → (PyData.strOk z = true → PyData.strOk r = true) → Q (.str r) H
theorem rep_all (c : Array Nat) (p : Nat → Bool) (h : c.all p = true) : ∀ m : Nat, ((List.replicate m c).foldl (· ++ ·) #[]).all p = true := fun m => by
  have key : ∀ (m : Nat) (a : Array Nat), a.all p = true → ((List.replicate m c).foldl (· ++ ·) a).all p = true := by
    intro m
    induction m with
    | zero =>
      intro a ha
      simpa using ha
    | succ m ih =>
      intro a ha
      rw [List.replicate_succ, List.foldl_cons]
      exact ih _ (by rw [Array.all_append, ha, h]; rfl)
  exact key m #[] (by simp)
theorem op_repQ {X : Cx} : OpR X (binaryOp .Mult) rRepQ := by
  intro pins s σ H x y v u Q I rx ry h
  obtain ⟨z, k, rfl, rfl, k2, k1, z1, z2, q⟩ := h
  obtain ⟨t, rfl⟩ := rx
  obtain ⟨t', rfl⟩ := ry
  have hm : z.length * k.toNat ≤ 1000000 := Nat.le_trans (Nat.mul_le_mul z2 (show k.toNat ≤ 1000 by omega)) (by decide)
  have hc : (k == 1 || z.length == 0) = false := by
    rw [Bool.or_eq_false_iff, beq_eq_false_iff_ne, beq_eq_false_iff_ne]
    omega
  refine P.mul_str (by rw [decide_eq_false (by omega), decide_eq_false (by omega)]; rfl) (fun _ _ => ?_) (fun _ _ => ?_) ?_
  · have e : (1000 : Int) ≤ (2 ^ 63 - 1) / k := by
      rw [Int.le_ediv_iff_mul_le (by omega)]
      omega
    omega
  · unfold Builtin.Str.tooLong
    have sl := sizeLine_eq
    first
      | (rw [decide_eq_false]; omega)
      | (simp; omega)
  · rw [if_neg (by omega), if_neg (by rw [hc]; exact Bool.false_ne_true)]
    have hz : (⟨(List.replicate k.toNat z.cps).foldl (· ++ ·) #[]⟩ : Str).length = z.length * k.toNat := rep_size z.cps k.toNat
    refine ⟨?_, ⟨.str _, H, I.tok _, ⟨_, rfl⟩, q _ hz fun ho => rep_all z.cps _ ho k.toNat⟩⟩
    have sl := sizeLine_eq
    first
      | (rw [hz]; omega)
      | (show _ ≤ _; rw [hz]; omega)
end Sw
/-! list(zip(x, y)) of two lists -/
namespace PySem
open Sem (wp)
/-- the first pair that the zip has given is still held -/
abbrev IsZipO (h : Heap) (z TI TO T : Addr) (fb : Bool) : Prop :=
  h.get? z = some { cls := .type "zip", dict := none, data := .fields #[rawInt T, .bool fb, .bool false, .ref TI, .ref TO], slots := #[] }
section
variable {prog : Program} {w : World} {A : Around} {E : Value → Shared → Prop} {s : Shared}
theorem wpAny_alive {M : Model} {a : Addr} {Q : Option Obj → Shared → Prop} (h : Q (s.heap.get? a) s) : wpAny M A (loadIfAlive a) Q E s := fun _ _ _ => h
theorem zip_owned {M : Model} {z TI TO T : Addr} {fb : Bool} {Q : Bool → Shared → Prop} (hz : IsZipO s.heap z TI TO T fb) (hT : ∃ o, s.heap.get? T = some o)
    (h : ∀ h', IsZipO h' z TI TO T true → Heap.SameBut z s.heap h' → Q false { s with heap := h' }) : wpAny (model prog w) A (Builtin.SmallTypes.ownedTupleIsFree (.ref z)) Q E s := by
  obtain ⟨o, ho⟩ := hT
  unfold Builtin.SmallTypes.ownedTupleIsFree
  refine wpAny_bind (wpAny_field hz rfl (x := rawInt T) rfl ?_)
  refine wpAny_bind (wpAny_alive ?_)
  have e : s.heap.get? ((T : Int)).toNat = some o := by rw [Int.toNat_natCast]; exact ho
  rw [e]
  show wpAny _ _ (field (.ref z) 1 >>= _) _ _ _
  refine wpAny_bind (wpAny_field hz rfl (x := .bool fb) rfl ?_)
  cases fb with
  | true =>
    show wpAny _ _ (pure false) _ _ _
    exact wpAny_pure (h s.heap hz (.refl _ _))
  | false =>
    show wpAny _ _ (setField (.ref z) 1 (.bool true) >>= _) _ _ _
    exact wpAny_bind (wpAny_setField_rec hz (by simp) fun h' hz' hs' => wpAny_pure (h h' hz' hs'))
theorem zip_next_item2 {z TI TO T i1 i2 l1 l2 : Addr} {fb : Bool} {k1 k2 : Nat} {xs ys : Array Value} {x y : Value} {Q : Value → Shared → Prop} (D : ZipApart z TI TO i1 i2 l1 l2)
    (hz : IsZipO s.heap z TI TO T fb) (hT : ∃ o, s.heap.get? T = some o) (hTI : IsPair s.heap TI (.ref i1) (.ref i2))
    (h1 : s.heap.IsListIter i1 l1 k1) (h2 : s.heap.IsListIter i2 l2 k2) (hl1 : s.heap.IsList l1 xs) (hl2 : s.heap.IsList l2 ys) (hx : xs[k1]? = some x) (hy : ys[k2]? = some y)
    (hQ : ∀ h', IsZipO h' z TI TO T true → h'.IsListIter i1 l1 (k1 + 1) → h'.IsListIter i2 l2 (k2 + 1) → IsPair h' s.heap.objs.size x y → h'.objs.size = s.heap.objs.size + 1 →
      (∀ c o, c ≠ z → c ≠ i1 → c ≠ i2 → s.heap.get? c = some o → h'.get? c = some o) → Q (.ref s.heap.objs.size) { s with heap := h' }) :
    wpAny (model prog w) A (Builtin.«zip.__next__» ⟨[.ref z], []⟩) (fun fin s' => ∃ v, fin = .done (.ret v) ∧ Q v s') E s := by
  show wpAny _ _ (field (.ref z) 2 >>= _) _ _ _
  refine wpAny_bind (wpAny_field hz rfl (x := .bool false) rfl ?_)
  show wpAny _ _ (field (.ref z) 3 >>= _) _ _ _
  refine wpAny_bind (wpAny_field hz rfl (x := .ref TI) rfl ?_)
  refine wpAny_bind (wpAny_seqItems hTI rfl ?_)
  show wpAny _ _ (Builtin.SmallTypes.ownedTupleIsFree (.ref z) >>= _) _ _ _
  refine wpAny_bind (zip_owned (M := model prog w) hz hT fun h₁ hz₁ hs₁ => ?_)
  simp only [Bool.false_eq_true, if_false]
  refine wpAny_bind ?_
  rw [← Array.forIn_toList]
  simp only [List.forIn_cons, List.forIn_nil]
  refine wpAny_bind (wpAny_bind (wpAny_holding ?_))
  show wpAny _ _ (Builtin.SmallTypes.nextOf (.ref i1) >>= _) _ _ _
  refine wpAny_bind (wpAny_nextOf_list_item (h1.extBut hs₁.extBut D.i1z) (hl1.extBut hs₁.extBut D.l1z) hx fun h₂ h1₂ hs₂ => wpAny_pure ?_)
  refine wpAny_pure ?_
  refine wpAny_bind (wpAny_bind (wpAny_holding ?_))
  show wpAny _ _ (Builtin.SmallTypes.nextOf (.ref i2) >>= _) _ _ _
  refine wpAny_bind (wpAny_nextOf_list_item ((h2.extBut hs₁.extBut D.i2z).extBut hs₂.extBut D.i12.symm) ((hl2.extBut hs₁.extBut D.l2z).extBut hs₂.extBut D.l2i1) hy fun h₃ h2₃ hs₃ => wpAny_pure ?_)
  refine wpAny_pure (wpAny_pure ?_)
  have hsz : h₃.objs.size = s.heap.objs.size := by rw [hs₃.1, hs₂.1, hs₁.1]
  have hz₃ : IsZipO h₃ z TI TO T true := hs₃.extBut _ _ D.i2z.symm (hs₂.extBut _ _ D.i1z.symm hz₁)
  have h1₃ : h₃.IsListIter i1 l1 (k1 + 1) := h1₂.extBut hs₃.extBut D.i12
  have hk : ∀ c o, c ≠ z → c ≠ i1 → c ≠ i2 → s.heap.get? c = some o → h₃.get? c = some o := fun c o c1 c3 c4 e => hs₃.extBut _ _ c4 (hs₂.extBut _ _ c3 (hs₁.extBut _ _ c1 e))
  have gk : ∀ c o, h₃.get? c = some o → (h₃.push { cls := .type "tuple", data := .seq #[x, y] }).get? c = some o := fun c o e => Heap.get?_push_of_some _ e
  refine wpAny_bind (wpAny_newTuple (hsz := by show 2 ≤ sizeLine; decide) ?_)
  refine wpAny_pure ⟨_, rfl, ?_⟩
  show Q (.ref h₃.objs.size) _
  have hT₃ : IsPair (h₃.push { cls := .type "tuple", data := .seq #[x, y] }) h₃.objs.size x y := Heap.get?_push_size _ rfl
  have hz3 : (h₃.push { cls := .type "tuple", data := .seq #[x, y] }).objs.size = h₃.objs.size + 1 := Heap.size_push ..
  rw [hsz] at hT₃ hz3 ⊢
  exact hQ _ (gk _ _ hz₃) (h1₃.at fun o e => gk _ o e) (h2₃.at fun o e => gk _ o e) hT₃ hz3 fun c o c1 c3 c4 e => gk _ _ (hk c o c1 c3 c4 e)
theorem zip_next_end2 {z TI TO T i1 i2 l1 l2 : Addr} {fb : Bool} {k1 k2 : Nat} {xs ys : Array Value} {Q : Fin → Shared → Prop} (hh : A.handled = none) (D : ZipApart z TI TO i1 i2 l1 l2)
    (hz : IsZipO s.heap z TI TO T fb) (hT : ∃ o, s.heap.get? T = some o) (hTI : IsPair s.heap TI (.ref i1) (.ref i2))
    (h1 : s.heap.IsListIter i1 l1 k1) (h2 : s.heap.IsListIter i2 l2 k2) (hl1 : s.heap.IsList l1 xs) (hl2 : s.heap.IsList l2 ys) (hend : xs[k1]? = none ∨ ys[k2]? = none)
    (hE : ∀ h' e, (∀ c o, c ≠ z → c ≠ i1 → c ≠ i2 → s.heap.get? c = some o → h'.get? c = some o) → (∃ o, h'.get? e = some o ∧ o.cls = .type "StopIteration") → E (.ref e) { s with heap := h' }) :
    wpAny (model prog w) A (Builtin.«zip.__next__» ⟨[.ref z], []⟩) Q E s := by
  show wpAny _ _ (field (.ref z) 2 >>= _) _ _ _
  refine wpAny_bind (wpAny_field hz rfl (x := .bool false) rfl ?_)
  show wpAny _ _ (field (.ref z) 3 >>= _) _ _ _
  refine wpAny_bind (wpAny_field hz rfl (x := .ref TI) rfl ?_)
  refine wpAny_bind (wpAny_seqItems hTI rfl ?_)
  show wpAny _ _ (Builtin.SmallTypes.ownedTupleIsFree (.ref z) >>= _) _ _ _
  refine wpAny_bind (zip_owned (M := model prog w) hz hT fun h₁ hz₁ hs₁ => ?_)
  simp only [Bool.false_eq_true, if_false]
  refine wpAny_bind ?_
  rw [← Array.forIn_toList]
  simp only [List.forIn_cons, List.forIn_nil]
  refine wpAny_bind (wpAny_bind (wpAny_holding ?_))
  show wpAny _ _ (Builtin.SmallTypes.nextOf (.ref i1) >>= _) _ _ _
  cases hx : xs[k1]? with
  | none =>
    refine wpAny_bind (wpAny_nextOf_list_end hh (h1.extBut hs₁.extBut D.i1z) (hl1.extBut hs₁.extBut D.l1z) hx fun h₂ e hs₂ he => ?_)
    exact hE h₂ e (fun c o c1 c3 _ x => hs₂ _ _ c3 (hs₁.extBut _ _ c1 x)) he
  | some x =>
    have hy : ys[k2]? = none := by rcases hend with h | h; rw [hx] at h; cases h; exact h
    refine wpAny_bind (wpAny_nextOf_list_item (h1.extBut hs₁.extBut D.i1z) (hl1.extBut hs₁.extBut D.l1z) hx fun h₂ h1₂ hs₂ => wpAny_pure ?_)
    refine wpAny_pure ?_
    refine wpAny_bind (wpAny_bind (wpAny_holding ?_))
    show wpAny _ _ (Builtin.SmallTypes.nextOf (.ref i2) >>= _) _ _ _
    refine wpAny_bind (wpAny_nextOf_list_end hh ((h2.extBut hs₁.extBut D.i2z).extBut hs₂.extBut D.i12.symm) ((hl2.extBut hs₁.extBut D.l2z).extBut hs₂.extBut D.l2i1) hy fun h₄ e hs₄ he => ?_)
    exact hE h₄ e (fun c o c1 c3 c4 x => hs₄ _ _ c4 (hs₂.extBut _ _ c3 (hs₁.extBut _ _ c1 x))) he
theorem pyNext_zip_item2 {z TI TO T i1 i2 l1 l2 : Addr} {fb : Bool} {k1 k2 : Nat} {xs ys : Array Value} {x y : Value} {Q : Option Value → Shared → Prop} (D : ZipApart z TI TO i1 i2 l1 l2)
    (hz : IsZipO s.heap z TI TO T fb) (hT : ∃ o, s.heap.get? T = some o) (hTI : IsPair s.heap TI (.ref i1) (.ref i2))
    (h1 : s.heap.IsListIter i1 l1 k1) (h2 : s.heap.IsListIter i2 l2 k2) (hl1 : s.heap.IsList l1 xs) (hl2 : s.heap.IsList l2 ys) (hx : xs[k1]? = some x) (hy : ys[k2]? = some y)
    (hQ : ∀ h', IsZipO h' z TI TO T true → h'.IsListIter i1 l1 (k1 + 1) → h'.IsListIter i2 l2 (k2 + 1) → IsPair h' s.heap.objs.size x y → h'.objs.size = s.heap.objs.size + 1 →
      (∀ c o, c ≠ z → c ≠ i1 → c ≠ i2 → s.heap.get? c = some o → h'.get? c = some o) → Q (some (.ref s.heap.objs.size)) { s with heap := h' }) :
    wpAny (model prog w) A (pyNext (.ref z)) Q E s := by
  have hTy : s.TypeIs (.ref z) "zip" := ⟨_, hz, rfl⟩
  unfold pyNext
  exact wpAny_bind (wpAny_attempt (wpAny_callSpecial?_slot (name := Str.ofString "__next__") hTy F.slot_zip_next
    (wpAny_call_entry F.slot_zip_next hTy F.entry_zip_next
      (zip_next_item2 D hz hT hTI h1 h2 hl1 hl2 hx hy fun h' a1 a3 a4 a5 a6 a7 => wpAny_pure (hQ h' a1 a3 a4 a5 a6 a7)) (F.args_zip_next_1 _))))
theorem pyNext_zip_end2 {z TI TO T i1 i2 l1 l2 : Addr} {fb : Bool} {k1 k2 : Nat} {xs ys : Array Value} {Q : Option Value → Shared → Prop} (hh : A.handled = none) (D : ZipApart z TI TO i1 i2 l1 l2)
    (hz : IsZipO s.heap z TI TO T fb) (hT : ∃ o, s.heap.get? T = some o) (hTI : IsPair s.heap TI (.ref i1) (.ref i2))
    (h1 : s.heap.IsListIter i1 l1 k1) (h2 : s.heap.IsListIter i2 l2 k2) (hl1 : s.heap.IsList l1 xs) (hl2 : s.heap.IsList l2 ys) (hend : xs[k1]? = none ∨ ys[k2]? = none)
    (hQ : ∀ h', (∀ c o, c ≠ z → c ≠ i1 → c ≠ i2 → s.heap.get? c = some o → h'.get? c = some o) → Q none { s with heap := h' }) : wpAny (model prog w) A (pyNext (.ref z)) Q E s := by
  have hTy : s.TypeIs (.ref z) "zip" := ⟨_, hz, rfl⟩
  unfold pyNext
  refine wpAny_bind (wpAny_attempt (wpAny_callSpecial?_slot (name := Str.ofString "__next__") hTy F.slot_zip_next
    (wpAny_call_entry F.slot_zip_next hTy F.entry_zip_next (zip_next_end2 hh D hz hT hTI h1 h2 hl1 hl2 hend fun h' e hk he => ?_) (F.args_zip_next_1 _))))
  obtain ⟨o, ho, hc⟩ := he
  refine wpAny_bind (wpAny_isInstance (T := "StopIteration") (b := true) ⟨o, ho, hc⟩ isSubtype_stop ?_)
  exact wpAny_pure (hQ _ hk)
end
end PySem
namespace Sw
open PySem PySem.Spec PyProof.Rows L2
/-- a zip of two lists that has been asked i times by list(), its first pair still held -/
structure Zst (z TI TO i1 i2 a b S : Addr) (i : Nat) (h : Heap) : Prop where
  lt : TO < S
  ti : IsPair h TI (.ref i1) (.ref i2)
  l1 : h.IsListIter i1 a i
  l2 : h.IsListIter i2 b i
  st : (i = 0 ∧ IsZip h z TI TO .none ∧ ∃ x y, IsPair h TO x y) ∨ (0 < i ∧ ∃ T fb, IsZipO h z TI TO T fb ∧ (∃ o, h.get? T = some o) ∧ T ≠ S)
theorem Zst.keep {z TI TO i1 i2 a b S : Addr} {i : Nat} {h h' : Heap} (Z : Zst z TI TO i1 i2 a b S i h) (hS : S ∉ [z, TI, TO, i1, i2]) (k : ∀ c o, c ≠ S → h.get? c = some o → h'.get? c = some o) : Zst z TI TO i1 i2 a b S i h' := by
  simp only [List.mem_cons, List.not_mem_nil, or_false, not_or] at hS
  obtain ⟨s1, s2, s3, s4, s5⟩ := hS
  refine ⟨Z.lt, k _ _ (Ne.symm s2) Z.ti, Z.l1.at fun o e => k _ o (Ne.symm s4) e, Z.l2.at fun o e => k _ o (Ne.symm s5) e, ?_⟩
  rcases Z.st with ⟨e, hz, x, y, ho⟩ | ⟨e, T, fb, hz, ⟨o, ho⟩, hT⟩
  · exact .inl ⟨e, k _ _ (Ne.symm s1) hz, x, y, k _ _ (Ne.symm s3) ho⟩
  · exact .inr ⟨e, T, fb, k _ _ (Ne.symm s1) hz, ⟨o, k _ _ hT ho⟩, hT⟩
section
variable {X : Cx} {pins : List (Addr × Obj)} {σ : L2.St} {z TI TO i1 i2 a b S : Addr} {xs ys : List V}
/-- the pairs, in order -/
def Prs (H : Hp) (xs ys : List V) (ps : List Addr) : Prop := ∀ (j : Nat) (T : Addr), ps[j]? = some T → ∃ x y, xs[j]? = some x ∧ ys[j]? = some y ∧ H T = some (.tup [x, y])
theorem zip_turn {A1 : Around} {i : Nat} {H : Hp} {s : Shared} {E : Value → Shared → Prop} {x y : V} (D : ZipApart z TI TO i1 i2 a b) (hS : S ∉ [z, TI, TO, i1, i2]) (hSn : H S ≠ none) (Z : Zst z TI TO i1 i2 a b S i s.heap) (I : Inv X pins σ H s) (hf : ∀ c ∈ [z, TI, TO, i1, i2], FpOk X pins H c)
    (ha : SqL X.K H a xs) (hb : SqL X.K H b ys) (hx : xs[i]? = some x) (hy : ys[i]? = some y) :
    wpAny (model X.prog X.w) A1 (pyNext (.ref z)) (fun r s1 => ∃ T, r = some (.ref T) ∧ H T = none ∧ Inv X pins σ (upd H T (.tup [x, y])) s1 ∧ Zst z TI TO i1 i2 a b S (i + 1) s1.heap ∧ ∀ c ∈ [z, TI, TO, i1, i2], FpOk X pins (upd H T (.tup [x, y])) c) E s := by
  obtain ⟨its, rv, p, _⟩ := I.list ha
  obtain ⟨its2, rv2, p2, _⟩ := I.list hb
  obtain ⟨u, hu, ru⟩ := rv.get hx
  obtain ⟨u2, hu2, ru2⟩ := rv2.get hy
  have fresh : H s.heap.objs.size = none := I.hok.fresh (Nat.le_refl _)
  have ltS : S < s.heap.objs.size := Nat.lt_of_not_le fun e => hSn (I.hok.fresh e)
  have szS : s.heap.objs.size ≠ S := fun e => hSn (by rw [← e]; exact fresh)
  have fin : ∀ h', IsPair h' s.heap.objs.size u u2 → (∀ c o, c ∉ [z, TI, TO, i1, i2] → s.heap.get? c = some o → h'.get? c = some o) → IsPair h' TI (.ref i1) (.ref i2) → h'.IsListIter i1 a (i + 1) → h'.IsListIter i2 b (i + 1) → (∃ T fb, IsZipO h' z TI TO T fb ∧ (∃ o, h'.get? T = some o) ∧ T ≠ S) →
      ∃ T, some (Value.ref s.heap.objs.size) = some (.ref T) ∧ H T = none ∧ Inv X pins σ (upd H T (.tup [x, y])) { s with heap := h' } ∧ Zst z TI TO i1 i2 a b S (i + 1) h' ∧ ∀ c ∈ [z, TI, TO, i1, i2], FpOk X pins (upd H T (.tup [x, y])) c := by
    intro h' hT hk t1 t2 t3 t4
    have new : ObjOk X.prog X.w (upd H s.heap.objs.size (.tup [x, y])) h' s.heap.objs.size (.tup [x, y]) :=
      ⟨by show 2 ≤ sizeLine; decide, [u, u2], .cons ru (.cons ru2 .nil), ⟨_, hT, rfl, _, rfl⟩⟩
    have I1 : Inv X pins σ (upd H s.heap.objs.size (.tup [x, y])) { s with heap := h' } := I.turnedNew (t' := s.toks) (ch := [z, TI, TO, i1, i2]) hk hf (Nat.le_refl _) new
    refine ⟨_, rfl, fresh, I1, ⟨Z.lt, t1, t2, t3, .inr ⟨Nat.succ_pos _, t4⟩⟩, fun c hc => ⟨?_, (hf c hc).2⟩⟩
    have : c ≠ s.heap.objs.size := by
      have lt : c < s.heap.objs.size := by
        have e' : c = z ∨ c = TI ∨ c = TO ∨ c = i1 ∨ c = i2 := by simpa using hc
        rcases e' with q | q | q | q | q
        · rw [q]
          rcases Z.st with ⟨_, hz, _⟩ | ⟨_, _, _, hz, _⟩
          · exact Heap.lt_size hz
          · exact Heap.lt_size hz
        · rw [q]; exact Heap.lt_size Z.ti
        · rw [q]; exact Nat.lt_trans Z.lt ltS
        · rw [q]; obtain ⟨_, e1, _⟩ := Z.l1; exact Heap.lt_size e1
        · rw [q]; obtain ⟨_, e1, _⟩ := Z.l2; exact Heap.lt_size e1
      exact Nat.ne_of_lt lt
    rw [upd_ne this]
    exact (hf c hc).1
  rcases Z.st with ⟨rfl, hz, x0, y0, hTO⟩ | ⟨i0, T, fb, hz, hT, hTS⟩
  · refine wpAny_pyNext_zip_item D hz Z.ti hTO Z.l1 Z.l2 p.isList p2.isList (x := u) (y := u2) (by simpa using hu) (by simpa using hu2) fun h' z' TO' h1' h2' hT hsz hk => ?_
    refine fin h' hT (fun c o hb q => hk c o (fun q' => hb (by simp [q'])) (fun q' => hb (by simp [q'])) (fun q' => hb (by simp [q'])) (fun q' => hb (by simp [q'])) q) (hk _ _ D.TIz D.TITO D.TIi1 D.TIi2 Z.ti) h1' h2' ⟨_, false, z', ⟨_, hT⟩, szS⟩
  · refine pyNext_zip_item2 D hz hT Z.ti Z.l1 Z.l2 p.isList p2.isList (x := u) (y := u2) (by simpa using hu) (by simpa using hu2) fun h' z' h1' h2' hT' hsz hk => ?_
    refine fin h' hT' (fun c o hb q => hk c o (fun q' => hb (by simp [q'])) (fun q' => hb (by simp [q'])) (fun q' => hb (by simp [q'])) q) (hk _ _ D.TIz D.TIi1 D.TIi2 Z.ti) h1' h2' ⟨T, true, z', ?_, hTS⟩
    obtain ⟨o, ho⟩ := hT
    by_cases c1 : T = z
    · rw [c1]; exact ⟨_, z'⟩
    · by_cases c2 : T = i1
      · rw [c2]; obtain ⟨o', e, _⟩ := h1'; exact ⟨o', e⟩
      · by_cases c3 : T = i2
        · rw [c3]; obtain ⟨o', e, _⟩ := h2'; exact ⟨o', e⟩
        · exact ⟨o, hk T o c1 c2 c3 ho⟩
theorem zip_stop {A1 : Around} {i : Nat} {H : Hp} {s : Shared} {E : Value → Shared → Prop} (hh : A1.handled = none) (D : ZipApart z TI TO i1 i2 a b) (Z : Zst z TI TO i1 i2 a b S i s.heap) (I : Inv X pins σ H s) (hf : ∀ c ∈ [z, TI, TO, i1, i2], FpOk X pins H c)
    (ha : SqL X.K H a xs) (hb : SqL X.K H b ys) (hend : xs.length ≤ i ∨ ys.length ≤ i) :
    wpAny (model X.prog X.w) A1 (pyNext (.ref z)) (fun r s1 => r = none ∧ Inv X pins σ H s1) E s := by
  obtain ⟨its, rv, p, _⟩ := I.list ha
  obtain ⟨its2, rv2, p2, _⟩ := I.list hb
  have l1 := rv.length
  have l2 := rv2.length
  have he : its.toArray[i]? = none ∨ its2.toArray[i]? = none := by
    rcases hend with q | q
    · exact .inl (by simp; omega)
    · exact .inr (by simp; omega)
  rcases Z.st with ⟨_, hz, x0, y0, hTO⟩ | ⟨i0, T, fb, hz, hT, hTS⟩
  · exact wpAny_pyNext_zip_end hh D hz Z.ti hTO Z.l1 Z.l2 p.isList p2.isList he fun h' hk => ⟨rfl, I.turnedL (t' := s.toks) (ch := [z, TI, TO, i1, i2]) (fun c o hb q =>
      hk c o (fun q' => hb (by simp [q'])) (fun q' => hb (by simp [q'])) (fun q' => hb (by simp [q'])) (fun q' => hb (by simp [q'])) q) hf⟩
  · exact pyNext_zip_end2 hh D hz hT Z.ti Z.l1 Z.l2 p.isList p2.isList he fun h' hk => ⟨rfl, I.turnedL (t' := s.toks) (ch := [z, TI, TO, i1, i2]) (fun c o hb q =>
      hk c o (fun q' => hb (by simp [q'])) (fun q' => hb (by simp [q'])) (fun q' => hb (by simp [q'])) q) hf⟩
theorem prs_snoc {H H' : Hp} {ps : List Addr} {T : Addr} {x y : V} (h : Prs H xs ys ps) (hk : ∀ (j : Nat) (U : Addr), ps[j]? = some U → ∀ o, H U = some o → H' U = some o) (hx : xs[ps.length]? = some x) (hy : ys[ps.length]? = some y) (hT : H' T = some (.tup [x, y])) : Prs H' xs ys (ps ++ [T]) := fun j U e => by
  by_cases hj : j < ps.length
  · rw [List.getElem?_append_left hj] at e
    obtain ⟨x', y', e1, e2, e3⟩ := h j U e
    exact ⟨x', y', e1, e2, hk j U e _ e3⟩
  · have hj2 := (List.getElem?_eq_some_iff.mp e).1
    rw [List.length_append, List.length_singleton] at hj2
    have : j = ps.length := by omega
    subst this
    rw [List.getElem?_append_right (Nat.le_refl _), Nat.sub_self] at e
    cases e
    exact ⟨x, y, hx, hy, hT⟩
theorem zip_loop {A1 : Around} {H0 : Hp} {Rs : Result → Shared → Prop} (hh : A1.in1.handled = none) (D : ZipApart z TI TO i1 i2 a b) (hS : S ∉ [z, TI, TO, i1, i2]) (ha0 : SqL X.K H0 a xs) (hb0 : SqL X.K H0 b ys) (hS0 : H0 S = none)
    (hdone : ∀ ps H s, Inv X pins σ H s → (∀ c o, H0 c = some o → H c = some o) → H S = some (.lst (ps.map V.ref)) → ps.length = min xs.length ys.length → Prs H xs ys ps → Rs (.ok (.ret .none)) s) :
    ∀ (m : Nat) (ps : List Addr) (H : Hp) (s : Shared), ps.length + m = min xs.length ys.length → Inv X pins σ H s → Zst z TI TO i1 i2 a b S ps.length s.heap → (∀ c ∈ [z, TI, TO, i1, i2], FpOk X pins H c) → (∀ c o, H0 c = some o → H c = some o) → H S = some (.lst (ps.map V.ref)) → Prs H xs ys ps →
      codeAny (model X.prog X.w) A1 (.builtin "list.extend.loop" ⟨[.ref S, .ref z, .none], []⟩) Rs s := by
  intro m
  induction m with
  | zero =>
    intro ps H s hm I Z hf hk hSl hp
    refine codeAny_builtin PySem.F.entry_extend_loop ?_
    rw [Around.under_plainId PySem.F.plain_extend_loop _]
    show wpAny _ A1.in1 (pyNext (.ref z) >>= _) _ _ s
    have sm : Same H0 H := hk
    refine wpAny_bind (wpAny_mono (zip_stop (E := fun _ _ => False) hh D Z I hf (sm.seq ha0) (sm.seq hb0) (by omega)) (fun r s' hr => ?_) fun e s' he => he.elim)
    obtain ⟨rfl, I'⟩ := hr
    exact wpAny_pure (hdone ps H s' I' hk hSl (by omega) hp)
  | succ m ih =>
    intro ps H s hm I Z hf hk hSl hp
    refine codeAny_builtin PySem.F.entry_extend_loop ?_
    rw [Around.under_plainId PySem.F.plain_extend_loop _]
    show wpAny _ A1.in1 (pyNext (.ref z) >>= _) _ _ s
    have sm : Same H0 H := hk
    have hx : ps.length < xs.length := by omega
    have hy : ps.length < ys.length := by omega
    have zl := (I.list (sm.seq ha0)).choose_spec.2.2
    refine wpAny_bind (wpAny_mono (zip_turn (E := fun _ _ => False) D hS (by rw [hSl]; exact fun e => nomatch e) Z I hf (sm.seq ha0) (sm.seq hb0) (List.getElem?_eq_getElem hx) (List.getElem?_eq_getElem hy)) (fun r s' hr => ?_) fun e s' he => he.elim)
    obtain ⟨T, rfl, hT, I', Z', hf'⟩ := hr
    show wpAny _ A1.in1 (updateSeq S (·.push (.ref T)) >>= _) _ _ _
    have TS : S ≠ T := ne_of_none hSl hT
    have hSl' : upd H T (.tup [xs[ps.length], ys[ps.length]]) S = some (.lst (ps.map V.ref)) := by rw [upd_ne TS]; exact hSl
    obtain ⟨z0, its, k, r2, hl, e⟩ := I'.lstM hSl'
    have hpl : (ps.map V.ref).length = ps.length := List.length_map _
    refine wpAny_bind (wpAny_updateSeq e rfl (wpAny_pure ⟨plainId_quiet PySem.F.plain_extend_loop _, ?_⟩) (by rw [List.size_toArray]; omega) (by show (its.toArray.push (.ref T)).size ≤ sizeLine + 1; rw [Array.size_push, List.size_toArray]; omega))
    have I2 := I'.lset (f := (·.push (Value.ref T))) (its' := its ++ [.ref T]) (ys := (ps ++ [T]).map V.ref) (t' := s'.toks) hSl' e (by simp) (by rw [List.map_append]; exact r2.append (.cons rfl .nil)) (by rw [List.length_map, List.length_append, List.length_singleton]; omega)
    refine ih (ps ++ [T]) _ _ (by rw [List.length_append, List.length_singleton]; omega) I2 ?_ (fun c hc => ?_) (fun c o ho => ?_) upd_same (prs_snoc hp (fun j U eU o hU => ?_) (List.getElem?_eq_getElem hx) (List.getElem?_eq_getElem hy) ?_)
    · rw [List.length_append, List.length_singleton]
      exact Z'.keep hS fun c o hc q => (Heap.get?_update_other _ _ (Ne.symm hc)).trans q
    · have cS : c ≠ S := fun q => hS (by rw [← q]; exact hc)
      refine ⟨?_, (hf' c hc).2⟩
      rw [upd_ne cS]
      exact (hf' c hc).1
    · have cS : c ≠ S := fun q => by rw [q, hS0] at ho; cases ho
      have cT : c ≠ T := ne_of_none (hk c o ho) hT
      rw [upd_ne cS, upd_ne cT]
      exact hk c o ho
    · have US : U ≠ S := fun q => by rw [q, hSl] at hU; obtain ⟨_, _, _, _, e3⟩ := hp j U eU; rw [q, hSl] at e3; cases e3
      rw [upd_ne US, upd_ne (ne_of_none hU hT)]
      exact hU
    · rw [upd_ne (Ne.symm TS), upd_same]
theorem zip_no_len : typeLookup (.type "zip") "__len__" = pure none := by rw [typeLookup_type, builtinLookup_eq_fast]; kernel_rfl
theorem zip_no_hint : typeLookup (.type "zip") "__length_hint__" = pure none := by rw [typeLookup_type, builtinLookup_eq_fast]; kernel_rfl
theorem zip_hint {M : Model} {A : Around} {E : Value → Shared → Prop} {s : Shared} {Q : Bool → Shared → Prop} (hT : s.TypeIs (.ref z) "zip") (h : Q true s) : wpAny M A (PySem.Builtin.List.listLengthHint (.ref z)) Q E s := by
  unfold PySem.Builtin.List.listLengthHint
  refine wpAny_bind (wpAny_specialOf hT zip_no_len ?_)
  show wpAny _ A (specialOf (Value.ref z) (Str.ofString "__length_hint__") >>= _) _ _ _
  refine wpAny_bind (wpAny_specialOf hT zip_no_hint ?_)
  exact wpAny_pure h
theorem zst0 {h : Heap} (lt : TO < S) (hz : IsZip h z TI TO .none) (hTI : IsPair h TI (.ref i1) (.ref i2)) (hTO : ∃ x y, IsPair h TO x y) (h1 : h.IsListIter i1 a 0) (h2 : h.IsListIter i2 b 0) : Zst z TI TO i1 i2 a b S 0 h := ⟨lt, hTI, h1, h2, .inl ⟨rfl, hz, hTO⟩⟩
theorem zst_typ {i : Nat} {s : Shared} (Z : Zst z TI TO i1 i2 a b S i s.heap) : s.TypeIs (.ref z) "zip" := by
  rcases Z.st with ⟨_, hz, _⟩ | ⟨_, _, _, hz, _⟩
  · exact ⟨_, hz, rfl⟩
  · exact ⟨_, hz, rfl⟩
theorem zst_iter {A : Around} {E : Value → Shared → Prop} {s : Shared} {P : Program} {w : World} {Q : Value → Shared → Prop} (Z : Zst z TI TO i1 i2 a b S 0 s.heap) (h : Q (.ref z) s) : wpAny (model P w) A (pyIter (.ref z)) Q E s := by
  rcases Z.st with ⟨_, hz, _⟩ | ⟨e, _⟩
  · exact wpAny_pyIter_zip hz h
  · exact absurd e (Nat.lt_irrefl 0)
theorem zip_extend {A1 : Around} {H : Hp} {s : Shared} {Rs : Result → Shared → Prop} (hh : A1.in1.handled = none) (D : ZipApart z TI TO i1 i2 a b) (hS : S ∉ [z, TI, TO, i1, i2]) {H0 : Hp} (ha0 : SqL X.K H0 a xs) (hb0 : SqL X.K H0 b ys) (hS0 : H0 S = none)
    (hdone : ∀ ps H s, Inv X pins σ H s → (∀ c o, H0 c = some o → H c = some o) → H S = some (.lst (ps.map V.ref)) → ps.length = min xs.length ys.length → Prs H xs ys ps → Rs (.ok (.ret .none)) s)
    (I : Inv X pins σ H s) (Z : Zst z TI TO i1 i2 a b S 0 s.heap) (hf : ∀ c ∈ [z, TI, TO, i1, i2], FpOk X pins H c) (hk : ∀ c o, H0 c = some o → H c = some o) (hSl : H S = some (.lst [])) :
    wpAny (model X.prog X.w) A1.in1 (PySem.Builtin.List.listExtendWith (.ref S) (.ref z) .none)
      (fun fin s' => match fin with | .done f => Rs (.ok f) s' | .again c' => c'.quiet = true ∧ codeAny (model X.prog X.w) A1 c' Rs s') (fun e s' => Rs (.error e) s') s := by
  have hne : S ≠ z := fun e => hS (by simp [e])
  have go : ∀ s', Inv X pins σ H s' → Zst z TI TO i1 i2 a b S 0 s'.heap → codeAny (model X.prog X.w) A1 (.builtin "list.extend.loop" ⟨[.ref S, .ref z, .none], []⟩) Rs s' := fun s' I' Z' =>
    zip_loop hh D hS ha0 hb0 hS0 hdone _ [] H s' (by rw [List.length_nil]; exact Nat.zero_add _) I' Z' hf hk hSl fun j T e => by simp at e
  unfold PySem.Builtin.List.listExtendWith
  refine wpAny_bind (wpAny_typeOf (zst_typ Z) ?_)
  have h1 : PySem.Builtin.List.listSameRef (.ref S) (.ref z) = false := by simp [PySem.Builtin.List.listSameRef, hne]
  have h2 : (Value.type "zip" == Value.type "list") = false := by decide
  have h3 : (Value.type "zip" == Value.type "tuple") = false := by decide
  simp only [h1, h2, h3, Bool.or_false, Bool.false_eq_true, if_false]
  refine wpAny_bind (zst_iter Z ?_)
  refine wpAny_bind (wpAny_holding (zip_hint (zst_typ Z) ?_))
  obtain ⟨z3, its, k, r3, hl3, e3⟩ := I.lstM hSl
  cases r3
  refine wpAny_ite_split (fun _ => ?_) (fun _ => wpAny_pure ⟨plainId_quiet PySem.F.plain_extend_loop _, go s I Z⟩)
  refine wpAny_bind (wpAny_rule ?_)
  refine wpAny_bind ?_
  show wpAny _ _ (updateSeq S (·.push .none) >>= fun _ => updateSeq S (·.pop)) _ _ _
  refine wpAny_bind (wpAny_updateSeq e3 rfl ?_)
  have I2 := I.lset (f := (·.push Value.none)) (its' := [Value.none]) (ys := [.non]) (t' := s.toks) hSl e3 (by simp) (.cons rfl .nil) (by rw [List.length_singleton, sizeLine_eq]; decide)
  obtain ⟨z4, its4, k4, r4, hl4, e4⟩ := I2.lstM upd_same
  obtain ⟨u4, rfl, ru4⟩ := r4.one
  refine wpAny_updateSeq e4 rfl ?_ (by show 1 ≤ sizeLine; rw [sizeLine_eq]; decide) (by show 0 ≤ sizeLine + 1; exact Nat.zero_le _)
  refine wpAny_pure ⟨plainId_quiet PySem.F.plain_extend_loop _, go _ ?_ ?_⟩
  · have I3 := I2.lset (f := (·.pop)) (its := [u4]) (its' := []) (ys := []) (t' := s.toks) upd_same e4 (by rfl) .nil (Nat.zero_le _)
    rw [upd_upd] at I3
    have hH : upd H S (.lst []) = H := by
      funext c
      by_cases hb : c = S
      · rw [hb, upd_same, hSl]
      · rw [upd_ne hb]
    rw [hH] at I3
    exact I3
  · refine Z.keep hS fun c o hc q => ?_
    exact (Heap.get?_update_other _ _ (Ne.symm hc)).trans ((Heap.get?_update_other _ _ (Ne.symm hc)).trans q)
theorem list_zip {H : Hp} {s : Shared} {Q : VK} (hc : X.calm = true) (D : ZipApart z TI TO i1 i2 a b) (ha : SqL X.K H a xs) (hb : SqL X.K H b ys) (hlt : ∀ c ∈ [z, TI, TO, i1, i2], c < s.heap.objs.size) (hz : IsZip s.heap z TI TO .none) (hTI : IsPair s.heap TI (.ref i1) (.ref i2)) (hTO : ∃ x y, IsPair s.heap TO x y) (h1 : s.heap.IsListIter i1 a 0) (h2 : s.heap.IsListIter i2 b 0)
    (I : Inv X pins σ H s) (hf : ∀ c ∈ [z, TI, TO, i1, i2], FpOk X pins H c)
    (hQ : ∀ S ps H', H S = none → (∀ c o, H c = some o → H' c = some o) → H' S = some (.lst (ps.map V.ref)) → ps.length = min xs.length ys.length → Prs H' xs ys ps → Q (.ref S) H') :
    wpAny (model X.prog X.w) X.A (call (.type "list") [.ref z]) (EP X pins σ Q) X.xe s := by
  refine callType_codes (Q₁ := fun obj s₁ => obj = .ref s.heap.objs.size ∧ s₁ = { s with heap := s.heap.push { cls := .type "list", data := .seq #[] } }) PySem.F.called_list (PySem.F.typeCall_list_1 _) PySem.F.entry_list_init
    (code_list_new _ ⟨rfl, rfl⟩) fun obj s₁ h₁ => ?_
  obtain ⟨rfl, rfl⟩ := h₁
  have hS : (s.heap.push { cls := .type "list", data := .seq #[] }).get? s.heap.objs.size = some { cls := .type "list", data := .seq #[] } := Heap.get?_push_size _ rfl
  refine ⟨⟨_, hS, rfl⟩, PySem.F.args_list_init_2 _ _, ?_⟩
  have fr : H s.heap.objs.size = none := I.hok.fresh (Nat.le_refl _)
  have nS : s.heap.objs.size ∉ [z, TI, TO, i1, i2] := fun m => Nat.lt_irrefl _ (hlt _ m)
  have I1 : Inv X pins σ (upd H s.heap.objs.size (.lst [])) { s with heap := s.heap.push { cls := .type "list", data := .seq #[] } } := I.lnew (its := []) (t' := s.toks) .nil (Nat.zero_le _)
  have Z1 : Zst z TI TO i1 i2 a b s.heap.objs.size 0 (s.heap.push { cls := .type "list", data := .seq #[] }) := zst0 (hlt TO (by simp)) (Heap.get?_push_of_some _ hz) (Heap.get?_push_of_some _ hTI) (hTO.imp fun x h => h.imp fun y h => Heap.get?_push_of_some _ h) (h1.at fun o e => Heap.get?_push_of_some _ e) (h2.at fun o e => Heap.get?_push_of_some _ e)
  show wpAny _ _ (do let old ← PySem.Builtin.List.listItems (.ref s.heap.objs.size); PySem.Builtin.List.listUpdate (.ref s.heap.objs.size) (fun _ => #[]); letGo old.toList.reverse; PySem.Builtin.List.listExtendWith (.ref s.heap.objs.size) (.ref z) .none) _ _ _
  refine wpAny_bind ?_
  unfold PySem.Builtin.List.listItems
  refine wpAny_bind (wpAny_seqItems hS rfl (wpAny_pure ?_))
  show wpAny _ _ (updateSeq s.heap.objs.size (fun _ => #[]) >>= fun _ => letGo (#[] : Array Value).toList.reverse >>= fun _ => PySem.Builtin.List.listExtendWith (.ref s.heap.objs.size) (.ref z) .none) _ _ _
  refine wpAny_bind (wpAny_updateSeq hS rfl ?_)
  have I2 := I1.lset (f := fun _ => #[]) (its := []) (its' := []) (ys := []) (t' := s.toks) upd_same hS rfl .nil (Nat.zero_le _)
  rw [upd_upd] at I2
  refine wpAny_bind (wpAny_letGo ?_)
  refine zip_extend (A1 := X.A.in1) (H0 := H) (Rs := wants (fun r s₂ => r = .none ∧ EP X pins σ Q (.ref s.heap.objs.size) s₂) X.xe) (I.ok.hd hc) D nS ha hb fr
    (fun ps H' s' I' hk hl hn hp => ⟨rfl, .ref s.heap.objs.size, H', I', rfl, hQ _ ps H' fr hk hl hn hp⟩) I2 (Z1.keep nS fun c o hc q => (Heap.get?_update_other _ _ (Ne.symm hc)).trans q) (fun c hc => ?_) (fun c o q => ?_) upd_same
  · refine ⟨?_, (hf c hc).2⟩
    rw [upd_ne (fun e => nS (by rw [← e]; exact hc))]
    exact (hf c hc).1
  · rw [upd_ne (ne_of_none q fr)]
    exact q
/-- list(zip(x, y)) -/
def tListZip (K : PySem.W.Frag) (ta : TA) : TE := fun σ H Q => ta σ H fun vs H1 => ∃ a b xs ys, vs = [.ref a, .ref b] ∧ SqL K H1 a xs ∧ SqL K H1 b ys ∧
  ∀ S ps H', H1 S = none → Same H1 H' → H' S = some (.lst (ps.map V.ref)) → ps.length = min xs.length ys.length → Prs H' xs ys ps → Q (.ref S) H'
theorem pe_listZip {X : Cx} {e e2 : Expr} {ta : TA} {p pos q qos : Pos} (hc : X.calm = true) (hgl : Gl X "list") (hml : X.mg "list" = none) (hg : Gl X "zip") (hm : X.mg "zip" = none) (ha : PA X [e, e2] ta)
    (hs : starEach [e, e2] X.env = (false, eval e X.env) :: starEach [e2] X.env := by rfl) (hpl : (backTo pos (starEach [e2] X.env)).any (·.1) = false := by rfl)
    (na : starEach [Expr.Call (.Name "zip" p) [e, e2] [] pos] X.env = (false, eval (Expr.Call (.Name "zip" p) [e, e2] [] pos) X.env) :: starEach [] X.env := by rfl) :
    PE X (.Call (.Name "list" q) [.Call (.Name "zip" p) [e, e2] [] pos] [] qos) (tListZip X.K ta) := by
  refine ⟨fun pins s σ H Q I h => ?_⟩
  refine Call_ (ld_blt I hgl hml boot_list (PyProof.Rows.callWith_type1 (args_cons (thn (Q := fun v s2 => ∃ z TI TO i1 i2 a b xs ys H1, v = .ref z ∧ Inv X pins σ H1 s2 ∧ ZipApart z TI TO i1 i2 a b ∧ SqL X.K H1 a xs ∧ SqL X.K H1 b ys ∧ (∀ c ∈ [z, TI, TO, i1, i2], c < s2.heap.objs.size) ∧ IsZip s2.heap z TI TO .none ∧ IsPair s2.heap TI (.ref i1) (.ref i2) ∧ (∃ x y, IsPair s2.heap TO x y) ∧ s2.heap.IsListIter i1 a 0 ∧ s2.heap.IsListIter i2 b 0 ∧ (∀ c ∈ [z, TI, TO, i1, i2], FpOk X pins H1 c) ∧
      ∀ S ps H', H1 S = none → Same H1 H' → H' S = some (.lst (ps.map V.ref)) → ps.length = min xs.length ys.length → Prs H' xs ys ps → Q (.ref S) H') ?_ fun v s2 hv => args_nil ?_) na) na rfl))
  · refine Call_ (ld_blt I hg hm PyProof.Rows.boot_zip (PyProof.Rows.callWith_type1 (thn (ha.run pos pins s σ H _ I h) fun us s1 ⟨vs, H1, I1, r1, q1⟩ => ?_) hs hpl))
    obtain ⟨a, b, xs, ys, ex, hqx, hqy, q⟩ := q1
    subst ex
    cases r1 with
    | cons r rr =>
      cases rr with
      | cons r' rr =>
        cases rr
        cases r
        cases r'
        obtain ⟨its, rv, p1, _⟩ := I1.list hqx
        obtain ⟨its2, rv2, p2, _⟩ := I1.list hqy
        have la : a < s1.heap.objs.size := p1.lt
        have lb : b < s1.heap.objs.size := p2.lt
        refine call_zip_2 p1.isList p2.isList fun h' hz hTI hTO h1 h2 hsz hk => ?_
        have I2 : Inv X pins σ H1 { s1 with heap := h' } := I1.kept (t' := s1.toks) hk
        refine ⟨s1.heap.objs.size + 4, s1.heap.objs.size + 2, s1.heap.objs.size + 3, s1.heap.objs.size, s1.heap.objs.size + 1, a, b, xs, ys, H1, rfl, I2, PySem.W.ktu_apart s1.heap.objs.size a b la lb, hqx, hqy, fun c hcm => ?_, hz, hTI, ⟨_, _, hTO⟩, h1, h2, fun c hcm => ?_, q⟩
        · have e' : c = s1.heap.objs.size + 4 ∨ c = s1.heap.objs.size + 2 ∨ c = s1.heap.objs.size + 3 ∨ c = s1.heap.objs.size ∨ c = s1.heap.objs.size + 1 := by simpa using hcm
          show c < h'.objs.size
          rw [hsz]
          rcases e' with q | q | q | q | q
          · rw [q]; exact Nat.add_lt_add_left (by decide) _
          · rw [q]; exact Nat.add_lt_add_left (by decide) _
          · rw [q]; exact Nat.add_lt_add_left (by decide) _
          · rw [q]; exact Nat.lt_add_of_pos_right (by decide)
          · rw [q]; exact Nat.add_lt_add_left (by decide) _
        · have e' : c = s1.heap.objs.size + 4 ∨ c = s1.heap.objs.size + 2 ∨ c = s1.heap.objs.size + 3 ∨ c = s1.heap.objs.size ∨ c = s1.heap.objs.size + 1 := by simpa using hcm
          have hle : s1.heap.objs.size ≤ c := by
            rcases e' with q | q | q | q | q
            · rw [q]; exact Nat.le_add_right _ _
            · rw [q]; exact Nat.le_add_right _ _
            · rw [q]; exact Nat.le_add_right _ _
            · rw [q]; exact Nat.le_refl _
            · rw [q]; exact Nat.le_add_right _ _
          exact I1.fpOk hle (I1.hok.fresh hle)
  · obtain ⟨z, TI, TO, i1, i2, a, b, xs, ys, H1, rfl, I2, D, hqx, hqy, hlt, hz, hTI, hTO, h1, h2, hf, q⟩ := hv
    exact list_zip hc D hqx hqy hlt hz hTI hTO h1 h2 I2 hf q
end
end Sw
/-! zip of a tuple and a list -/
namespace Sw
open PySem PySem.Spec PyProof.Rows L2
def ItTL (K : PySem.W.Frag) (a b : Addr) : It where
  go i H := ∃ (xs ys : List V) (x y : V), SqT K H a xs ∧ SqL K H b ys ∧ xs[i]? = some x ∧ ys[i]? = some y
  yld i H v H' := ∃ T x y, v = .ref T ∧ H T = none ∧ H' = upd H T (.tup [x, y]) ∧ (∀ xs, SqT K H a xs → xs[i]? = some x) ∧ ∀ ys, SqL K H b ys → ys[i]? = some y
  stop i H := ∃ xs ys : List V, SqT K H a xs ∧ SqL K H b ys ∧ (i = xs.length ∨ i = ys.length) ∧ i ≤ xs.length ∧ i ≤ ys.length
theorem turn_zipTL {P : Program} {w : World} {K : PySem.W.Frag} {elts : List Expr} {kk : Nat} {tpos : Pos} {a b z TI TO i1 i2 : Addr} (D : ZipSep2 z TI TO i1 i2 [i1, a] [i2, b]) (ha : a ≠ i1) (hb : b ≠ i2) :
    Turn P w K (.Tuple elts kk tpos) (ItTL K a b) [z, TI, TO, i1, i2] z (fun i h => IsZip h z TI TO .none ∧ IsTupOf2 h TI (.ref i1) (.ref i2) ∧ (∃ a1 a2, IsTupOf2 h TO a1 a2) ∧ h.IsTupleIter i1 a i ∧ h.IsListIter i2 b i) where
  mem := by simp
  obj := fun i h st c hc => by
    obtain ⟨hz, hTI, ⟨x, y, hTO⟩, ⟨o1, e1, _, d1⟩, ⟨o2, e2, _, d2⟩⟩ := st
    have e' : c = z ∨ c = TI ∨ c = TO ∨ c = i1 ∨ c = i2 := by simpa using hc
    rcases e' with q | q | q | q | q
    · rw [q]; exact ⟨_, hz, fun v q => nomatch q⟩
    · rw [q]; exact ⟨_, hTI, fun v q => nomatch q⟩
    · rw [q]; exact ⟨_, hTO, fun v q => nomatch q⟩
    · rw [q]; exact ⟨o1, e1, fun v q => by rw [d1] at q; cases q⟩
    · rw [q]; exact ⟨o2, e2, fun v q => by rw [d2] at q; cases q⟩
  keep := fun i h h' st k => by
    obtain ⟨hz, hTI, ⟨x, y, hTO⟩, h1, h2⟩ := st
    exact ⟨k z (by simp) _ hz, k TI (by simp) _ hTI, ⟨x, y, k TO (by simp) _ hTO⟩, h1.at fun o q => k i1 (by simp) o q, h2.at fun o q => k i2 (by simp) o q⟩
  item := by
    intro X hP hw hK hc i pins s σ H E I hf st hg
    subst hP hw hK
    obtain ⟨hz, hTI, ⟨x0, y0, hTO⟩, h1, h2⟩ := st
    obtain ⟨xs, ys, x, y, hqx, hqy, hx, hy⟩ := hg
    obtain ⟨its, rv, p1, _⟩ := I.tuple hqx
    obtain ⟨its2, rv2, p2, _⟩ := I.list hqy
    have p0 : s.heap.IsTuple a its.toArray := p1
    have p3 : s.heap.IsList b its2.toArray := p2.isList
    obtain ⟨u1, hu1, ru1⟩ := rv.get hx
    obtain ⟨u2, hu2, ru2⟩ := rv2.get hy
    have hu0 : its.toArray[i]? = some u1 := by simpa using hu1
    have hu3 : its2.toArray[i]? = some u2 := by simpa using hu2
    have hzl : z < s.heap.objs.size := Heap.lt_size hz
    have D1 := Draws.tuple (prog := X.prog) (w := X.w) (A := X.A.in1) (I.ok.hd hc) i1 a ha its.toArray
    have D2 := Draws.list (prog := X.prog) (w := X.w) (A := X.A.in1) (I.ok.hd hc) i2 b hb its2.toArray
    refine wpAny_pyNext_zipD2_item D D1 D2 hz hTI hTO ⟨h1, p0⟩ ⟨h2, p3⟩ (Array.getElem?_eq_some_iff.mp hu0).1 (Array.getElem?_eq_some_iff.mp hu3).1 fun x1 x2 h' tk y1 y2 z' TO' h1' h2' hT hsz hk => ?_
    have y1 : its.toArray[i]? = some x1 := y1
    rw [hu0] at y1
    cases y1
    have y2 : its2.toArray[i]? = some x2 := y2
    rw [hu3] at y2
    cases y2
    obtain ⟨h2', _⟩ := h2'
    obtain ⟨h1', _⟩ := h1'
    refine ⟨_, rfl, wpAny_letOwnedTupleGo_zip (s := { s with heap := h', toks := tk }) z' fun h'' z'' sb => ?_⟩
    have hT2 : h''.get? s.heap.objs.size = some { cls := .type "tuple", data := .seq #[u1, u2] } := (sb.2 _ (Nat.ne_of_gt hzl)).trans hT
    have new : ObjOk X.prog X.w (upd H s.heap.objs.size (.tup [x, y])) h'' s.heap.objs.size (.tup [x, y]) :=
      ⟨by show 2 ≤ sizeLine; decide, [u1, u2], .cons ru1 (.cons ru2 .nil), ⟨_, hT2, rfl, _, rfl⟩⟩
    have I1 : Inv X pins σ (upd H s.heap.objs.size (.tup [x, y])) { s with heap := h'', toks := tk } :=
      I.turnedNew (t' := tk) (ch := [z, TI, TO, i1, i2]) (fun c o hb q => (sb.2 c (fun q' => hb (by simp [q']))).trans (hk c o (fun q' => hb (by simp [q'])) (fun q' => hb (by simp [q'])) (fun q' => hb (by simp [q'])) (fun q' => hb (by simp [q'])) q)) hf (Nat.le_refl _) new
    refine ⟨.ref s.heap.objs.size, _, I1, rfl, ⟨_, x, y, rfl, I.hok.fresh (Nat.le_refl _), rfl, fun l hl => by rw [I.tuple_inj hl hqx]; exact hx, fun l hl => by rw [I.list_inj hl hqy]; exact hy⟩, ⟨z'', ?_, ⟨u1, u2, ?_⟩, ?_, ?_⟩, fun c hcm => ?_⟩
    · exact (sb.2 _ D.TIz).trans (hk _ _ D.TIz D.TITO D.TIi1 D.TIi2 hTI)
    · exact (sb.2 _ D.TOz).trans TO'
    · exact h1'.at fun o q => (sb.2 _ D.zi1.symm).trans q
    · exact h2'.at fun o q => (sb.2 _ D.zi2.symm).trans q
    · have hlt : c < s.heap.objs.size := by
        have e' : c = z ∨ c = TI ∨ c = TO ∨ c = i1 ∨ c = i2 := by simpa using hcm
        rcases e' with q | q | q | q | q
        · rw [q]; exact hzl
        · rw [q]; exact Heap.lt_size hTI
        · rw [q]; exact Heap.lt_size hTO
        · rw [q]; obtain ⟨_, e1, _⟩ := h1; exact Heap.lt_size e1
        · rw [q]; obtain ⟨_, e2, _⟩ := h2; exact Heap.lt_size e2
      rw [upd_ne (Nat.ne_of_lt hlt)]
      exact (hf c hcm).1
  done := by
    intro X hP hw hK hc i pins s σ H E I hf st hg
    subst hP hw hK
    obtain ⟨hz, hTI, ⟨x0, y0, hTO⟩, h1, h2⟩ := st
    obtain ⟨xs, ys, hqx, hqy, hend, l1, l2⟩ := hg
    obtain ⟨its, rv, p1, _⟩ := I.tuple hqx
    obtain ⟨its2, rv2, p2, _⟩ := I.list hqy
    have p0 : s.heap.IsTuple a its.toArray := p1
    have p3 : s.heap.IsList b its2.toArray := p2.isList
    have ll := rv2.length
    have ll0 := rv.length
    have sz0 : its.toArray.size = xs.length := by rw [List.size_toArray, ll0]
    have D1 := Draws.tuple (prog := X.prog) (w := X.w) (A := X.A.in1) (I.ok.hd hc) i1 a ha its.toArray
    have D2 := Draws.list (prog := X.prog) (w := X.w) (A := X.A.in1) (I.ok.hd hc) i2 b hb its2.toArray
    have sz : its2.toArray.size = ys.length := by rw [List.size_toArray, ll]
    exact wpAny_pyNext_zipD2_end D D1 D2 hz hTI hTO ⟨h1, p0⟩ ⟨h2, p3⟩ (by rw [sz0]; exact l1) (by rw [sz]; exact l2) (by rw [sz, sz0]; exact hend) fun h' tk hk => ⟨rfl, I.turnedL (t' := tk) (ch := [z, TI, TO, i1, i2]) (fun c o hb q =>
      hk c o (fun q' => hb (by simp [q'])) (fun q' => hb (by simp [q'])) (fun q' => hb (by simp [q'])) (fun q' => hb (by simp [q'])) q) hf⟩
  self := fun A i s Q E st h => wpAny_pyIter_zip st.1 h
theorem sepTL (n a b : Nat) (h0 : a < n) (h : b < n) : ZipSep2 (n + 4) (n + 2) (n + 3) n (n + 1) [n, a] [n + 1, b] := by
  have two : ∀ c : Nat, c ≠ n + 1 → c ≠ b → ¬ List.Mem c [n + 1, b] := fun c h1 h2 e => by
    have e2 : c ∈ [n + 1, b] := e
    simp only [List.mem_cons, List.not_mem_nil, or_false] at e2
    omega
  have one : ∀ c : Nat, c ≠ n → c ≠ a → ¬ List.Mem c [n, a] := fun c h1 h2 e => by
    have e2 : c ∈ [n, a] := e
    simp only [List.mem_cons, List.not_mem_nil, or_false] at e2
    omega
  exact { TIz := by show ¬ ((n + 2 : Nat) = n + 4); omega
          TOz := by show ¬ ((n + 3 : Nat) = n + 4); omega
          TITO := by show ¬ ((n + 2 : Nat) = n + 3); omega
          TIi1 := by show ¬ ((n + 2 : Nat) = n); omega
          mem1 := List.mem_cons_self
          zf1 := one _ (by omega) (by omega)
          Tf1 := one _ (by omega) (by omega)
          TIi2 := by show ¬ ((n + 2 : Nat) = n + 1); omega
          mem2 := List.mem_cons_self
          zf2 := two _ (by omega) (by omega)
          Tf2 := two _ (by omega) (by omega)
          sep1_2 := two _ (by omega) (by omega)
          sep2_1 := one _ (by omega) (by omega) }
def iZipTL (K : PySem.W.Frag) (ta : TA) : TI := fun σ H R => ta σ H fun vs H1 => ∃ a b xs ys, vs = [.ref a, .ref b] ∧ SqT K H1 a xs ∧ SqL K H1 b ys ∧ R (ItTL K a b) H1
theorem pi_zipTL {X : Cx} {e e2 : Expr} {ta : TA} {p pos tpos : Pos} {elts : List Expr} {kk : Nat} (hg : Gl X "zip") (hm : X.mg "zip" = none) (ha : PA X [e, e2] ta)
    (hs : starEach [e, e2] X.env = (false, eval e X.env) :: starEach [e2] X.env := by rfl) (hpl : (backTo pos (starEach [e2] X.env)).any (·.1) = false := by rfl) :
    PI X (.Tuple elts kk tpos) (.Call (.Name "zip" p) [e, e2] [] pos) (iZipTL X.K ta) := by
  refine ⟨fun pins s σ H R I h => ?_⟩
  refine Call_ (ld_blt I hg hm PyProof.Rows.boot_zip (PyProof.Rows.callWith_type1 (thn (ha.run pos pins s σ H _ I h) fun us s1 ⟨vs, H1, I1, r1, q1⟩ => ?_) hs hpl))
  obtain ⟨a, b, xs, ys, ex, hqx, hqy, q⟩ := q1
  subst ex
  cases r1 with
  | @cons _ u1 _ us1 r1 r2 =>
  cases r1
  cases r2 with
  | @cons _ u2 _ us2 r3 r4 =>
  cases r4
  cases r3
  obtain ⟨its, rv, p1, _⟩ := I1.tuple hqx
  obtain ⟨its2, rv2, p2, _⟩ := I1.list hqy
  have p0 : s1.heap.IsTuple a its.toArray := p1
  have p3 : s1.heap.IsList b its2.toArray := p2.isList
  have al : a < s1.heap.objs.size := by
    obtain ⟨ob, e1, _⟩ := id p0
    exact Heap.lt_size e1
  have bl : b < s1.heap.objs.size := p2.lt
  refine zip_begins2 (begins_tuple a its.toArray) (begins_list b its2.toArray) p0 p3 fun h2 hz hTI hTO ho1 ho2 hsz hk => wpAny_pyIter_zip hz ?_
  have I2 : Inv X pins σ H1 { s1 with heap := h2 } := I1.kept (t' := s1.toks) hk
  have D : ZipSep2 (s1.heap.objs.size + 4) (s1.heap.objs.size + 2) (s1.heap.objs.size + 3) s1.heap.objs.size (s1.heap.objs.size + 1) [s1.heap.objs.size, a] [s1.heap.objs.size + 1, b] := sepTL _ _ _ al bl
  refine ⟨s1.heap.objs.size + 4, [s1.heap.objs.size + 4, s1.heap.objs.size + 2, s1.heap.objs.size + 3, s1.heap.objs.size, s1.heap.objs.size + 1], _, _, H1, rfl, I2, turn_zipTL D (Nat.ne_of_lt al) (Nat.ne_of_lt (Nat.lt_succ_of_lt bl)), ⟨hz, hTI, ⟨_, _, hTO⟩, ⟨_, ho1, rfl, rfl⟩, ⟨_, ho2, rfl, rfl⟩⟩, fun c hc => ?_, q⟩
  have le : s1.heap.objs.size ≤ c := le5 _ _ hc
  exact I1.fpOk le (I1.hok.fresh le)
theorem walk_zipTL {K : PySem.W.Frag} {a b : Addr} {xs ys : List V} {n : Nat} (h1 : n = xs.length) (h2 : n = ys.length) : Walk (ItTL K a b) n (fun H => SqT K H a xs ∧ SqL K H b ys) (YPair (fun i => xs[i]?) (fun i => ys[i]?)) := by
  refine ⟨fun i H hi q => ⟨xs, ys, xs[i], ys[i], q.1, q.2, List.getElem?_eq_getElem (by omega), List.getElem?_eq_getElem (by omega)⟩, fun H q => ⟨xs, ys, q.1, q.2, .inl h1, by omega, by omega⟩, fun i H v H' hi q y => ?_⟩
  obtain ⟨T, x0, y0, e1, e2, e3, e4, e5⟩ := y
  exact ⟨T, _, y0, e1, e2, e3, e4 xs q.1, e5 ys q.2⟩
end Sw
namespace Sw
open PySem PySem.Spec PyProof.Rows L2
/-- entries whose keys are these texts, in order -/
def KeyL : List DictEntry → List Str → Prop
  | [], [] => True
  | e :: r, k :: ks => (∃ t, e.key = .str k t) ∧ KeyL r ks
  | _, _ => False
theorem keyL_find {z : Str} : ∀ {l : List DictEntry} {ks : List Str}, KeyL l ks → (l.find? (·.key.isStr z)).map (·.val) = (ks.zip (l.map (·.val))).lookup z ∧ l.any (·.refKey) = false
  | [], [], _ => ⟨rfl, rfl⟩
  | e :: r, k :: ks, ⟨⟨t, h⟩, q⟩ => by
    obtain ⟨i1, i2⟩ := keyL_find (z := z) q
    have e1 : e.key.isStr z = (k == z) := by rw [h]; rfl
    have e2 : e.refKey = false := by unfold DictEntry.refKey; rw [h]
    refine ⟨?_, ?_⟩
    · rw [List.find?_cons, e1, List.map_cons, List.zip_cons_cons, List.lookup_cons]
      by_cases c : k = z
      · subst c
        rw [beq_self_eq_true]
        rfl
      · have c1 : (k == z) = false := by rw [beq_eq_false_iff_ne]; exact c
        have c2 : (z == k) = false := by rw [beq_eq_false_iff_ne]; exact fun y => c y.symm
        rw [c1, c2]
        exact i1
    · rw [List.any_cons, e2, i2]
      rfl
  | [], _ :: _, h => h.elim
  | _ :: _, [], h => h.elim
theorem nsIn_tab {K : PySem.W.Frag} {d0 : Addr} {c : Value} {od : Option Addr} {es : Array DictEntry} {n : Nat} {sl : Array (Option Value)} {ks : List Str} (l : K.lookup d0 = some ⟨c, od, .dict es n, sl⟩) (h : KeyL es.toList ks) (z : Str) :
    PySem.W.nsIn K d0 z = some ((ks.zip (es.toList.map (·.val))).lookup z) := by
  obtain ⟨i1, i2⟩ := keyL_find (z := z) h
  unfold PySem.W.nsIn
  rw [l]
  show (match es.toList.find? (·.key.isStr z) with
      | some e => some (some e.val)
      | none => if es.toList.any (·.refKey) then none else some none) = _
  rw [← i1, i2]
  cases es.toList.find? (·.key.isStr z) <;> rfl
/-- the values are tuples of texts -/
inductive TabV (K : PySem.W.Frag) : List (Str × List Str) → List Value → Prop
  | nil : TabV K [] []
  | cons {z : Str} {ks : List Str} {a : Addr} {r : List (Str × List Str)} {vs : List Value} : KTup K a (ks.map V.str) → TabV K r vs → TabV K ((z, ks) :: r) (.ref a :: vs)
theorem TabV.get {K : PySem.W.Frag} {z : Str} : ∀ {T : List (Str × List Str)} {vs : List Value}, TabV K T vs → (T.lookup z = none → ((T.map (·.1)).zip vs).lookup z = none) ∧ ∀ ks, T.lookup z = some ks → ∃ a, ((T.map (·.1)).zip vs).lookup z = some (.ref a) ∧ KTup K a (ks.map V.str)
  | [], _, .nil => ⟨fun _ => rfl, fun _ h => nomatch h⟩
  | (k, ks0) :: r, _, .cons (a := a) (vs := vs) h t => by
    obtain ⟨i1, i2⟩ := t.get (z := z)
    rw [List.lookup_cons, List.map_cons, List.zip_cons_cons, List.lookup_cons]
    show ((match z == k with | true => some ks0 | false => r.lookup z) = none → (match z == k with | true => some (Value.ref a) | false => ((r.map (·.1)).zip vs).lookup z) = none) ∧ ∀ ks, (match z == k with | true => some ks0 | false => r.lookup z) = some ks → ∃ a', (match z == k with | true => some (Value.ref a) | false => ((r.map (·.1)).zip vs).lookup z) = some (.ref a') ∧ KTup K a' (ks.map V.str)
    cases z == k with
    | true =>
      refine ⟨fun e => (nomatch e), fun ks e => ?_⟩
      cases e
      exact ⟨a, rfl, h⟩
    | false => exact ⟨i1, i2⟩
theorem kt1 {K : PySem.W.Frag} {a : Addr} {od : Option Addr} {x0 : Str} {t0 : Tok} {k : Nat} {osl : Array (Option Value)} (l : K.lookup a = some ⟨.type "tuple", od, .seq #[.str x0 t0] k, osl⟩) : KTup K a [.str x0] :=
  ⟨_, _, _, l, rfl, rfl, (show 1 ≤ sizeLine by decide), (.cons ⟨_, rfl⟩ .nil)⟩
theorem kt2 {K : PySem.W.Frag} {a : Addr} {od : Option Addr} {x0 x1 : Str} {t0 t1 : Tok} {k : Nat} {osl : Array (Option Value)} (l : K.lookup a = some ⟨.type "tuple", od, .seq #[.str x0 t0, .str x1 t1] k, osl⟩) : KTup K a [.str x0, .str x1] :=
  ⟨_, _, _, l, rfl, rfl, (show 2 ≤ sizeLine by decide), (.cons ⟨_, rfl⟩ (.cons ⟨_, rfl⟩ .nil))⟩
theorem kt3 {K : PySem.W.Frag} {a : Addr} {od : Option Addr} {x0 x1 x2 : Str} {t0 t1 t2 : Tok} {k : Nat} {osl : Array (Option Value)} (l : K.lookup a = some ⟨.type "tuple", od, .seq #[.str x0 t0, .str x1 t1, .str x2 t2] k, osl⟩) : KTup K a [.str x0, .str x1, .str x2] :=
  ⟨_, _, _, l, rfl, rfl, (show 3 ≤ sizeLine by decide), (.cons ⟨_, rfl⟩ (.cons ⟨_, rfl⟩ (.cons ⟨_, rfl⟩ .nil)))⟩
theorem kt4 {K : PySem.W.Frag} {a : Addr} {od : Option Addr} {x0 x1 x2 x3 : Str} {t0 t1 t2 t3 : Tok} {k : Nat} {osl : Array (Option Value)} (l : K.lookup a = some ⟨.type "tuple", od, .seq #[.str x0 t0, .str x1 t1, .str x2 t2, .str x3 t3] k, osl⟩) : KTup K a [.str x0, .str x1, .str x2, .str x3] :=
  ⟨_, _, _, l, rfl, rfl, (show 4 ≤ sizeLine by decide), (.cons ⟨_, rfl⟩ (.cons ⟨_, rfl⟩ (.cons ⟨_, rfl⟩ (.cons ⟨_, rfl⟩ .nil))))⟩
theorem kt5 {K : PySem.W.Frag} {a : Addr} {od : Option Addr} {x0 x1 x2 x3 x4 : Str} {t0 t1 t2 t3 t4 : Tok} {k : Nat} {osl : Array (Option Value)} (l : K.lookup a = some ⟨.type "tuple", od, .seq #[.str x0 t0, .str x1 t1, .str x2 t2, .str x3 t3, .str x4 t4] k, osl⟩) : KTup K a [.str x0, .str x1, .str x2, .str x3, .str x4] :=
  ⟨_, _, _, l, rfl, rfl, (show 5 ≤ sizeLine by decide), (.cons ⟨_, rfl⟩ (.cons ⟨_, rfl⟩ (.cons ⟨_, rfl⟩ (.cons ⟨_, rfl⟩ (.cons ⟨_, rfl⟩ .nil)))))⟩
theorem kt6 {K : PySem.W.Frag} {a : Addr} {od : Option Addr} {x0 x1 x2 x3 x4 x5 : Str} {t0 t1 t2 t3 t4 t5 : Tok} {k : Nat} {osl : Array (Option Value)} (l : K.lookup a = some ⟨.type "tuple", od, .seq #[.str x0 t0, .str x1 t1, .str x2 t2, .str x3 t3, .str x4 t4, .str x5 t5] k, osl⟩) : KTup K a [.str x0, .str x1, .str x2, .str x3, .str x4, .str x5] :=
  ⟨_, _, _, l, rfl, rfl, (show 6 ≤ sizeLine by decide), (.cons ⟨_, rfl⟩ (.cons ⟨_, rfl⟩ (.cons ⟨_, rfl⟩ (.cons ⟨_, rfl⟩ (.cons ⟨_, rfl⟩ (.cons ⟨_, rfl⟩ .nil))))))⟩
end Sw
namespace Sw
open PySem PySem.Spec PyProof.Rows L2
/-- texts in a set that is walked and sorted: m its members, in some order -/
def SetX (P : Program) (w : World) (h : Heap) (a : Addr) (m : List Str) : Prop :=
  ∃ D : PySem.Froz.SD, h.get? a = some (PySem.Froz.sObj "set" D) ∧ PySem.Froz.TxOk P w D m ∧ m.Nodup ∧ m.length < scanBound ∧ Ris D.2.2.place.toList ∧
    (w.params.followText "set-order" = true ∨ D.2.2.led = true)
theorem setX_at {P : Program} {w : World} {h h' : Heap} {a : Addr} {m : List Str} (R : SetX P w h a m) (k : ∀ o, h.get? a = some o → h'.get? a = some o) : SetX P w h' a m := by
  obtain ⟨D, ho, r⟩ := R
  exact ⟨D, k _ ho, r⟩
theorem tail_ris {ep : Nat} {es1 : Array (Int × Value)} {t2 : SetTable} {wd : Bool} (r : Ris t2.place.toList) : Ris (PySem.Froz.tailTx ep es1 t2 wd).2.2.place.toList := by
  unfold PySem.Froz.tailTx
  split
  · exact relayAll_ris _ _ _
  · exact r
theorem tail_led {ep : Nat} {es1 : Array (Int × Value)} {t2 : SetTable} {wd : Bool} : (PySem.Froz.tailTx ep es1 t2 wd).2.2.led = t2.led := by
  unfold PySem.Froz.tailTx
  split
  · exact relayAll_led _ _ _
  · rfl
theorem addTx_ris {hs : Int} {v : Value} {D : PySem.Froz.SD} (r : Ris D.2.2.place.toList) : Ris (PySem.Froz.addTx hs v D).2.2.place.toList := by
  have r1 := layNew_ris D.2.2 D.1 hs v r
  refine tail_ris ?_
  split <;> exact r1
theorem addTx_led {hs : Int} {v : Value} {D : PySem.Froz.SD} : (PySem.Froz.addTx hs v D).2.2.led = D.2.2.led := by
  have r1 := layNew_led D.2.2 D.1 hs v
  refine tail_led.trans ?_
  split <;> exact r1
section
variable {P : Program} {w : World} {A : Around} {E : Value → Shared → Prop} {s : Shared} {a : Addr}
theorem add_old {D : PySem.Froz.SD} {m : List Str} {k : Str} {u : Tok} {Q : Bool → Shared → Prop} (ho : s.heap.get? a = some (PySem.Froz.sObj "set" D)) (F : PySem.Froz.TxOk P w D m) (hk : k ∈ m) (hb : m.length < scanBound)
    (h : Q false s) : wpAny (model P w) A (setAddHashed a (.str k u) (hashStr w k)) Q E s := by
  obtain ⟨es, ep, t⟩ := D
  have hd : (PySem.Froz.sObj "set" (es, ep, t)).data = .set es ep t := rfl
  have hf : t.fits es.size = true := F.fit
  have hel : ElemsOf (strKind P w) es.toList := F.el
  have hb0 : es.size < scanBound := Nat.lt_of_le_of_lt (Nat.le_of_eq F.sz) hb
  have hkey : (strKind P w).is k (.str k u) = true := PySem.Froz.is_str k u
  unfold setAddHashed setAddHashedIn
  refine wpAny_holding (wpAny_bind (wpAny_setState_of ho hd hf ?_))
  dsimp only
  rw [byScan_of rfl hb0 hel]
  simp only [↓reduceIte]
  unfold setAddByScan
  refine wpAny_bind ?_
  refine wpAny_bind (wpAny_rule ?_)
  refine wpAny_bind (wpAny_setScan_of (knd := strKind P w) (k := k) hkey ho hd hf hel ?_)
  cases hr : List.findIdx? (fun e => (strKind P w).is k e.2) es.toList with
  | none =>
    obtain ⟨e, he, q⟩ := (F.mem k).mp hk
    have c := List.findIdx?_eq_none_iff.mp hr e he
    rw [q] at c
    cases c
  | some j =>
    dsimp only
    exact wpAny_pure (wpAny_pure h)
theorem setX_add {m : List Str} {k : Str} {u : Tok} {Q : Bool → Shared → Prop} (R : SetX P w s.heap a m) (room : m.length + 1 < scanBound)
    (hQ : ∀ h', Heap.SameBut a s.heap h' → SetX P w h' a (if k ∈ m then m else k :: m) → Q (!decide (k ∈ m)) { s with heap := h' }) :
    wpAny (model P w) A (setAddHashed a (.str k u) ((strKind P w).hash k)) Q E s := by
  obtain ⟨D, ho, F, nd, hb, hr, hl⟩ := R
  show wpAny (model P w) A (setAddHashed a (.str k u) (hashStr w k)) Q E s
  by_cases hk : k ∈ m
  · refine add_old ho F hk hb ?_
    have q := hQ s.heap (Heap.SameBut.refl a s.heap)
    rw [if_pos hk, decide_eq_true hk] at q
    exact q ⟨D, ho, F, nd, hb, hr, hl⟩
  · refine PySem.Froz.add_x ho F hk room ?_
    have q := hQ (s.heap.update a (fun _ => PySem.Froz.sObj "set" (PySem.Froz.addTx (hashStr w k) (.str k u) D))) (Heap.SameBut.update s.heap a _)
    rw [if_neg hk, decide_eq_false hk] at q
    exact q ⟨_, PySem.Froz.get_upd _ ho rfl, PySem.Froz.add_ok u F, List.nodup_cons.mpr ⟨hk, nd⟩, room, addTx_ris hr, hl.imp id fun z => addTx_led.trans z⟩
theorem setX_fresh {h : Heap} {a : Addr} (ho : h.get? a = some { cls := .type "set", dict := none, data := .set #[] 0 (.fresh 0 0 (!w.params.followText "set-order")) }) : SetX P w h a [] :=
  ⟨(#[], 0, .fresh 0 0 (!w.params.followText "set-order")), ho, PySem.Froz.TxOk.nil rfl, List.nodup_nil, by decide, List.Pairwise.nil, by
    show _ ∨ (!w.params.followText "set-order") = true
    cases w.params.followText "set-order"
    · exact .inr rfl
    · exact .inl rfl⟩
theorem set_update_txs {I : Addr} {fp wr : List Addr} {G : Array GenState → Array GenState → Prop} {n : Nat} {Pv : Nat → Value → Prop} {St : Nat → Shared → Prop} {R : Result → Shared → Prop}
    (W : WalksS P w A.in1 I fp wr G n Pv St) (S : Addr) (hSf : S ∉ fp) (ns : List Str) (hn : n = ns.length) (hb : ns.length + 1 < scanBound) (hval : ∀ i v, Pv i v → ∃ k t, ns[i]? = some k ∧ v = .str k t) :
    ∀ (k i : Nat) (s : Shared), n - i = k → i ≤ n → St i s → (∃ m, m.length ≤ i ∧ (∀ z, z ∈ m ↔ z ∈ ns.take i) ∧ SetX P w s.heap S m) →
      (∀ s' m, Moved (S :: wr) G s s' → m.length ≤ n → (∀ z, z ∈ m ↔ z ∈ ns) → SetX P w s'.heap S m → R (.ok (.ret .none)) s') →
      codeAny (model P w) A (.builtin "set.update.loop" ⟨[.ref S, .ref I], []⟩) R s := by
  have hSw : S ∉ wr := fun h => hSf (W.sub _ h)
  have hsub : ∀ b ∈ wr, b ∈ S :: wr := fun b hb => List.mem_cons_of_mem _ hb
  intro k
  induction k with
  | zero =>
    intro i s hk' hi hst ⟨m, hc, hm0, hS⟩ hR
    have hin : i = n := by omega
    subst hin
    refine codeAny_builtin F.entry_set_update_loop ?_
    rw [Around.under_plainId F.plain_set_update_loop _]
    show wpAny _ A.in1 (pyNext (.ref I) >>= _) _ _ s
    refine wpAny_bind (W.done s _ _ hst fun s' hm => ?_)
    show wpAny _ A.in1 (ret Value.none) _ _ s'
    have e : ns.take i = ns := List.take_of_length_le (by omega)
    rw [e] at hm0
    exact wpAny_pure (hR s' m (hm.mono hsub) hc hm0 (setX_at hS fun o e => hm.heap S o hSw e))
  | succ k ih =>
    intro i s hk' hi hst ⟨m, hc, hm0, hS⟩ hR
    have hlt : i < n := by omega
    refine codeAny_builtin F.entry_set_update_loop ?_
    rw [Around.under_plainId F.plain_set_update_loop _]
    show wpAny _ A.in1 (pyNext (.ref I) >>= _) _ _ s
    refine wpAny_bind (W.item i s _ _ hlt hst fun v s' hP hst' hm => ?_)
    obtain ⟨z, t, hz, rfl⟩ := hval i v hP
    have hS' : SetX P w s'.heap S m := setX_at hS fun o e => hm.heap S o hSw e
    show wpAny _ A.in1 (holding [Value.str z t] (setAdd S (.str z t)) >>= _) _ _ s'
    refine wpAny_bind (wpAny_holding ?_)
    unfold setAdd
    refine wpAny_holding ?_
    refine wpAny_bind ((strKind P w).pyHash (k := z) (PySem.Froz.is_str z t) ?_)
    refine setX_add (s := { s' with toks := s'.toks + 1 }) hS' (by omega) fun h' hsb hS2 => ?_
    have hS3 : (if z ∈ m then m else z :: m).length ≤ i + 1 ∧ ∀ y, y ∈ (if z ∈ m then m else z :: m) ↔ y ∈ ns.take (i + 1) := by
      have e : ns.take (i + 1) = ns.take i ++ [z] := by rw [List.take_add_one, hz] <;> rfl
      rw [e]
      by_cases c : z ∈ m
      · rw [if_pos c]
        refine ⟨by omega, fun y => ?_⟩
        rw [List.mem_append, ← hm0 y, List.mem_singleton]
        exact ⟨.inl, fun q => q.elim id fun q => q ▸ c⟩
      · rw [if_neg c]
        refine ⟨by rw [List.length_cons]; omega, fun y => ?_⟩
        rw [List.mem_append, ← hm0 y, List.mem_singleton, List.mem_cons]
        exact Or.comm
    refine wpAny_pure ⟨plainId_quiet F.plain_set_update_loop _, ih (i + 1) _ (by omega) hlt (W.frame _ s' _ _ hst' (Nat.le_succ _) fun b hb o e => ?_) ⟨_, hS3.1, hS3.2, hS2⟩ fun s'' m2 hm'' hc'' hq'' hS'' => ?_⟩
    · rw [hsb.2 b (fun h : b = S => hSf (by rw [← h]; exact hb))]; exact e
    · refine hR s'' m2 (Moved.trans W.gtrans ((hm.mono hsub).then_heap (Nat.le_succ _) fun b o hb e => ?_) hm'') hc'' hq'' hS''
      rw [hsb.2 b (fun h : b = S => hb (by rw [h]; exact List.mem_cons_self))]; exact e
end
end Sw
namespace Sw
open PySem PySem.Spec PyProof.Rows L2
section
variable {P : Program} {w : World} {A : Around} {E : Value → Shared → Prop} {s : Shared} {a : Addr}
/-- the new set's object -/
def nSet (w : World) : Obj := { cls := .type "set", dict := none, data := .set #[] 0 (.fresh 0 0 (!w.params.followText "set-order")) }
theorem call_setX {l : Addr} {items : Array Value} (ns : List Str) {Q : Value → Shared → Prop} (hh : A.handled = none) (hl : s.heap.IsList l items) (hit : StrsAre items.toList ns) (hb : ns.length + 1 < scanBound)
    (h : ∀ (h' : Heap) (tk : Nat) (m : List Str), SetX P w h' s.heap.objs.size m → m.length ≤ ns.length → (∀ z, z ∈ m ↔ z ∈ ns) → (∀ b o, s.heap.get? b = some o → h'.get? b = some o) → Q (.ref s.heap.objs.size) { s with heap := h', toks := tk }) :
    wpAny (model P w) A (call (.type "set") [.ref l]) Q E s := by
  have hisz : items.size = ns.length := by
    have q := StrsAre.len_eq hit
    rw [Array.length_toList] at q
    exact q
  obtain ⟨c, tl, hmro⟩ := F.called_set.mro
  have hmade := F.called_set.made
  have hsub := F.called_set.sub
  have h1 := F.called_set.notType
  have h2 := F.called_set.canCreate
  have hct := F.typeCall_set_1 (.ref l)
  have hS : (s.heap.push (nSet w)).get? s.heap.objs.size = some (nSet w) := Heap.get?_push_size _ rfl
  have hT : Shared.TypeIs { s with heap := s.heap.push (nSet w) } (.ref s.heap.objs.size) "set" := ⟨_, hS, rfl⟩
  have hz1 : (s.heap.push (nSet w)).objs.size = s.heap.objs.size + 1 := Heap.size_push ..
  have hli := F.called_set.init.lookup
  have hbi := F.called_set.init.bind (.ref s.heap.objs.size)
  refine wpAny_call (codeAny_of_tree ?_)
  show wpAny _ _ (callAny (.type "set") _) _ _ _
  refine wpAny_pure ⟨Code.quiet_builtin _ (by decide +kernel), codeAny_builtin F.entry_type_call ?_⟩
  rw [Around.under_plain (weight_type_call_type "set" [.ref l] []) rfl]
  repeat (any_goals (first | assumption | wp_step))
  refine codeAny_mono (code_set_led1 (.ref l) (E := E) (Q₁ := fun obj s₁ => obj = .ref s.heap.objs.size ∧ s₁ = { s with heap := s.heap.push (nSet w) }) ⟨rfl, rfl⟩) fun r s₁ hr => ?_
  cases r with
  | error e => exact hr
  | ok fl =>
    cases fl with
    | ret obj =>
      obtain ⟨rfl, rfl⟩ := hr
      repeat (any_goals (first | assumption | wp_step))
      refine codeAny_mono (codeAny_call_builtin (R := wants (fun r s₂ => r = .none ∧ ∃ h' tk m, s₂ = { s with heap := h', toks := tk } ∧ SetX P w h' s.heap.objs.size m ∧ m.length ≤ ns.length ∧ (∀ z, z ∈ m ↔ z ∈ ns) ∧
          (∀ b o, s.heap.get? b = some o → h'.get? b = some o)) E) F.called_set.init.plain F.entry_set_init (check_set_init_1 hT ?_)) fun r₂ s₂ hr₂ => ?_
      · obtain ⟨ol, hol, hcl, nl, hdl⟩ := hl
        obtain ⟨ocls, odict, odata, oslots⟩ := ol
        simp only at hcl hdl
        subst hcl; subst hdl
        have hol' : (s.heap.push (nSet w)).get? l = some { cls := .type "list", dict := odict, data := .seq items nl, slots := oslots } := Heap.get?_push_of_some _ hol
        have hsls := F.sub_list_set
        have hslf := F.sub_list_frozenset
        have hne : (Value.type "list" == Value.type "dict") = false := by decide
        have hl1 : (s.heap.push (nSet w)).IsList l items := ⟨_, hol', rfl, nl, rfl⟩
        have hlS : l < s.heap.objs.size := Heap.lt_size hol
        have hh3 : A.in1.in1.in1.handled = none := by simp [hh]
        have hneI : l ≠ (s.heap.push (nSet w)).objs.size := by rw [hz1]; exact Nat.ne_of_lt (Nat.lt_succ_of_lt hlS)
        have hSf : s.heap.objs.size ∉ [(s.heap.push (nSet w)).objs.size, l] := by
          rw [hz1]; simp only [List.mem_cons, List.not_mem_nil, or_false, not_or]; exact ⟨Nat.ne_of_lt (Nat.lt_succ_self _), Nat.ne_of_gt hlS⟩
        have hval : ∀ (i : Nat) (v : Value), items[i]? = some v → ∃ k t, ns[i]? = some k ∧ v = .str k t := fun i v hv => by
          have hi : i < ns.length := by rw [← hisz]; exact (Array.getElem?_eq_some_iff.mp hv).1
          obtain ⟨t, e⟩ := SS.strs_at hit i v (by rw [Array.getElem?_toList]; exact hv)
          refine ⟨ns[i], t, List.getElem?_eq_getElem hi, ?_⟩
          rw [e, List.getD_eq_getElem?_getD, List.getElem?_eq_getElem hi] <;> rfl
        unfold Builtin.«set.__init__» noKeywords Builtin.Frozenset.updateFrom
        generalize hPI : pyIter = PI
        wp_walk
        subst hPI
        refine wpAny_pyIter_list hl1 ?_
        refine wpAny_bind (wpAny_runValue ?_)
        refine set_update_txs ((Walks.list hh3 _ l hneI items).toS) s.heap.objs.size
          hSf ns hisz hb hval (items.size - 0) 0 _ (by omega) (Nat.zero_le _)
          ⟨⟨_, Heap.get?_push_size _ rfl, rfl, rfl⟩, (hl1.push _)⟩ ⟨[], Nat.le_refl 0, fun z => Iff.rfl, setX_fresh (Heap.get?_push_of_some _ hS)⟩ fun s' m hm hc' hq' hS' => ?_
        obtain ⟨h', g2, d', tk', os'⟩ := s'
        have eg : g2 = s.gens := hm.gens
        have ed : d' = s.drawn := hm.drawn
        have eo : os' = s.os := hm.os
        subst eg; subst ed; subst eo
        show wpAny _ _ _ _ _ _
        refine wpAny_pure ?_
        show wpAny _ _ (ret Value.none) _ _ _
        rw [hisz] at hc'
        refine wpAny_pure ⟨rfl, h', tk', m, rfl, hS', hc', hq', fun b o e => ?_⟩
        have hb0 : b < s.heap.objs.size := Heap.lt_size e
        refine hm.heap b o ?_ (Heap.get?_push_of_some _ (Heap.get?_push_of_some _ e))
        rw [hz1]; simp only [List.mem_cons, List.not_mem_nil, or_false, not_or]; exact ⟨Nat.ne_of_lt hb0, Nat.ne_of_lt (Nat.lt_succ_of_lt hb0)⟩
      · cases r₂ with
        | error e => exact hr₂
        | ok fl₂ =>
          cases fl₂ with
          | ret r =>
            obtain ⟨rfl, h', tk, m, rfl, hS', hc', hq', hk'⟩ := hr₂
            repeat (any_goals (first | assumption | wp_step))
            exact h _ _ _ hS' hc' hq' hk'
          | _ => exact hr₂.elim
    | _ => exact hr.elim
end
/-- the state of a set of texts -/
def SetXO (P : Program) (w : World) (a : Addr) (m : List Str) : HO := .ext fun h => SetX P w h a m
section
variable {X : Cx}
theorem setXO_new {P : Program} {w : World} {H : Hp} {h : Heap} {a : Addr} {m : List Str} (R : SetX P w h a m) : ObjOk P w H h a (SetXO P w a m) := by
  have ⟨D, ho, _⟩ := R
  exact ⟨R, ⟨_, ho⟩, fun h1 h2 p k => setX_at p k⟩
/-- set(xs), xs a list of texts -/
def rSetX (K : PySem.W.Frag) (P : Program) (w : World) : List V → Hp → VK → Prop := fun vs H Q => ∃ (l : Addr) (xs : List Str), vs = [V.ref l] ∧ SqL K H l (xs.map V.str) ∧ xs.length < 64 ∧
  ∀ (p : Addr) (m : List Str), m.Nodup → m.length < 64 → (∀ z, z ∈ m ↔ z ∈ xs) → H p = none → Q (.ref p) (upd H p (SetXO P w p m))
theorem cr_setX (hc : X.calm = true) : CallR X (.type "set") (rSetX X.K X.prog X.w) := by
  intro pins s σ H vs us Q I r h
  obtain ⟨l, xs, rfl, hl, hf, q⟩ := h
  rw [Vals.ref1 r]
  obtain ⟨its, rv, pl, hz⟩ := I.list hl
  have hn : H s.heap.objs.size = none := I.hok.fresh (Nat.le_refl _)
  refine call_setX (P := X.prog) (w := X.w) xs (I.ok.hd hc) pl.isList (by simpa using strsAre_of rv) (by unfold scanBound; omega) fun h' tk m R hm hq k => ?_
  have nd : m.Nodup := R.elim fun _ z => z.2.2.1
  exact ⟨.ref s.heap.objs.size, upd H s.heap.objs.size (SetXO X.prog X.w s.heap.objs.size m), I.laid (t' := tk) k (Nat.le_refl _) (setXO_new R), rfl, q _ m nd (Nat.lt_of_le_of_lt hm hf) hq hn⟩
/-- the texts of a set's rows -/
theorem strs_rows {P : Program} {w : World} : ∀ (l : List (Int × Value)), ElemsOf (strKind P w) l → ∃ ss, StrsAre (l.map (·.2)) ss ∧ (∀ z, z ∈ ss ↔ ∃ e ∈ l, (strKind P w).is z e.2 = true)
  | [], _ => ⟨[], .nil, fun z => by simp⟩
  | e :: l, h => by
    obtain ⟨ss, h1, h2⟩ := strs_rows l fun x hx => h x (List.mem_cons_of_mem _ hx)
    obtain ⟨⟨k, hk, _⟩, _⟩ := h e List.mem_cons_self
    have hs : ∃ t, e.2 = Value.str k t := by
      have q : Value.isStrOf k e.2 = true := hk
      revert q
      cases e.2 <;> intro q <;> first | (simp [Value.isStrOf] at q; done) | skip
      rename_i y t
      have : y = k := by simpa [Value.isStrOf] using q
      exact ⟨t, by rw [this]⟩
    obtain ⟨t, ht⟩ := hs
    refine ⟨k :: ss, ?_, fun z => ?_⟩
    · rw [List.map_cons, ht]
      exact .cons k t h1
    · rw [List.mem_cons, h2 z]
      constructor
      · rintro (rfl | ⟨x, hx, q⟩)
        · exact ⟨e, List.mem_cons_self, hk⟩
        · exact ⟨x, List.mem_cons_of_mem _ hx, q⟩
      · rintro ⟨x, hx, q⟩
        rcases List.mem_cons.mp hx with y | y
        · subst y
          exact .inl ((strKind P w).inj x.2 z k q hk)
        · exact .inr ⟨x, y, q⟩
end
end Sw
namespace Sw
open PySem PySem.Spec PyProof.Rows L2
theorem perm_few : ∀ (m ss : List Str), m.Nodup → (∀ z, z ∈ m → z ∈ ss) → ss.length ≤ m.length → m.Perm ss
  | [], ss, _, _, h => by
    rw [List.length_eq_zero_iff.mp (Nat.le_zero.mp h)]
  | x :: m, ss, nd, hs, h => by
    obtain ⟨n1, n2⟩ := List.nodup_cons.mp nd
    have hx := hs x List.mem_cons_self
    have p := perm_few m (ss.erase x) n2 (fun z hz => (List.mem_erase_of_ne (show z ≠ x from fun e => n1 (e ▸ hz))).mpr (hs z (List.mem_cons_of_mem _ hz))) (by
      rw [List.length_erase_of_mem hx]
      rw [List.length_cons] at h
      omega)
    exact (p.cons x).trans (List.perm_cons_erase hx).symm
section
variable {P : Program} {w : World} {A : Around} {E : Value → Shared → Prop} {s : Shared} {a : Addr}
theorem sorted_setX {m : List Str} {Q : Value → Shared → Prop} (R : SetX P w s.heap a m) (hh : A.handled = none) (h64 : m.length < 64)
    (hQ : ∀ s' p (out : Array Value) (c : Nat) (ys : List Str), (∀ b o, s.heap.get? b = some o → s'.heap.get? b = some o) → s'.gens = s.gens → s'.os = s.os → s.heap.objs.size ≤ p →
      s'.heap.get? p = some (seqObj "list" out c) → StrsAre out.toList ys → ys.Perm m → sortedS ys = true → Q (.ref p) s') :
    wpAny (model P w) A (call (.builtin "sorted") [.ref a]) Q E s := by
  obtain ⟨⟨es, ep, t⟩, ho, T, nd, hb, hr, hl⟩ := R
  obtain ⟨ss, hss, hmem⟩ := strs_rows (P := P) (w := w) es.toList T.el
  have hsz : es.size = m.length := T.sz
  have hsl : ss.length = m.length := by
    rw [← StrsAre.len_eq hss, List.length_map, Array.length_toList]; exact hsz
  have pm0 : m.Perm ss := perm_few m ss nd (fun z hz => (hmem z).mpr ((T.mem z).mp hz)) (Nat.le_of_eq hsl)
  refine Calls.call_function_entry kind_sorted plain_sorted entry_sorted (args_sorted1 _) ?_
  unfold Builtin.«sorted»
  refine wpAny_bind (m := checkCount "sorted" 1 1 _) (wpAny_pure ?_)
  refine wpAny_bind (collect_set (A := A.in1) hh ⟨_, ho, rfl, rfl⟩ T.fit (Nat.lt_of_le_of_lt (Nat.le_of_eq hsz) hb) hr hl fun s1 vs k1 hz g1 o1 pm => ?_)
  have hvl : vs.length = m.length := by rw [pm.length_eq, List.length_map, Array.length_toList]; exact hsz
  have hS : StrsAre vs (vs.map strOf) := strsAre_map vs fun v hv => hss.all v (pm.mem_iff.mp hv)
  have pk : (vs.map strOf).Perm m := by
    have q := pm.map strOf
    rw [hss.strs] at q
    exact q.trans pm0.symm
  have h64' : vs.length < 64 := by rw [hvl]; exact h64
  have hL : vs.length ≤ sizeLine := by rw [sizeLine_eq]; omega
  refine wpAny_bind (wpAny_newList ?_ hL)
  have hoL : (s1.heap.push (seqObj "list" vs.toArray 0)).get? s1.heap.objs.size = some (seqObj "list" vs.toArray 0) := Heap.get?_push_size _ rfl
  refine wpAny_bind (wpAny_holding (wpAny_call_entry slot_list_sort ⟨_, hoL, rfl⟩ entry_list_sort
    (list_sort_treeKAny strKind_oneLt hoL hS.keysOf (fun v₁ v₂ rest e => keyKind_strs (by rw [← e]; exact hS)) hL fun st' hp hs => ⟨_, rfl, ?_⟩) (args_list_sort _)))
  obtain ⟨ys, a1, a2, a3⟩ := sorted_out_str hS hp hs
  obtain ⟨c, hc⟩ := sortedHeap_at (vs := vs) (out := (arrOf st').map (·.2)) hoL
  refine wpAny_pure ⟨_, rfl, hQ _ s1.heap.objs.size _ c ys (fun b u e => ?_) g1 o1 hz hc a1 (a2.trans pk) a3⟩
  have q := k1 b u e
  have hlt := Heap.lt_size q
  show (sortedHeap (s1.heap.push (seqObj "list" vs.toArray 0)) s1.heap.objs.size vs ((arrOf st').map (·.2))).get? b = some u
  rw [sortedHeap_old (Nat.ne_of_lt hlt) (by rw [size_push']; exact Nat.lt_succ_of_lt hlt)]
  exact Heap.get?_push_of_some _ q
end
section
variable {X : Cx}
/-- sorted(texts' set) -/
def rSortX (P : Program) (w : World) : List V → Hp → VK → Prop := fun vs H Q => ∃ (a : Addr) (m : List Str), vs = [V.ref a] ∧ H a = some (SetXO P w a m) ∧ m.length < 64 ∧
  ∀ (ys : List Str) (p : Addr), ys.Perm m → sortedS ys = true → H p = none → Q (.ref p) (upd H p (.lst (ys.map V.str)))
theorem cr_sortX (hc : X.calm = true) : CallR X (.builtin "sorted") (rSortX X.prog X.w) := by
  intro pins s σ H vs us Q I r h
  obtain ⟨a, m, rfl, ha, h64, q⟩ := h
  have R : SetX X.prog X.w s.heap a m := (I.hok a _ ha).1
  rw [Vals.ref1 r]
  refine sorted_setX R (I.ok.hd hc) h64 fun s' p out c ys k g o hp hg hi pm hs => ?_
  have hlen : (ys.map V.str).length ≤ sizeLine := by rw [List.length_map, pm.length_eq, sizeLine_eq]; omega
  have hn : H p = none := I.hok.fresh hp
  have J : Inv X pins σ (upd H p (.lst (ys.map V.str))) { s with heap := s'.heap, gens := s'.gens, drawn := s'.drawn, toks := s'.toks } :=
    I.call (ch := []) (Un.laid k hp hn) (I.hok.laid k hp ⟨hlen, out.toList, c, vals_of_strs hi, hg⟩) (by rw [g]; exact I.bare) (fun _ z => nomatch z)
  have e : s' = { s with heap := s'.heap, gens := s'.gens, drawn := s'.drawn, toks := s'.toks } := by
    cases s'
    cases s
    cases o
    rfl
  rw [e]
  exact ⟨.ref p, _, J, rfl, q ys p pm hs hn⟩
end
end Sw
namespace Sw
open PySem PySem.Spec PyProof.Rows L2
/-- a written dict whose place is new, and not that of sys.modules -/
def tDispN (trs : List (TE × TE)) : TE := fun σ H Q => ∀ p, H p = none → p ≠ sysModules → tPairs trs σ (upd H p (.dK [])) fun ps H2 => H2 p = some (.dK []) ∧ ∃ kvs : List (Key × V), ps = kvs.map (fun kv => (kV kv.1, kv.2)) ∧ kvs.length ≤ 15 ∧ Q (.ref p) (upd H2 p (.dK (mergeK [] kvs)))
theorem pe_dispN {X : Cx} {pos : Pos} {keys : List (Option Expr)} {values : List Expr} {trs : List (TE × TE)} (h : PPs X pos keys values trs) (hall : keys.all (·.isSome) = true) (hl : keys.length = values.length) (h0 : keys ≠ [])
    (h15 : keys.length ≤ 15) : PE X (.Dict keys values pos) (tDispN trs) := by
  refine ⟨fun pins s σ H Q I q => ?_⟩
  have I1 := I.laid (a := s.heap.objs.size) (o := .dK []) (t' := s.toks) (fun _ _ q => Heap.get?_push_of_some _ q) (Nat.le_refl _) (dk_empty s.heap I.big)
  refine wpAny_Dict_walk (knd := mixKind X.prog X.w) hall hl h0 h15 (thn (h.run pins _ σ _ _ I1 (q _ (I.hok.fresh (Nat.le_refl _)) (Nat.ne_of_gt I.big))) fun ws s2 g => ?_)
  obtain ⟨ps, H2, I2, rel, e, kvs, ep, lk, q2⟩ := g
  subst ep
  obtain ⟨rs, c, rk⟩ := carries_of (P := X.prog) (w := X.w) rel
  obtain ⟨z, hd, vs0, r0, dd⟩ := dk_of I2.hok e
  cases r0
  have hz : (mergeK [] kvs).length ≤ sizeLine := by
    have h1 := length_mergeK kvs []
    rw [List.length_nil] at h1
    rw [sizeLine_eq]
    omega
  refine ⟨rs, c, dd, fun h' dd' hs => ⟨.ref s.heap.objs.size, _, ?_, rfl, q2⟩⟩
  exact d_write I2 (by rw [e]; exact True.intro) hs (let ⟨u, _, _, hu, _⟩ := dd'; ⟨u, hu⟩) (dk_new hz hd (rk.merge .nil) dd')
theorem gv_disp1 {K : PySem.W.Frag} {b : Addr} {mu : Addr → Prop} {σ : L2.St} {H0 : Hp} {D : PyData → Prop} {te : TE} {k : Str} {d : PyData} (hm : mu b) (h : ∀ mv : Addr → Prop, mv b → Ge K b mv σ H0 te d) (hd : D (.dict [(.str k, d)])) :
    Gv K b mu σ H0 (tDispN [(tC (.str k), te)]) D := fun H hb m Q q p np ns => by
  have npb : p ≠ b := fun z => by
    obtain ⟨_, _, _, _, _, e, _⟩ := hb.bag
    rw [z, e] at np
    cases np
  have r0 := Rel.of_same hb.bag (same_upd (o := .dK []) np)
  refine h (fun a => mu a ∨ a = p) (.inl hm) (upd H p (.dK [])) (hb.trans r0) (fun a z => ?_) _ fun v H1 r1 e1 => ?_
  · rcases z with z | rfl
    · exact (m.rel r0) a z
    · exact .inl (by rw [upd_same]; exact fun z => nomatch z)
  have hp := r1.keep _ _ npb upd_same
  refine ⟨hp, [(.inr k, v)], rfl, by simp, q _ _ _ hd ((r0.trans r1).at hb.bag np) (.dct (m.new np ns) (.inl upd_same) ?_) (own_not (fun _ z => nomatch z))⟩
  refine .cons (k := .inr k) ((e1.fut (mu := fun a => mu a ∨ a = p) fun c o e z => ?_).less fun a z => .inl z) .nil
  by_cases c1 : c = p
  · subst c1
    rw [hp] at e
    cases e
    rcases z with z | ⟨xs, z⟩ | ⟨ob, u, z⟩
    · exact absurd (.inr rfl) z
    · cases z
    · cases z
  · rw [upd_ne c1]
    exact e
end Sw
namespace Sw
open PySem PySem.Spec PyProof.Rows L2
/-- the empty text, k times -/
def rRepE : R2 := fun x y H Q => ∃ (z : Str) (k : Int), x = .str z ∧ y = .int k ∧ 2 ≤ k ∧ k ≤ 1000 ∧ z.length = 0 ∧ Q (.str z) H
theorem op_repE {X : Cx} : OpR X (binaryOp .Mult) rRepE := by
  intro pins s σ H x y v u Q I rx ry h
  obtain ⟨z, k, rfl, rfl, k2, k1, z1, q⟩ := h
  obtain ⟨t, rfl⟩ := rx
  obtain ⟨t', rfl⟩ := ry
  have hc : (k == 1 || z.length == 0) = true := by
    rw [Bool.or_eq_true, beq_iff_eq, beq_iff_eq]
    exact .inr z1
  refine P.mul_str (by rw [decide_eq_false (by omega), decide_eq_false (by omega)]; rfl) (fun _ _ => ?_) (fun _ _ => ?_) ?_
  · rw [z1]
    have e : (0 : Int) ≤ (2 ^ 63 - 1) / k := Int.ediv_nonneg (by decide) (by omega)
    first | omega | exact e
  · unfold Builtin.Str.tooLong
    have sl := sizeLine_eq
    rw [z1]
    first
      | (rw [decide_eq_false]; omega)
      | (simp; omega)
      | simp
  · rw [if_neg (by omega), if_pos hc]
    exact ⟨.str z, H, I, ⟨_, rfl⟩, q⟩
/-- a text, k times: what holds of its signs -/
def rRepP : R2 := fun x y H Q => ∃ (z : Str) (k : Int), x = .str z ∧ y = .int k ∧ 2 ≤ k ∧ k ≤ 1000 ∧ 1 ≤ z.length ∧ z.length ≤ 1000 ∧ ∀ r : Str, r.length = z.length * k.toNat → (∀ p : Nat → Bool, z.cps.all p = true → r.cps.all p = true) → Q (.str r) H
theorem op_repP {X : Cx} : OpR X (binaryOp .Mult) rRepP := by
  intro pins s σ H x y v u Q I rx ry h
  obtain ⟨z, k, rfl, rfl, k2, k1, z1, z2, q⟩ := h
  obtain ⟨t, rfl⟩ := rx
  obtain ⟨t', rfl⟩ := ry
  have hm : z.length * k.toNat ≤ 1000000 := Nat.le_trans (Nat.mul_le_mul z2 (show k.toNat ≤ 1000 by omega)) (by decide)
  have hc : (k == 1 || z.length == 0) = false := by
    rw [Bool.or_eq_false_iff, beq_eq_false_iff_ne, beq_eq_false_iff_ne]
    omega
  refine P.mul_str (by rw [decide_eq_false (by omega), decide_eq_false (by omega)]; rfl) (fun _ _ => ?_) (fun _ _ => ?_) ?_
  · have e : (1000 : Int) ≤ (2 ^ 63 - 1) / k := by
      rw [Int.le_ediv_iff_mul_le (by omega)]
      omega
    omega
  · unfold Builtin.Str.tooLong
    have sl := sizeLine_eq
    first
      | (rw [decide_eq_false]; omega)
      | (simp; omega)
  · rw [if_neg (by omega), if_neg (by rw [hc]; exact Bool.false_ne_true)]
    have hz : (⟨(List.replicate k.toNat z.cps).foldl (· ++ ·) #[]⟩ : Str).length = z.length * k.toNat := rep_size z.cps k.toNat
    refine ⟨?_, ⟨.str _, H, I.tok _, ⟨_, rfl⟩, q _ hz fun p ho => rep_all z.cps p ho k.toNat⟩⟩
    have sl := sizeLine_eq
    first
      | (rw [hz]; omega)
      | (show _ ≤ _; rw [hz]; omega)
/-- a text, empty or not, k times -/
def rRepW : R2 := fun x y H Q => ∃ (z : Str) (k : Int), x = .str z ∧ y = .int k ∧ 2 ≤ k ∧ k ≤ 1000 ∧ z.length ≤ 1000 ∧ ∀ r : Str, r.length = z.length * k.toNat → (∀ p : Nat → Bool, z.cps.all p = true → r.cps.all p = true) → Q (.str r) H
theorem op_repW {X : Cx} : OpR X (binaryOp .Mult) rRepW := by
  intro pins s σ H x y v u Q I rx ry h
  obtain ⟨z, k, rfl, rfl, k2, k1, z2, q⟩ := h
  by_cases e : z.length = 0
  · exact op_repE pins s σ H _ _ _ _ Q I rx ry ⟨z, k, rfl, rfl, k2, k1, e, q z (by rw [e, Nat.zero_mul]) fun _ z => z⟩
  · exact op_repP pins s σ H _ _ _ _ Q I rx ry ⟨z, k, rfl, rfl, k2, k1, by omega, z2, q⟩
end Sw
/-! Dicts: beside the empty one, copied. -/
namespace Sw
open PySem PySem.Spec PyProof.Rows L2
/-- a dict beside {} -/
def rNeNilD : R2 := fun x y H Q => ∃ p q kvs, x = .ref p ∧ y = .ref q ∧ Rd H p (.dK kvs) ∧ Rd H q (.dK []) ∧ Q (.bl (!decide (kvs = []))) H
theorem op_neNilD {X : Cx} (hu : X.A.units + 64 < cLine) : OpR X (compareOp .NotEq) rNeNilD := by
  intro pins s σ H x y v u Q I rx ry h
  obtain ⟨p, q, kvs, rfl, rfl, hp, hq, k⟩ := h
  cases rx
  cases ry
  obtain ⟨z1, l1, vs1, r1, d1⟩ := dk_rd I.hok hp
  obtain ⟨z2, l2, vs2, r2, d2⟩ := dk_rd I.hok hq
  cases r2
  have hl : kvs.length = vs1.length := Paired.length r1
  have e : (!((vs1.length == ([] : List (Key × Value)).length) && decide (kvs = []))) = !decide (kvs = []) := by
    cases kvs with
    | nil => simp at hl; simp [hl]
    | cons _ _ => simp
  refine PySem.W.keq_ne (knd := mixKind X.prog X.w) (r := decide (kvs = [])) l1 l2 d1 d2 (by omega) (fun z => ?_) ⟨.bl _, H, I, ?_, k⟩
  · have : kvs = [] := List.eq_nil_of_length_eq_zero (by rw [hl, z]; rfl)
    subst this
    cases r1
    exact .nil
  · rw [e]
    rfl
/-- dict(d): a copy, its place new, and not that of sys.modules -/
theorem call_dictN {X : Cx} : CallR X (.type "dict") (fun xs H Q => ∃ (a : Addr) (kvs : List (Key × V)), xs = [.ref a] ∧ Rd H a (.dK kvs) ∧ ∀ p, H p = none → p ≠ sysModules → Q (.ref p) (upd H p (.dK kvs))) := by
  intro pins s σ H xs us Q I r q
  obtain ⟨a, kvs, ex, hq, q⟩ := q
  refine thn (call_dictD pins s σ H xs us (fun v H' => ∃ p, v = .ref p ∧ H p = none ∧ H' = upd H p (.dK kvs)) I r ⟨a, kvs, ex, hq, fun p np => ⟨p, rfl, np, rfl⟩⟩) fun v s1 ⟨x, H1, I1, r1, p, e1, np, e2⟩ => ?_
  subst e1 e2
  obtain ⟨_, ne, _⟩ := dk_of I1.hok (upd_same (H := H) (a := p) (o := .dK kvs))
  exact ⟨.ref p, _, I1, r1, q p np (fun z => by rw [z] at ne; simp at ne)⟩
end Sw
/-! Menus of things made of one tuple: slices, sums, lists. -/
namespace Sw
open PySem PySem.Spec PyProof.Rows L2
/-- list(x): its place is new, and not that of sys.modules -/
theorem call_listN {X : Cx} : CallR X (.type "list") (fun xs H Q => ∃ p ys, xs = [.ref p] ∧ (SqL X.K H p ys ∨ SqT X.K H p ys) ∧ ∀ l, H l = none → l ≠ sysModules → Q (.ref l) (upd H l (.lst ys))) := by
  intro pins s σ H xs us Q I r h
  obtain ⟨p, ys, rfl, hq, q⟩ := h
  obtain ⟨u, rfl, rx⟩ := vals1 r
  cases rx
  have fin : ∀ (its : List Value), Vals ys its → ys.length ≤ sizeLine → ∀ (h' : Heap) (c' : Nat), (∀ b o', s.heap.get? b = some o' → h'.get? b = some o') →
      h'.get? s.heap.objs.size = some { cls := .type "list", dict := none, data := .seq its.toArray c', slots := #[] } → EP X pins σ Q (.ref s.heap.objs.size) { s with heap := h' } := fun its r' hz h' c' kp e =>
    ⟨.ref s.heap.objs.size, _, I.laid (t' := s.toks) kp (Nat.le_refl _) (show ObjOk X.prog X.w _ h' _ (.lst ys) from ⟨hz, its, c', r', e⟩), rfl, q _ (I.hok.fresh (Nat.le_refl _)) (Nat.ne_of_gt I.big)⟩
  rcases hq with hq | hq
  · obtain ⟨its, r', pl, hz⟩ := I.list hq
    have hlen := r'.length
    obtain ⟨o, ho, hc, n, hd⟩ := pl.isList
    exact call_list_seq p (.inl rfl) ho hc hd (fun h' c' kp e => fin its r' hz h' c' kp e) (by simp only [List.size_toArray] <;> omega)
  · obtain ⟨its, r', pl, hz⟩ := I.tuple hq
    have hlen := r'.length
    obtain ⟨o, ho, hc, n, hd⟩ := pl
    exact call_list_seq p (.inr rfl) ho hc hd (fun h' c' kp e => fin its r' hz h' c' kp e) (by simp only [List.size_toArray] <;> omega)
theorem call_dictPN {X : Cx} (hcalm : X.calm = true) : CallR X (.type "dict") (fun xs H Q => ∃ (a : Addr) (ps : List Addr) (kvs : List (Key × V)), xs = [.ref a] ∧ SqL X.K H a (ps.map V.ref) ∧ Paired (fun p kv => SqT X.K H p [kV kv.1, kv.2]) ps kvs ∧
    ∀ p, H p = none → p ≠ sysModules → Q (.ref p) (upd H p (.dK (mergeK [] kvs)))) := by
  intro pins s σ H xs us Q I r q
  obtain ⟨a, ps, kvs, ex, hq, hp, q⟩ := q
  refine thn (call_dictP hcalm pins s σ H xs us (fun v H' => ∃ p, v = .ref p ∧ H p = none ∧ H' = upd H p (.dK (mergeK [] kvs))) I r ⟨a, ps, kvs, ex, hq, hp, fun p np => ⟨p, rfl, np, rfl⟩⟩) fun v s1 ⟨x, H1, I1, r1, p, e1, np, e2⟩ => ?_
  subst e1 e2
  obtain ⟨_, ne, _⟩ := dk_of I1.hok (upd_same (H := H) (a := p) (o := .dK (mergeK [] kvs)))
  exact ⟨.ref p, _, I1, r1, q p np (fun z => by rw [z] at ne; simp at ne)⟩
/-- o[i] of a dict by values (in o[i] op= e) -/
def rGetD : R2 := fun o i H Q => ∃ (a : Addr) (v : V), o = .ref a ∧ DGet H a i (some v) ∧ Q v H
theorem get_dict {X : Cx} (hu : X.A.units + 1 < cLine) : PGet X rGetD := by
  intro pins s σ H o i ov iv Q I ro ri h
  obtain ⟨a, v, rfl, g, q⟩ := h
  cases ro
  exact d_getItem hu I g ri fun w' s3 I3 rw' => ⟨v, H, I3, rw', q⟩
/-- a slice of data -/
def sliD (ds : List PyData) (lo hi : Option Int) : List PyData := (ds.drop (HT.sIx ds.length 0 lo)).take (HT.sIx ds.length ds.length hi - HT.sIx ds.length 0 lo)
theorem dtA_cut {K : PySem.W.Frag} {mu : Addr → Prop} {H : Hp} {xs : List V} {ds : List PyData} {lo hi : Option Int} (h : DtA K mu H xs ds) : DtA K mu H (cutV xs lo hi) (sliD ds lo hi) := by
  unfold cutV sliD
  rw [h.length]
  exact (h.drop _).take _
theorem sliD_mem {ds : List PyData} {lo hi : Option Int} {d : PyData} (h : d ∈ sliD ds lo hi) : d ∈ ds := List.mem_of_mem_drop (List.mem_of_mem_take h)
theorem sliD_len (ds : List PyData) (lo hi : Option Int) : (sliD ds lo hi).length ≤ ds.length := by
  unfold sliD
  rw [List.length_take, List.length_drop]
  omega
theorem wtA_app : ∀ ds es : List PyData, PyData.weightAll (ds ++ es) = PyData.weightAll ds + PyData.weightAll es
  | [], es => by simp [PyData.weightAll]
  | d :: ds, es => by
    simp only [List.cons_append, PyData.weightAll, wtA_app ds es]
    omega
theorem wtA_take (ds : List PyData) (n : Nat) : PyData.weightAll (ds.take n) + PyData.weightAll (ds.drop n) = PyData.weightAll ds := by rw [← wtA_app, List.take_append_drop]
theorem sliD_wt (ds : List PyData) (lo hi : Option Int) : PyData.weightAll (sliD ds lo hi) ≤ PyData.weightAll ds := by
  unfold sliD
  have h1 := wtA_take (ds.drop (HT.sIx ds.length 0 lo)) (HT.sIx ds.length ds.length hi - HT.sIx ds.length 0 lo)
  have h2 := wtA_take ds (HT.sIx ds.length 0 lo)
  omega
theorem wtA_rev (ds : List PyData) : PyData.weightAll ds.reverse = PyData.weightAll ds := by
  induction ds with
  | nil => rfl
  | cons d ds ih =>
    rw [List.reverse_cons, wtA_app, ih]
    simp only [PyData.weightAll]
    omega
theorem wtA_split {ds : List PyData} {i : Nat} {e : PyData} (h : ds[i]? = some e) : PyData.weightAll ds = PyData.weightAll (ds.take i) + (e.weight + 1) + PyData.weightAll (ds.drop (i + 1)) := by
  obtain ⟨hi, he⟩ := List.getElem?_eq_some_iff.mp h
  have z := wtA_take ds i
  rw [List.drop_eq_getElem_cons hi, he] at z
  simp only [PyData.weightAll] at z
  omega
theorem dpA_le {n : Nat} : ∀ {ds : List PyData}, PyData.depthAll ds ≤ n ↔ ∀ d ∈ ds, d.depth ≤ n
  | [] => by simp [PyData.depthAll]
  | d :: ds => by
    simp only [PyData.depthAll, List.mem_cons, forall_eq_or_imp, ← dpA_le (ds := ds)]
    omega
theorem cutV_upto (xs : List V) (n : Nat) : cutV xs none (some (n : Int)) = xs.take n := by
  unfold cutV
  rw [HT.sIx_none, HT.sIx_nat, List.drop_zero, Nat.sub_zero]
  by_cases h : n ≤ xs.length
  · rw [Nat.min_eq_left h]
  · rw [Nat.min_eq_right (by omega), List.take_length, List.take_of_length_le (by omega)]
theorem cutV_fromN (xs : List V) (n : Nat) : cutV xs (some (n : Int)) none = xs.drop n := by
  unfold cutV
  rw [HT.sIx_none, HT.sIx_nat]
  by_cases h : n ≤ xs.length
  · rw [Nat.min_eq_left h]
    exact List.take_of_length_le (by rw [List.length_drop]; omega)
  · rw [List.drop_eq_nil_of_le (by omega), List.drop_eq_nil_of_le (by omega), List.take_nil]
theorem sl_use {K : PySem.W.Frag} {H : Hp} {r : Addr} {xs : List V} {lo hi : Option Int} {Q : VK} (h : SqT K H r xs) (k : ∀ p H', Same H H' → SqT K H' p (cutV xs lo hi) → Q (.ref p) H') : rSlA K (.ref r) lo hi H Q := by
  refine ⟨r, xs, rfl, h, fun z => ?_, fun _ p np => k p _ (same_upd np) (.of upd_same)⟩
  refine k r H (.refl H) ?_
  have : cutV xs lo hi = xs := by
    unfold cutV
    rw [z.1, z.2, List.drop_zero, Nat.sub_zero, List.take_length]
  rw [this]
  exact h
theorem cat_use {K : PySem.W.Frag} {H : Hp} {a c : Addr} {xs ys : List V} {Q : VK} (h1 : SqT K H a xs) (h2 : SqT K H c ys) (hz : xs.length + ys.length ≤ sizeLine) (k : ∀ p H', Same H H' → SqT K H' p (xs ++ ys) → Q (.ref p) H') : rCatA K (.ref a) (.ref c) H Q := by
  refine ⟨a, c, xs, ys, rfl, rfl, h1, h2, hz, fun e => ?_, fun _ e => ?_, fun _ _ p np => k p _ (same_upd np) (.of upd_same)⟩
  · subst e
    exact k c H (.refl H) h2
  · subst e
    refine k a H (.refl H) ?_
    rw [List.append_nil]
    exact h1
theorem sq_fut {K : PySem.W.Frag} {mu : Addr → Prop} {H H' : Hp} {a : Addr} {xs : List V} (h : SqT K H a xs) (f : Fut mu H H') : SqT K H' a xs := by
  rcases h with (r | ⟨o, r⟩) | r
  · exact .inl (.inl (f _ _ r (.inr (.inl ⟨_, rfl⟩))))
  · exact .inl (.inr ⟨o, f _ _ r (.inr (.inr ⟨_, _, rfl⟩))⟩)
  · exact .inr r
theorem dt_tupS {K : PySem.W.Frag} {mu : Addr → Prop} {H : Hp} {p : Addr} {xs : List V} {ds : List PyData} (h : SqT K H p xs) (hA : DtA K mu H xs ds) : Dt K mu H (.ref p) (.tuple ds) := by
  rcases h with h | h
  · exact .tup h hA
  · exact .tupK h hA
theorem dtA_revS {K : PySem.W.Frag} {mu : Addr → Prop} {H : Hp} : ∀ {vs : List V} {ds : List PyData}, DtA K mu H vs ds → DtA K mu H vs.reverse ds.reverse
  | _, _, .nil => .nil
  | _, _, .cons h t => by
    rw [List.reverse_cons, List.reverse_cons]
    exact (dtA_revS t).append (.cons h .nil)
theorem tup_new {K : PySem.W.Frag} {mu : Addr → Prop} {H : Hp} {p : Addr} {xs : List V} {ds : List PyData} (np : H p = none) (h : DtA K mu H xs ds) : Dt K mu (upd H p (.tup xs)) (.ref p) (.tuple ds) := .tup (.of upd_same) (h.fut (.of_same (same_upd np)))
theorem dt_on {K : PySem.W.Frag} {mu : Addr → Prop} {H : Hp} {p : Addr} {o : HO} {v : V} {d : PyData} (np : H p = none) (h : Dt K mu H v d) : Dt K mu (upd H p o) v d := h.fut (.of_same (same_upd np))
theorem dtA_rep {K : PySem.W.Frag} {mu : Addr → Prop} {H : Hp} {v : V} {d : PyData} (h : Dt K mu H v d) : ∀ n : Nat, DtA K mu H (List.replicate n [v]).flatten (List.replicate n d)
  | 0 => .nil
  | n + 1 => by
    rw [List.replicate_succ, List.replicate_succ, List.flatten_cons]
    exact .cons h (dtA_rep h n)
theorem sz {xs : List V} (h : xs.length ≤ 1000) : xs.length ≤ sizeLine := Nat.le_of_lt (small1000 h)
theorem bag_ne {b p : Addr} {H : Hp} (hb : BagAt H b) (np : H p = none) : p ≠ b := fun z => by
  obtain ⟨_, _, _, _, _, q, _⟩ := hb
  rw [z, q] at np
  cases np
theorem fut_atD {H : Hp} {a : Addr} {kvs : List (Key × V)} {o' : HO} (ha : H a = some (.dK kvs)) : Fut (fun b => b = a) H (upd H a o') := fun c o e z => by
  by_cases h : c = a
  · subst h
    rw [ha] at e
    cases e
    rcases z with z | ⟨_, z⟩ | ⟨_, _, z⟩
    · exact absurd rfl z
    · cases z
    · cases z
  · rw [upd_ne h]
    exact e
theorem sIx_last (n : Nat) : HT.sIx n 0 (some (-1)) = ((-1 : Int) + (n : Int)).toNat := by
  show (if (-1 : Int) < 0 then ((-1 : Int) + (n : Int)).toNat else min (-1 : Int).toNat n) = _
  rw [if_pos (by decide)]
section
variable {K : PySem.W.Frag} {b : Addr} {mu : Addr → Prop} {σ : L2.St} {H0 : Hp} {te : TE} {ta tr : TA} {d : PyData} {ds : List PyData} {D : PyData → Prop} {n : Nat}
variable (K b mu σ H0) in
/-- the expression gives a datum of which D holds -/
def Gn (te : TE) (D : PyData → Prop) : Prop := ∀ H, Rel b H0 H → MuOk mu H → ∀ Q : VK, (∀ v H' d, D d → Rel b H H' → Dt K mu H' v d → Q v H') → te σ H Q
variable (K b mu σ H0) in
def GnA (ta : TA) (D : PyData → Prop) (n : Nat) : Prop := ∀ H, Rel b H0 H → MuOk mu H → ∀ Q : List V → Hp → Prop, (∀ vs H' ds, ds.length = n → (∀ d ∈ ds, D d) → Rel b H H' → DtA K mu H' vs ds → Q vs H') → ta σ H Q
theorem Ge.gn (h : Ge K b mu σ H0 te d) (hd : D d) : Gn K b mu σ H0 te D := fun H hb m Q q => h H hb m Q fun v H' r e => q v H' d hd r e
theorem Gv.gn (h : Gv K b mu σ H0 te D) : Gn K b mu σ H0 te D := fun H hb m Q q => h H hb m Q fun v H' d hd r e _ => q v H' d hd r e
theorem gnA_nil : GnA K b mu σ H0 tNil D 0 := fun H hb _ _ q => q _ H [] rfl (fun _ z => nomatch z) (.refl hb.bag) .nil
theorem gnA_cons (hm : mu b) (h : Gn K b mu σ H0 te D) (t : GnA K b mu σ H0 tr D n) : GnA K b mu σ H0 (tCons te tr) D (n + 1) := fun H hb m _ q =>
  h H hb m _ fun v H1 d hd r1 e1 => t H1 (hb.trans r1) (m.rel r1) _ fun vs H2 ds hl hds r2 e2 => q _ H2 (d :: ds) (by rw [List.length_cons, hl]) (fun x z => by
    rcases List.mem_cons.mp z with rfl | z
    · exact hd
    · exact hds x z) (r1.trans r2) (.cons (e1.fut (r2.fut hm r1.bag)) e2)
theorem gn_var {i : Nat} {v : V} (hm : mu b) (hb : BagAt H0 b) (hσ : σ[i]? = some (some v)) (h : Dt K mu H0 v d) (hd : D d) : Gn K b mu σ H0 (tVar i) D := fun H r m Q q =>
  ⟨v, hσ, q v H d hd (.refl r.bag) (h.fut (r.fut hm hb))⟩
/-- a menu is asked -/
theorem gn_some {i : Nat} (hm : mu b) (hσ : σ[i]? = some (some (.ref b))) (h : GnA K b mu σ H0 ta D n) (h0 : 0 < n) (h1 : n ≤ 1000) :
    Gn K b mu σ H0 (tCall spSome [] E0 (tCons (tVar i) (tCons (tLst ta) tNil))) D := fun H hb m Q q => by
  refine ⟨_, hσ, h H hb m _ fun vs H1 ds hl hD r e => ?_⟩
  have hv : vs.length = n := e.length.trans hl
  refine ⟨Nat.le_of_lt (small1000 (by omega)), fun p np => ?_⟩
  have nb := bag_ne r.bag np
  refine ⟨b, p, vs, rfl, r.bag.same (same_upd np), nb, upd_same, by omega, by omega, fun j v H2 hj r2 => ?_⟩
  obtain ⟨d, hd, ed⟩ := e.get hj
  have r3 := r.same (same_upd (o := .lst vs) np)
  exact q v H2 d (hD d (List.mem_of_getElem? hd)) (r3.trans r2) ((ed.fut (.of_same (same_upd np))).fut (r2.fut hm r3.bag))
variable (K b σ H0) in
/-- the expression gives a tuple of these -/
def Gs (te : TE) (ys : List V) : Prop := ∀ H, Rel b H0 H → ∀ Q : VK, (∀ p H', Same H H' → SqT K H' p ys → Q (.ref p) H') → te σ H Q
variable {xs ys : List V} {te2 : TE}
theorem gs_var {i : Nat} {a : Addr} (hb : BagAt H0 b) (hσ : σ[i]? = some (some (.ref a))) (h : SqT K H0 a xs) : Gs K b σ H0 (tVar i) xs := fun H r Q q =>
  ⟨_, hσ, q a H (.refl H) (sq_fut h (r.fut (mu := fun z => z = b) rfl hb))⟩
variable (σ) in
/-- a bound of a slice, written -/
def Gp (t : TO) (o : Option Int) : Prop := ∀ (H : Hp) (Q : Option Int → Hp → Prop), Q o H → t σ H Q
theorem gp_none : Gp σ tNoPart none := fun _ _ q => q
theorem gp_int {i : Int} : Gp σ (tPart (tC (.int i))) (some i) := fun _ _ q => ⟨i, rfl, q⟩
theorem gp_neg {i : Int} : Gp σ (tPart (tUn (rU fun i => .int (-i)) (tC (.int i)))) (some (-i)) := fun _ _ q => ⟨i, rfl, _, rfl, q⟩
theorem gp_var {j : Nat} {i : Int} (hσ : σ[j]? = some (some (.int i))) : Gp σ (tPart (tVar j)) (some i) := fun _ _ q => ⟨_, hσ, i, rfl, q⟩
theorem gs_sl {tl th : TO} {lo hi : Option Int} (h : Gs K b σ H0 te xs) (hl : Gp σ tl lo) (hh : Gp σ th hi) : Gs K b σ H0 (tSl (rSlA K) te tl th) (cutV xs lo hi) := fun H r Q q =>
  h H r _ fun p H1 s1 h1 => hl _ _ (hh _ _ (sl_use h1 fun p2 H2 s2 h2 => q p2 H2 (s1.trans s2) h2))
theorem gs_cat (h : Gs K b σ H0 te xs) (h2 : Gs K b σ H0 te2 ys) (hz : xs.length + ys.length ≤ 1000000) : Gs K b σ H0 (tOp (rCatA K) te te2) (xs ++ ys) := fun H r Q q =>
  h H r _ fun p H1 s1 q1 => h2 H1 (r.same s1) _ fun p2 H2 s2 q2 => cat_use (s2.seqT q1) q2 (by rw [sizeLine_eq]; omega) fun p3 H3 s3 q3 => q p3 H3 ((s1.trans s2).trans s3) q3
theorem gs_rev (h : Gs K b σ H0 te xs) : Gs K b σ H0 (tRevT K te) xs.reverse := fun H r Q q =>
  h H r _ fun p H1 s1 q1 => ⟨p, xs, rfl, q1, fun p2 n2 => q p2 _ (s1.trans (same_upd n2)) (.of upd_same)⟩
theorem gs_tup1 {v : V} (h : ∀ (H : Hp) (Q : VK), Q v H → te σ H Q) : Gs K b σ H0 (tTup (tCons te tNil)) [v] := fun H r Q q =>
  h H _ ⟨Nat.le_of_lt (small1000 (show 1 ≤ 1000 by decide)), fun p np => q p _ (same_upd np) (.of upd_same)⟩
theorem Gs.gn (hm : mu b) (hb : BagAt H0 b) (h : Gs K b σ H0 te ys) (e : DtA K mu H0 ys ds) (hd : D (.tuple ds)) : Gn K b mu σ H0 te D := fun H r m Q q =>
  h H r _ fun p H1 s1 h1 => q _ H1 _ hd (Rel.of_same r.bag s1) (dt_tupS h1 ((e.fut (r.fut hm hb)).fut (.of_same s1)))
/-- list(x) of a tuple in a menu -/
theorem Gs.gnL (hm : mu b) (hb : BagAt H0 b) (h : Gs K b σ H0 te ys) (e : DtA K mu H0 ys ds) (hd : D (.list ds)) : Gn K b mu σ H0 (tCB (fun xs H Q => ∃ p ys, xs = [.ref p] ∧ (SqL K H p ys ∨ SqT K H p ys) ∧ ∀ l, H l = none → l ≠ sysModules → Q (.ref l) (upd H l (.lst ys))) (tCons te tNil)) D := fun H r m Q q =>
  h H r _ fun p H1 s1 h1 => ⟨p, ys, rfl, .inr h1, fun l nl ns => q _ _ _ hd ((Rel.of_same r.bag s1).same (same_upd nl)) (.lst ((m.same s1).new nl ns) (.inl upd_same) (((e.fut (r.fut hm hb)).fut (.of_same s1)).fut (.of_same (same_upd nl))))⟩
end
end Sw
/-! Tuples and texts some times over, once and never too. -/
namespace Sw
open PySem PySem.Spec PyProof.Rows L2
theorem tuple_mul1 (l : Addr) (items : Array Value) (n : Nat) (dd : Option Addr) (sl : Array (Option Value)) (u : Tok) :
    Meets (Builtin.«tuple.__mul__» ⟨[.ref l, .int 1 u], []⟩) (fun _ R s => s.heap.get? l = some { cls := .type "tuple", dict := dd, data := .seq items n, slots := sl } ∧
      R (.ok (.ret (Value.ref l))) s) :=
  .of_wp fun prog w A R s h => by
    obtain ⟨hp, g, d, tk, os⟩ := s
    obtain ⟨hl, h⟩ := h
    have f1 := AutoSeq1.idx_int
    have c1 : (items.isEmpty || (1 : Int) == 1) = true := by simp
    have hT : (⟨hp, g, d, tk, os⟩ : Shared).TypeIs (.ref l) "tuple" := ⟨_, hl, rfl⟩
    wp_walk using wpAny_loadPart' hl
    repeat (first
      | (refine wpAny_ite_true (decide_eq_true (by exact c1)) ?_; wp_walk using wpAny_loadPart' hl)
      | (refine wpAny_ite_false (by decide) ?_; wp_walk using wpAny_loadPart' hl))
    exact ⟨_, rfl, h⟩
theorem tuple_mul0 (l : Addr) (items : Array Value) (n : Nat) (dd : Option Addr) (sl : Array (Option Value)) (u : Tok) (hi : items.isEmpty = false) :
    Meets (Builtin.«tuple.__mul__» ⟨[.ref l, .int 0 u], []⟩) (fun _ R s => s.heap.get? l = some { cls := .type "tuple", dict := dd, data := .seq items n, slots := sl } ∧
      R (.ok (.ret (Value.ref s.heap.objs.size))) { s with heap := s.heap.push { cls := Value.type "tuple", data := Data.seq #[] }, toks := s.toks }) :=
  .of_wp fun prog w A R s h => by
    obtain ⟨hp, g, d, tk, os⟩ := s
    obtain ⟨hl, h⟩ := h
    have f1 := AutoSeq1.idx_int
    have c1 : (items.isEmpty || (0 : Int) == 1) = false := by rw [hi]; decide
    wp_walk using wpAny_loadPart' hl
    repeat (first
      | (refine wpAny_ite_false (decide_eq_false (by rw [c1]; exact Bool.false_ne_true)) ?_; wp_walk using wpAny_loadPart' hl)
      | (refine wpAny_ite_false (by decide) ?_; wp_walk using wpAny_loadPart' hl)
      | (refine wpAny_ite_true (by simp) ?_; wp_walk using wpAny_loadPart' hl))
    exact ⟨_, rfl, h⟩
/-- a tuple, k times -/
def rRepU (K : PySem.W.Frag) : R2 := fun x y H Q => ∃ l k xs, x = .ref l ∧ y = .int k ∧ SqT K H l xs ∧ xs ≠ [] ∧ 0 ≤ k ∧ k ≤ 1000 ∧ xs.length ≤ 1000 ∧ ∀ p H', Same H H' → SqT K H' p (List.replicate k.toNat xs).flatten → Q (.ref p) H'
theorem op_repU {X : Cx} : OpR X (binaryOp .Mult) (rRepU X.K) := by
  intro pins s σ H x y v u Q I rx ry h
  obtain ⟨l, k, xs, rfl, rfl, hT, hne, h1, h2, hz, q⟩ := h
  by_cases e2 : 2 ≤ k
  · exact op_repT pins s σ H _ _ _ _ Q I rx ry ⟨l, k, xs, rfl, rfl, hT, hne, e2, h2, hz, fun p np => q p _ (same_upd np) (.of upd_same)⟩
  cases rx
  obtain ⟨t, rfl⟩ := ry
  obtain ⟨its, r, ⟨⟨cls, dd, data, sl⟩, ho, hc, n, hd⟩, hs⟩ := I.tuple hT
  simp only at hc hd
  subst hc hd
  have hle : its.length = xs.length := r.length.symm
  have hn : its ≠ [] := fun e => hne (by
    rw [e] at hle
    exact List.eq_nil_of_length_eq_zero hle.symm)
  have hi : its.toArray.isEmpty = false := by
    cases its with
    | nil => exact absurd rfl hn
    | cons a b => rfl
  rcases (show k = 0 ∨ k = 1 by omega) with rfl | rfl
  · refine wpAny_binaryOp_repeat_ref (T := "tuple") (U := "int") (by decide) ⟨_, ho, rfl⟩ (fun s' => typeIs_int s' 0 t) noFill_tuple_mul F.fills_int_mul F.slot_int_rmul repeat_tuple F.slot_int_index.lookup
      (call_meets F.slot_int_rmul (typeIs_int s 0 t) F.entry_int_rmul (F.args_int_rmul_2 _ _) (int_rmul_tuple 0 t l its.toArray n dd sl)
        ⟨ho, rfl, ⟨_, ho, rfl⟩, call_meets F.slot_tuple_mul ⟨_, ho, rfl⟩ F.entry_tuple_mul (F.args_tuple_mul_2 _ _) (tuple_mul0 l its.toArray n dd sl t hi) ⟨ho, ?_⟩⟩)
    have nf : H s.heap.objs.size = none := I.hok.fresh (Nat.le_refl _)
    refine ⟨.ref s.heap.objs.size, _, I.laid (t' := s.toks) (o := .tup []) (fun b ob q => Heap.get?_push_of_some _ q) (Nat.le_refl _) ?_, rfl, q _ _ (same_upd nf) (.of upd_same)⟩
    exact ⟨Nat.zero_le _, [], .nil, IsTup.new _ _⟩
  · refine wpAny_binaryOp_repeat_ref (T := "tuple") (U := "int") (by decide) ⟨_, ho, rfl⟩ (fun s' => typeIs_int s' 1 t) noFill_tuple_mul F.fills_int_mul F.slot_int_rmul repeat_tuple F.slot_int_index.lookup
      (call_meets F.slot_int_rmul (typeIs_int s 1 t) F.entry_int_rmul (F.args_int_rmul_2 _ _) (int_rmul_tuple 1 t l its.toArray n dd sl)
        ⟨ho, rfl, ⟨_, ho, rfl⟩, call_meets F.slot_tuple_mul ⟨_, ho, rfl⟩ F.entry_tuple_mul (F.args_tuple_mul_2 _ _) (tuple_mul1 l its.toArray n dd sl t) ⟨ho, ?_⟩⟩)
    refine ⟨.ref l, H, I, rfl, q l H (.refl H) ?_⟩
    rw [show (List.replicate (1 : Int).toNat xs).flatten = xs by simp]
    exact hT
/-- a text, once or more -/
def rRepZ : R2 := fun x y H Q => ∃ (z : Str) (k : Int), x = .str z ∧ y = .int k ∧ 1 ≤ k ∧ k ≤ 1000 ∧ z.length ≤ 1000 ∧ ∀ r : Str, r.length = z.length * k.toNat → (∀ p : Nat → Bool, z.cps.all p = true → r.cps.all p = true) → Q (.str r) H
theorem op_repZ {X : Cx} : OpR X (binaryOp .Mult) rRepZ := by
  intro pins s σ H x y v u Q I rx ry h
  obtain ⟨z, k, rfl, rfl, k2, k1, z2, q⟩ := h
  by_cases e : 2 ≤ k
  · exact op_repW pins s σ H _ _ _ _ Q I rx ry ⟨z, k, rfl, rfl, e, k1, z2, q⟩
  obtain ⟨t, rfl⟩ := rx
  obtain ⟨t', rfl⟩ := ry
  obtain rfl : k = 1 := by omega
  refine P.mul_str (by rw [decide_eq_false (by omega), decide_eq_false (by omega)]; rfl) (fun _ _ => ?_) (fun _ _ => ?_) ?_
  · have e : (1000 : Int) ≤ (2 ^ 63 - 1) / 1 := by decide
    omega
  · unfold Builtin.Str.tooLong
    have sl := sizeLine_eq
    first
      | (rw [decide_eq_false]; omega)
      | (simp; omega)
  · rw [if_neg (by omega), if_pos (by simp)]
    exact ⟨.str z, H, I, ⟨_, rfl⟩, q z (by simp) fun _ h => h⟩
end Sw
namespace Sw
open PySem PySem.Spec PyProof.Rows L2
section
variable {P : Program} {w : World} {A : Around} {E : Value → Shared → Prop} {s : Shared}
theorem collect_tupT {l : Addr} {vs : List Value} {Q : List Value → Shared → Prop} (hl : s.heap.IsTuple l vs.toArray) (hsz : vs.length ≤ sizeLine)
    (h : Q vs { s with heap := (s.heap.push (seqObj "list" #[] 0)).update s.heap.objs.size (Obj.mapSeq (· ++ vs.toArray)) }) :
    wpAny (model P w) A (collect (.ref l)) Q E s := by
  obtain ⟨o, ho, hc, n, hd⟩ := id hl
  unfold collect
  refine wpAny_bind (wpAny_runValue (codeAny_builtin entry_proto_collect' ?_))
  show wpAny _ _ (do again (.builtin "list.__iadd__" ⟨[← newList [], .ref l], []⟩)) _ _ s
  refine wpAny_bind (wpAny_newList (wpAny_pure ⟨Code.quiet_builtin _ (by decide +kernel), codeAny_builtin entry_list_iadd' ?_⟩))
  show wpAny _ _ (Builtin.List.listExtendWith (.ref s.heap.objs.size) (.ref l) (.ref s.heap.objs.size)) _ _ { s with heap := s.heap.push (seqObj "list" #[] 0) }
  unfold Builtin.List.listExtendWith
  have ho' : (s.heap.push (seqObj "list" #[] 0)).get? l = some o := Heap.get?_push_of_some _ ho
  refine wpAny_bind (wpAny_typeOf (T := "tuple") ⟨o, ho', hc⟩ ?_)
  have ht : (Value.type "tuple" == Value.type "tuple") = true := by rfl
  rw [if_pos (by rw [ht]; simp)]
  refine wpAny_bind (listItems_at ho' hd ?_)
  refine wpAny_bind (listItems_at (xs := #[]) (n := 0) (Heap.get?_push_size _ rfl) rfl ?_)
  rw [if_neg (by simp)]
  refine wpAny_bind (listUpdate_at (xs := #[]) (n := 0) (Heap.get?_push_size _ rfl) rfl ?_ (Nat.zero_le _) (by show (#[] ++ vs.toArray).size ≤ sizeLine + 1; simp only [Array.size_append, List.size_toArray, List.length_nil]; omega))
  refine wpAny_pure ?_
  show wpAny (model P w) A (do
      let o ← load s.heap.objs.size
      match o.data with
      | .seq xs _ => pure xs.toList
      | _ => unsupported "internal:collect") Q E { s with heap := (s.heap.push (seqObj "list" #[] 0)).update s.heap.objs.size (Obj.mapSeq (· ++ vs.toArray)) }
  refine wpAny_bind (wpAny_load (get?_update_seq (Heap.get?_push_size _ rfl) _) ?_)
  show wpAny _ _ (pure ((#[] : Array Value) ++ vs.toArray).toList) Q E _
  rw [show ((#[] : Array Value) ++ vs.toArray).toList = vs by simp]
  exact wpAny_pure h
theorem sorted_strsT {l : Addr} {vs : List Value} {ss : List Str} {Q : Value → Shared → Prop} (hl : s.heap.IsTuple l vs.toArray) (hS : StrsAre vs ss) (hL : vs.length ≤ sizeLine)
    (h : ∀ (out : Array Value) (ss' : List Str), StrsAre out.toList ss' → ss'.Perm ss → sortedS ss' = true → Q (.ref (s.heap.objs.size + 1)) { s with heap := sortedAll s.heap vs out }) :
    wpAny (model P w) A (call (.builtin "sorted") [.ref l]) Q E s := by
  refine Calls.call_function_entry kind_sorted plain_sorted entry_sorted (args_sorted1 _) ?_
  unfold Builtin.«sorted»
  refine wpAny_bind (m := checkCount "sorted" 1 1 _) (wpAny_pure ?_)
  refine wpAny_bind (collect_tupT hl hL ?_)
  refine wpAny_bind (wpAny_newList ?_)
  have hsz : ((s.heap.push (seqObj "list" #[] 0)).update s.heap.objs.size (Obj.mapSeq (· ++ vs.toArray))).objs.size = s.heap.objs.size + 1 := by
    rw [Heap.size_update, size_push']
  have hoL : (((s.heap.push (seqObj "list" #[] 0)).update s.heap.objs.size (Obj.mapSeq (· ++ vs.toArray))).push (seqObj "list" vs.toArray 0)).get? (s.heap.objs.size + 1) = some (seqObj "list" vs.toArray 0) := by
    rw [← hsz]; exact Heap.get?_push_size _ rfl
  show wpAny _ _ _ _ _ { s with heap := ((s.heap.push (seqObj "list" #[] 0)).update s.heap.objs.size (Obj.mapSeq (· ++ vs.toArray))).push (seqObj "list" vs.toArray 0) }
  rw [hsz]
  refine wpAny_bind (wpAny_holding (wpAny_call_entry slot_list_sort ⟨_, hoL, rfl⟩ entry_list_sort (list_sort_treeKAny strKind_oneLt hoL hS.keysOf (fun v₁ v₂ rest e => keyKind_strs (by rw [← e]; exact hS)) hL fun st' hp hs => ⟨_, rfl, ?_⟩) (args_list_sort _)))
  obtain ⟨ss', h1, h2, h3⟩ := sorted_out_str hS hp hs
  exact wpAny_pure ⟨_, rfl, h _ ss' h1 h2 h3⟩
theorem call_setXT {l : Addr} {items : Array Value} (ns : List Str) {Q : Value → Shared → Prop} (hh : A.handled = none) (hl : s.heap.IsTuple l items) (hit : StrsAre items.toList ns) (hb : ns.length + 1 < scanBound)
    (h : ∀ (h' : Heap) (tk : Nat) (m : List Str), SetX P w h' s.heap.objs.size m → m.length ≤ ns.length → (∀ z, z ∈ m ↔ z ∈ ns) → (∀ b o, s.heap.get? b = some o → h'.get? b = some o) → Q (.ref s.heap.objs.size) { s with heap := h', toks := tk }) :
    wpAny (model P w) A (call (.type "set") [.ref l]) Q E s := by
  have hisz : items.size = ns.length := by
    have q := StrsAre.len_eq hit
    rw [Array.length_toList] at q
    exact q
  obtain ⟨c, tl, hmro⟩ := F.called_set.mro
  have hmade := F.called_set.made
  have hsub := F.called_set.sub
  have h1 := F.called_set.notType
  have h2 := F.called_set.canCreate
  have hct := F.typeCall_set_1 (.ref l)
  have hS : (s.heap.push (nSet w)).get? s.heap.objs.size = some (nSet w) := Heap.get?_push_size _ rfl
  have hT : Shared.TypeIs { s with heap := s.heap.push (nSet w) } (.ref s.heap.objs.size) "set" := ⟨_, hS, rfl⟩
  have hz1 : (s.heap.push (nSet w)).objs.size = s.heap.objs.size + 1 := Heap.size_push ..
  have hli := F.called_set.init.lookup
  have hbi := F.called_set.init.bind (.ref s.heap.objs.size)
  refine wpAny_call (codeAny_of_tree ?_)
  show wpAny _ _ (callAny (.type "set") _) _ _ _
  refine wpAny_pure ⟨Code.quiet_builtin _ (by decide +kernel), codeAny_builtin F.entry_type_call ?_⟩
  rw [Around.under_plain (weight_type_call_type "set" [.ref l] []) rfl]
  repeat (any_goals (first | assumption | wp_step))
  refine codeAny_mono (code_set_led1 (.ref l) (E := E) (Q₁ := fun obj s₁ => obj = .ref s.heap.objs.size ∧ s₁ = { s with heap := s.heap.push (nSet w) }) ⟨rfl, rfl⟩) fun r s₁ hr => ?_
  cases r with
  | error e => exact hr
  | ok fl =>
    cases fl with
    | ret obj =>
      obtain ⟨rfl, rfl⟩ := hr
      repeat (any_goals (first | assumption | wp_step))
      refine codeAny_mono (codeAny_call_builtin (R := wants (fun r s₂ => r = .none ∧ ∃ h' tk m, s₂ = { s with heap := h', toks := tk } ∧ SetX P w h' s.heap.objs.size m ∧ m.length ≤ ns.length ∧ (∀ z, z ∈ m ↔ z ∈ ns) ∧
          (∀ b o, s.heap.get? b = some o → h'.get? b = some o)) E) F.called_set.init.plain F.entry_set_init (check_set_init_1 hT ?_)) fun r₂ s₂ hr₂ => ?_
      · obtain ⟨ol, hol, hcl, nl, hdl⟩ := hl
        obtain ⟨ocls, odict, odata, oslots⟩ := ol
        simp only at hcl hdl
        subst hcl; subst hdl
        have hol' : (s.heap.push (nSet w)).get? l = some { cls := .type "tuple", dict := odict, data := .seq items nl, slots := oslots } := Heap.get?_push_of_some _ hol
        have hsls := F.sub_tuple_set
        have hslf := F.sub_tuple_frozenset
        have hne : (Value.type "tuple" == Value.type "dict") = false := by decide
        have hl1 : (s.heap.push (nSet w)).IsTuple l items := ⟨_, hol', rfl, nl, rfl⟩
        have hlS : l < s.heap.objs.size := Heap.lt_size hol
        have hh3 : A.in1.in1.in1.handled = none := by simp [hh]
        have hneI : l ≠ (s.heap.push (nSet w)).objs.size := by rw [hz1]; exact Nat.ne_of_lt (Nat.lt_succ_of_lt hlS)
        have hSf : s.heap.objs.size ∉ [(s.heap.push (nSet w)).objs.size, l] := by
          rw [hz1]; simp only [List.mem_cons, List.not_mem_nil, or_false, not_or]; exact ⟨Nat.ne_of_lt (Nat.lt_succ_self _), Nat.ne_of_gt hlS⟩
        have hval : ∀ (i : Nat) (v : Value), items[i]? = some v → ∃ k t, ns[i]? = some k ∧ v = .str k t := fun i v hv => by
          have hi : i < ns.length := by rw [← hisz]; exact (Array.getElem?_eq_some_iff.mp hv).1
          obtain ⟨t, e⟩ := SS.strs_at hit i v (by rw [Array.getElem?_toList]; exact hv)
          refine ⟨ns[i], t, List.getElem?_eq_getElem hi, ?_⟩
          rw [e, List.getD_eq_getElem?_getD, List.getElem?_eq_getElem hi] <;> rfl
        unfold Builtin.«set.__init__» noKeywords Builtin.Frozenset.updateFrom
        generalize hPI : pyIter = PI
        wp_walk
        subst hPI
        refine wpAny_pyIter_tuple hl1 ?_
        refine wpAny_bind (wpAny_runValue ?_)
        refine set_update_txs ((Walks.tuple hh3 _ l hneI items).toS) s.heap.objs.size
          hSf ns hisz hb hval (items.size - 0) 0 _ (by omega) (Nat.zero_le _)
          ⟨⟨_, Heap.get?_push_size _ rfl, rfl, rfl⟩, (hl1.push _)⟩ ⟨[], Nat.le_refl 0, fun z => Iff.rfl, setX_fresh (Heap.get?_push_of_some _ hS)⟩ fun s' m hm hc' hq' hS' => ?_
        obtain ⟨h', g2, d', tk', os'⟩ := s'
        have eg : g2 = s.gens := hm.gens
        have ed : d' = s.drawn := hm.drawn
        have eo : os' = s.os := hm.os
        subst eg; subst ed; subst eo
        show wpAny _ _ _ _ _ _
        refine wpAny_pure ?_
        show wpAny _ _ (ret Value.none) _ _ _
        rw [hisz] at hc'
        refine wpAny_pure ⟨rfl, h', tk', m, rfl, hS', hc', hq', fun b o e => ?_⟩
        have hb0 : b < s.heap.objs.size := Heap.lt_size e
        refine hm.heap b o ?_ (Heap.get?_push_of_some _ (Heap.get?_push_of_some _ e))
        rw [hz1]; simp only [List.mem_cons, List.not_mem_nil, or_false, not_or]; exact ⟨Nat.ne_of_lt hb0, Nat.ne_of_lt (Nat.lt_succ_of_lt hb0)⟩
      · cases r₂ with
        | error e => exact hr₂
        | ok fl₂ =>
          cases fl₂ with
          | ret r =>
            obtain ⟨rfl, h', tk, m, rfl, hS', hc', hq', hk'⟩ := hr₂
            repeat (any_goals (first | assumption | wp_step))
            exact h _ _ _ hS' hc' hq' hk'
          | _ => exact hr₂.elim
    | _ => exact hr.elim
end
section
variable {X : Cx}
/-- sorted(xs), xs a tuple of texts -/
def rSortT (K : PySem.W.Frag) : List V → Hp → VK → Prop := fun vs H Q => ∃ (a : Addr) (xs : List Str), vs = [V.ref a] ∧ SqT K H a (xs.map V.str) ∧
  ∀ (ys : List Str) (p : Addr), ys.Perm xs → sortedS ys = true → H p = none → Q (.ref p) (upd H p (.lst (ys.map V.str)))
theorem cr_sortT : CallR X (.builtin "sorted") (rSortT X.K) := by
  intro pins s σ H vs us Q I r h
  obtain ⟨a, xs, rfl, hs, q⟩ := h
  obtain ⟨its, rv, hl, hz⟩ := I.tuple hs
  rw [Vals.ref1 r]
  have hlen0 := rv.length
  refine sorted_strsT hl rv.strs (by rw [← hlen0]; exact hz) fun out ys h1 h2 h3 => ?_
  obtain ⟨ep, he'⟩ := PyProof.Rows.sortedAll_at s.heap its out
  have hlen : (ys.map V.str).length ≤ sizeLine := by rw [List.length_map] at hz; rw [List.length_map, h2.length_eq]; exact hz
  exact ⟨.ref _, upd H (s.heap.objs.size + 1) (.lst (ys.map V.str)), I.laid (t' := s.toks) (fun _ _ => PyProof.Rows.sortedAll_old) (Nat.le_succ _) ⟨hlen, out.toList, ep, vals_of_strs h1, he'⟩, rfl, q ys _ h2 h3 (I.hok.fresh (Nat.le_succ _))⟩
/-- as many members as texts: no text twice -/
theorem set_full {m xs : List Str} (nd : m.Nodup) (h : ∀ z, z ∈ m ↔ z ∈ xs) : m.length = xs.length ↔ xs.Nodup := by
  constructor
  · intro e
    exact (perm_few m xs nd (fun z hz => (h z).mp hz) (Nat.le_of_eq e.symm)).nodup_iff.mp nd
  · intro nx
    have a := perm_few m xs nd (fun z hz => (h z).mp hz)
    rcases Nat.le_total xs.length m.length with q | q
    · exact (a q).length_eq
    · exact (perm_few xs m nx (fun z hz => (h z).mpr hz) q).length_eq.symm
theorem set_few {m xs : List Str} (nd : m.Nodup) (h : ∀ z, z ∈ m ↔ z ∈ xs) : m.length ≤ xs.length := by
  rcases Nat.le_total m.length xs.length with q | q
  · exact q
  · exact Nat.le_of_eq (perm_few m xs nd (fun z hz => (h z).mp hz) q).length_eq
end
end Sw
namespace Sw
open PySem PySem.Spec PyProof.Rows L2
section
variable {P : Program} {w : World} {A : Around} {E : Value → Shared → Prop} {s : Shared} {a : Addr}
theorem sorted_setY {m : List Str} {Q : Value → Shared → Prop} (R : SetX P w s.heap a m) (hh : A.handled = none) (h64 : m.length ≤ 4000)
    (hQ : ∀ s' p (out : Array Value) (c : Nat) (ys : List Str), (∀ b o, s.heap.get? b = some o → s'.heap.get? b = some o) → s'.gens = s.gens → s'.os = s.os → s.heap.objs.size ≤ p →
      s'.heap.get? p = some (seqObj "list" out c) → StrsAre out.toList ys → ys.Perm m → sortedS ys = true → Q (.ref p) s') :
    wpAny (model P w) A (call (.builtin "sorted") [.ref a]) Q E s := by
  obtain ⟨⟨es, ep, t⟩, ho, T, nd, hb, hr, hl⟩ := R
  obtain ⟨ss, hss, hmem⟩ := strs_rows (P := P) (w := w) es.toList T.el
  have hsz : es.size = m.length := T.sz
  have hsl : ss.length = m.length := by
    rw [← StrsAre.len_eq hss, List.length_map, Array.length_toList]; exact hsz
  have pm0 : m.Perm ss := perm_few m ss nd (fun z hz => (hmem z).mpr ((T.mem z).mp hz)) (Nat.le_of_eq hsl)
  refine Calls.call_function_entry kind_sorted plain_sorted entry_sorted (args_sorted1 _) ?_
  unfold Builtin.«sorted»
  refine wpAny_bind (m := checkCount "sorted" 1 1 _) (wpAny_pure ?_)
  refine wpAny_bind (collect_set (A := A.in1) hh ⟨_, ho, rfl, rfl⟩ T.fit (Nat.lt_of_le_of_lt (Nat.le_of_eq hsz) hb) hr hl fun s1 vs k1 hz g1 o1 pm => ?_)
  have hvl : vs.length = m.length := by rw [pm.length_eq, List.length_map, Array.length_toList]; exact hsz
  have hS : StrsAre vs (vs.map strOf) := strsAre_map vs fun v hv => hss.all v (pm.mem_iff.mp hv)
  have pk : (vs.map strOf).Perm m := by
    have q := pm.map strOf
    rw [hss.strs] at q
    exact q.trans pm0.symm
  have h64' : vs.length ≤ 4000 := by rw [hvl]; exact h64
  have hL : vs.length ≤ sizeLine := by rw [sizeLine_eq]; omega
  refine wpAny_bind (wpAny_newList ?_ hL)
  have hoL : (s1.heap.push (seqObj "list" vs.toArray 0)).get? s1.heap.objs.size = some (seqObj "list" vs.toArray 0) := Heap.get?_push_size _ rfl
  refine wpAny_bind (wpAny_holding (wpAny_call_entry slot_list_sort ⟨_, hoL, rfl⟩ entry_list_sort
    (list_sort_treeKAny strKind_oneLt hoL hS.keysOf (fun v₁ v₂ rest e => keyKind_strs (by rw [← e]; exact hS)) hL fun st' hp hs => ⟨_, rfl, ?_⟩) (args_list_sort _)))
  obtain ⟨ys, a1, a2, a3⟩ := sorted_out_str hS hp hs
  obtain ⟨c, hc⟩ := sortedHeap_at (vs := vs) (out := (arrOf st').map (·.2)) hoL
  refine wpAny_pure ⟨_, rfl, hQ _ s1.heap.objs.size _ c ys (fun b u e => ?_) g1 o1 hz hc a1 (a2.trans pk) a3⟩
  have q := k1 b u e
  have hlt := Heap.lt_size q
  show (sortedHeap (s1.heap.push (seqObj "list" vs.toArray 0)) s1.heap.objs.size vs ((arrOf st').map (·.2))).get? b = some u
  rw [sortedHeap_old (Nat.ne_of_lt hlt) (by rw [size_push']; exact Nat.lt_succ_of_lt hlt)]
  exact Heap.get?_push_of_some _ q
end
section
variable {X : Cx}
/-- sorted(a set of texts) -/
def rSortY (P : Program) (w : World) : List V → Hp → VK → Prop := fun vs H Q => ∃ (a : Addr) (m : List Str), vs = [V.ref a] ∧ H a = some (SetXO P w a m) ∧ m.length ≤ 4000 ∧
  ∀ (ys : List Str) (p : Addr), ys.Perm m → sortedS ys = true → H p = none → Q (.ref p) (upd H p (.lst (ys.map V.str)))
theorem cr_sortY (hc : X.calm = true) : CallR X (.builtin "sorted") (rSortY X.prog X.w) := by
  intro pins s σ H vs us Q I r h
  obtain ⟨a, m, rfl, ha, h64, q⟩ := h
  have R : SetX X.prog X.w s.heap a m := (I.hok a _ ha).1
  rw [Vals.ref1 r]
  refine sorted_setY R (I.ok.hd hc) h64 fun s' p out c ys k g o hp hg hi pm hs => ?_
  have hlen : (ys.map V.str).length ≤ sizeLine := by rw [List.length_map, pm.length_eq, sizeLine_eq]; omega
  have hn : H p = none := I.hok.fresh hp
  have J : Inv X pins σ (upd H p (.lst (ys.map V.str))) { s with heap := s'.heap, gens := s'.gens, drawn := s'.drawn, toks := s'.toks } :=
    I.call (ch := []) (Un.laid k hp hn) (I.hok.laid k hp ⟨hlen, out.toList, c, vals_of_strs hi, hg⟩) (by rw [g]; exact I.bare) (fun _ z => nomatch z)
  have e : s' = { s with heap := s'.heap, gens := s'.gens, drawn := s'.drawn, toks := s'.toks } := by
    cases s'
    cases s
    cases o
    rfl
  rw [e]
  exact ⟨.ref p, _, J, rfl, q ys p pm hs hn⟩
/-- set(xs), xs a list of texts -/
def rSetY (K : PySem.W.Frag) (P : Program) (w : World) : List V → Hp → VK → Prop := fun vs H Q => ∃ (l : Addr) (xs : List Str), vs = [V.ref l] ∧ SqL K H l (xs.map V.str) ∧ xs.length ≤ 4000 ∧
  ∀ (p : Addr) (m : List Str), m.Nodup → m.length ≤ 4000 → (∀ z, z ∈ m ↔ z ∈ xs) → H p = none → Q (.ref p) (upd H p (SetXO P w p m))
theorem cr_setY (hc : X.calm = true) : CallR X (.type "set") (rSetY X.K X.prog X.w) := by
  intro pins s σ H vs us Q I r h
  obtain ⟨l, xs, rfl, hl, hf, q⟩ := h
  rw [Vals.ref1 r]
  obtain ⟨its, rv, pl, hz⟩ := I.list hl
  have hn : H s.heap.objs.size = none := I.hok.fresh (Nat.le_refl _)
  refine call_setX (P := X.prog) (w := X.w) xs (I.ok.hd hc) pl.isList (by simpa using strsAre_of rv) (by unfold scanBound; omega) fun h' tk m R hm hq k => ?_
  have nd : m.Nodup := R.elim fun _ z => z.2.2.1
  exact ⟨.ref s.heap.objs.size, upd H s.heap.objs.size (SetXO X.prog X.w s.heap.objs.size m), I.laid (t' := tk) k (Nat.le_refl _) (setXO_new R), rfl, q _ m nd (Nat.le_trans hm hf) hq hn⟩
/-- how many texts a set holds -/
def rLenX (P : Program) (w : World) : List V → Hp → VK → Prop := fun vs H Q => ∃ (a : Addr) (m : List Str), vs = [V.ref a] ∧ H a = some (SetXO P w a m) ∧ m.length ≤ 4000 ∧ Q (.int m.length) H
theorem cr_lenX : CallR X (.builtin "len") (rLenX X.prog X.w) := by
  intro pins s σ H vs us Q I r h
  obtain ⟨a, m, rfl, ha, h64, q⟩ := h
  obtain ⟨⟨es, ep, t⟩, ho, T, nd, hb, hr, hl⟩ : SetX X.prog X.w s.heap a m := (I.hok a _ ha).1
  rw [Vals.ref1 r]
  have hsz : es.size = m.length := T.sz
  exact call_len_set ho ⟨rfl, rfl, rfl⟩ rfl T.fit (by rw [hsz]; omega) ⟨.int m.length, H, I.tok _, ⟨_, by rw [hsz]⟩, q⟩
/-- set(xs), xs a tuple of texts -/
def rSetU (K : PySem.W.Frag) (P : Program) (w : World) : List V → Hp → VK → Prop := fun vs H Q => ∃ (l : Addr) (xs : List Str), vs = [V.ref l] ∧ SqT K H l (xs.map V.str) ∧ xs.length ≤ 4000 ∧
  ∀ (p : Addr) (m : List Str), m.Nodup → m.length ≤ 4000 → (∀ z, z ∈ m ↔ z ∈ xs) → H p = none → Q (.ref p) (upd H p (SetXO P w p m))
theorem cr_setU (hc : X.calm = true) : CallR X (.type "set") (rSetU X.K X.prog X.w) := by
  intro pins s σ H vs us Q I r h
  obtain ⟨l, xs, rfl, hl, hf, q⟩ := h
  rw [Vals.ref1 r]
  obtain ⟨its, rv, pl, hz⟩ := I.tuple hl
  have hn : H s.heap.objs.size = none := I.hok.fresh (Nat.le_refl _)
  refine call_setXT (P := X.prog) (w := X.w) xs (I.ok.hd hc) pl (by simpa using strsAre_of rv) (by unfold scanBound; omega) fun h' tk m R hm hq k => ?_
  have nd : m.Nodup := R.elim fun _ z => z.2.2.1
  exact ⟨.ref s.heap.objs.size, upd H s.heap.objs.size (SetXO X.prog X.w s.heap.objs.size m), I.laid (t' := tk) k (Nat.le_refl _) (setXO_new R), rfl, q _ m nd (Nat.le_trans hm hf) hq hn⟩
end
end Sw
namespace Sw
open PySem PySem.Spec PyProof.Rows L2
section
variable {J : It} {n : Nat} {G : Hp → Prop} {Y : Nat → Hp → V → Hp → Prop}
/-- a comprehension's outer turns, whatever a turn makes (B) -/
theorem oc_it (w : Walk J n G Y) {g : TG} {tt : TT} {B : L2.St → Hp → (Hp → Prop) → Prop} {vs : List Nat} {σ : L2.St} {H0 : Hp} {Qd : Hp → Prop} (Pv : Nat → Hp → Prop) (h0 : Pv 0 H0) (hG : ∀ i H, i ≤ n → Pv i H → G H)
    (hs : ∀ i x H H', i < n → Pv i H → Y i H x H' → g x (wipe σ vs) H' fun σ2 H2 => wipe σ2 vs = wipe σ vs ∧ tt σ2 H2 fun b H3 => if b = true then B σ2 H3 (Pv (i + 1)) else Pv (i + 1) H3) (hd : ∀ H, Pv n H → Qd H) :
    ∃ W : Nat → Nat → Hp → Prop, (∃ m, W 0 m H0) ∧ ∀ i m H, W i m H →
      (J.stop i H ∧ Qd H) ∨ (J.go i H ∧ ∃ Nx : Hp → Prop, (∀ H', Nx H' → ∃ m', m' < m ∧ W (i + 1) m' H') ∧ ∀ x H', J.yld i H x H' → g x (wipe σ vs) H' fun σ2 H2 => wipe σ2 vs = wipe σ vs ∧ tt σ2 H2 fun b H3 =>
        if b = true then B σ2 H3 Nx else Nx H3) := by
  refine ⟨fun i m H => m = n - i ∧ i ≤ n ∧ Pv i H, ⟨n, by simp, Nat.zero_le _, h0⟩, ?_⟩
  rintro i m H ⟨rfl, hi, p⟩
  have q := hG i H hi p
  by_cases hlt : i < n
  · exact .inr ⟨w.goes i H hlt q, Pv (i + 1), fun H' p' => ⟨n - (i + 1), by omega, rfl, hlt, p'⟩, fun x H' y => hs i x H H' hlt p (w.yields i H x H' hlt q y)⟩
  · have e : i = n := by omega
    subst e
    exact .inl ⟨w.stops H q, hd H p⟩
end
section
variable {X : Cx} {K : PySem.W.Frag}
theorem flatT {ys : List Str} : (ys.map V.str).all flatV = true := by
  rw [List.all_map]
  exact List.all_eq_true.mpr fun _ _ => rfl
theorem inVT {y : Str} {ys : List Str} : inV (.str y) (ys.map V.str) = decide (y ∈ ys) := by
  unfold inV
  rw [List.any_map]
  cases h : decide (y ∈ ys) with
  | true => exact List.any_eq_true.mpr ⟨y, of_decide_eq_true h, beq_self_eq_true y⟩
  | false => exact List.any_eq_false.mpr fun z hz e => of_decide_eq_false h (by rw [← eq_of_beq (show (z == y) = true from e)]; exact hz)
/-- a text in a list or tuple of texts -/
def rInT (K : PySem.W.Frag) (neg : Bool) : R2 := fun x y H Q => ∃ (z : Str) (p : Addr) (ys : List Str), x = .str z ∧ y = .ref p ∧ (SqL K H p (ys.map V.str) ∨ SqT K H p (ys.map V.str)) ∧ Q (.bl (if neg then !decide (z ∈ ys) else decide (z ∈ ys))) H
theorem op_inT (hK : X.K = K) : OpR X (compareOp .In) (rInT K false) := by
  subst hK
  intro pins s σ H x y v u Q I rx ry h
  obtain ⟨z, p, ys, rfl, rfl, hq, q⟩ := h
  exact op_in_seq pins s σ H _ _ v u Q I rx ry ⟨p, _, rfl, hq, rfl, flatT, by rw [inVT]; exact q⟩
theorem op_niT (hK : X.K = K) : OpR X (compareOp .NotIn) (rInT K true) := by
  subst hK
  intro pins s σ H x y v u Q I rx ry h
  obtain ⟨z, p, ys, rfl, rfl, hq, q⟩ := h
  exact op_notIn_seq pins s σ H _ _ v u Q I rx ry ⟨p, _, rfl, hq, rfl, flatT, by rw [inVT]; exact q⟩
/-- a key in a dict -/
def rInD : R2 := fun x y H Q => ∃ (a : Addr) (o : Option V), y = .ref a ∧ DGet H a x o ∧ Q (.bl o.isSome) H
theorem op_inD (hu : X.A.units + 1 < cLine) : OpR X (compareOp .In) rInD := by
  intro pins s σ H x y v u Q I rx ry h
  obtain ⟨a, o, rfl, g, q⟩ := h
  cases ry
  exact d_in hu I g rx fun s3 I3 => ⟨.bl o.isSome, H, I3, rfl, q⟩
end
end Sw
namespace Sw
open PySem PySem.Spec PyProof.Rows L2
section
variable {X : Cx}
theorem sw_dict {kx vx : Expr} {gs : List Comprehension} {scope : Scope} {pos py : Pos} {y : Str} {l : Nat} {env : Env} (hk : env.scope.kind = .function) (hy : env.scope.names.lookup y = some .local) (hl : (py.line == pos.line) = true)
    (ha : (scope.names.any fun (n, k) => n == y && (k == .local || k == .cell)) = false) : swapsWith (.DictComp kx vx gs scope pos) (some (.Name y py)) l env = pure true := by
  have ky : env.kindOf y = some .local := hy
  have hb : env.blockKind = .function := by unfold Env.blockKind; rw [hk]; rfl
  unfold swapsWith
  simp only [hb, ky, ha, Expr.pos, hl]
  rfl
/-- x = {k: v for ..} -/
theorem ps_setDc {i : Nat} {y : Str} {py : Pos} {kx vx tg iter : Expr} {ifs : List Expr} {scope : Scope} {own : List (Str × Nat)} {pos spos : Pos} {wi : TI} {g : TG} {tt : TT} {tk tv : TE} (hc : X.calm = true) (hN : X.N.Nodup) (hy : X.N[i]? = some y) (hyl : X.env.scope.names.lookup y = some .local)
    (hsw : swapsWith (.DictComp kx vx [⟨tg, iter, ifs, 0⟩] scope pos) (some (.Name y py)) spos.line X.env = pure true) (hi : PI X tg iter wi) (ok : BlkOk X.N X.env.scope scope own)
    (hg : ∀ (s : Shared) (H : Hp) (C : Addr) (cl : List (Str × Addr)) (fp : List Addr), PG (X.blk s H scope (compEnvC scope cl C X.env) fp) tg g) (ht : ∀ (s : Shared) (H : Hp) (C : Addr) (cl : List (Str × Addr)) (fp : List Addr), PTs (X.blk s H scope (compEnvC scope cl C X.env) fp) ifs tt)
    (hk : ∀ (s : Shared) (H : Hp) (C : Addr) (cl : List (Str × Addr)) (fp : List Addr), PE (X.blk s H scope (compEnvC scope cl C X.env) fp) kx tk)
    (he : ∀ (s : Shared) (H : Hp) (C : Addr) (cl : List (Str × Addr)) (fp : List Addr), PE (X.blk s H scope (compEnvC scope cl C X.env) fp) vx tv) (hs : ∀ x, foldedSetIterable iter X.env x = pure x := by intro _; rfl) :
    PS X (.Assign [.Name y py] (.DictComp kx vx [⟨tg, iter, ifs, 0⟩] scope pos) spos) (tAsg (tDc wi g tt tk tv (own.map (·.2))) (gName i)) := by
  refine ⟨fun pins s σ H D I h => ?_⟩
  rw [exec_Assign_Name_used _ _ _ _ hsw]
  refine wpAny_bind (wpAny_standAt (wpAny_bind ?_))
  show wpAny _ X.A (do let _ ← comprehension (.DictComp kx vx [⟨tg, iter, ifs, 0⟩] scope pos) scope X.env (firstIterPos [⟨tg, iter, ifs, 0⟩] pos) newDict false (eval iter X.env) (some (assign (.Name y py) X.env))) _ _ s
  have h : tDc wi g tt tk tv (own.map (·.2)) σ H (fun x H1 => gName i x σ H1 D.nx) := h
  refine wpAny_bind (thn (dc_core (Qf := fun _ s' => SP X pins D .next s') hc hN I hi ok hg ht hk he hs h fun L C s' m H' I' q hn f => ?_) fun _ s' hq => wpAny_pure (wpAny_pure hq))
  show wpAny _ _ (assign (.Name y py) X.env (.ref L)) _ _ _
  refine wpAny_assign_Name (store_ok2 (v := V.ref L) I' hN hy (.inl hyl) rfl (fun s2 I2 ⟨a, sb, ha⟩ => ?_) (.inr hyl))
  obtain ⟨f0, f1, f2, f3, f4, f5⟩ := f
  have haC : C ≠ a := by
    rcases ha with z | z
    · rw [z]; exact f1
    · exact fun e => f4 y a z e.symm
  refine ⟨m, hn.sameBut sb haC, fun h3 sb3 => ?_⟩
  exact ⟨_, H', I2.turned (t' := s2.toks) (fun b o hb e => (sb3.2 b hb).trans e) f0 f1 f3 f4 f5, q⟩
end
section
variable {X : Cx} {K : PySem.W.Frag}
theorem cr_allK (hK : X.K = K) (hc : X.calm = true) : CallR X (.builtin "all") (rAll K) := by
  subst hK
  exact cr_all hc
theorem cr_anyK (hK : X.K = K) (hc : X.calm = true) : CallR X (.builtin "any") (rAny K) := by
  subst hK
  exact cr_any hc
theorem call_isDK (hK : X.K = K) : CallR X (.builtin "isinstance") (rIsD K) := by
  subst hK
  exact call_isD
theorem pt_truthK {a : Expr} {ta : TE} (hK : X.K = K) (ha : PE X a ta) (he : ∀ whole, isTrue a X.env whole = (do let v ← whole; standAt a.pos; holding [v] (truthy v))) :
    PT X a (fun σ H Q => ta σ H fun x H' => ∃ k, TruV K x H' k ∧ Q k H') := by
  subst hK
  exact pt_truth ha he
end
end Sw
namespace Sw
open PySem PySem.Spec PyProof.Rows L2
section
variable {X : Cx} {K : PySem.W.Frag}
theorem pss_never {st : List Stmt} : PSs X st (fun _ _ _ => False) := ⟨fun _ _ _ _ _ _ h => False.elim h⟩
/-- a slice of a tuple, or of a text -/
theorem sl_both : SlR X (fun x lo hi H Q => rSlA X.K x lo hi H Q ∨ rSlS x lo hi H Q) := by
  intro pins s σ H x v vl vu lo hi sl Q I rx hs pl pu h
  rcases h with h | h
  · exact sl_tupA pins s σ H x v vl vu lo hi sl Q I rx hs pl pu h
  · exact sl_str pins s σ H x v vl vu lo hi sl Q I rx hs pl pu h
end
end Sw
namespace K34
open PySem PySem.Spec PyProof.Rows L2 Sw
def topS (i : Nat) : Stmt := PySem.Challenge.pw_soldwhole_k34_founders_circles_and_dues.main.body.getD i (.Pass ⟨0, 0, 0, 0⟩)
/-- the module's own names -/
structure Tx (mg : Str → Option Value) : Prop where
  gcd : mg "gcd" = some (.builtin "math.gcd")
  LONGEST_NAME : ∃ u, mg "LONGEST_NAME" = some u ∧ L2.RelV (.int 12) u
/-- a thing that is the same as itself by == -/
def Selfs (K : PySem.W.Frag) (H : Hp) (x y : V) : Prop := ∃ n, n ≤ 60 ∧ EqR K H (EqV K H n) x y
def spAlike (K : PySem.W.Frag) : Sp := fun vs H Q _ => ∃ (x y : V) (mu : Addr → Prop) (d : PyData), vs = [x, y] ∧ Dt K mu H x d ∧ Dt K mu H y d ∧ Ok d ∧ (d.hasDict = false ∨ (mu sysModules ∧ Selfs K H x y)) ∧ Q (.bl true) H
/-! ### what is told of data -/
def isInt (d : PyData) : Bool := isT "int" d && !isT "bool" d
def isFrac : PyData → Bool
  | .tuple [.int n, .int d] => decide (1 ≤ d) && decide (gI n d = 1)
  | _ => false
def isNm : PyData → Bool
  | .str x => nameS x
  | _ => false
theorem isFrac_eq (n d : Int) : isFrac (.tuple [.int n, .int d]) = (decide (1 ≤ d) && decide (gI n d = 1)) := rfl
/-- tells p of any datum -/
def spP (K : PySem.W.Frag) (p : PyData → Bool) : Sp := fun vs H Q _ => ∃ (v : V) (mu : Addr → Prop) (d : PyData), vs = [v] ∧ Dt K mu H v d ∧ Ok d ∧ ∀ H', Same H H' → Q (.bl (p d)) H'
theorem spP_len {K : PySem.W.Frag} {p : PyData → Bool} {x : Str} : ∀ vs H Q E, spP K p vs H Q E → vs.length = [x].length := fun vs H Q E h => by
  obtain ⟨v, mu, d, rfl, _⟩ := h
  rfl
section
variable {P : Program} {w : World} {K : PySem.W.Frag} {mg : Str → Option Value} {base : Heap}
abbrev s_law_is_int : Stmt := topS 24
theorem sc__law_is_int : FnScope ["thing"] ["thing"] (defScope s_law_is_int) := ⟨rfl, rfl, rfl, by decide +kernel, rfl, by decide +kernel, by decide +kernel⟩
theorem ok__law_is_int {f : Addr} {fd : FuncData} (F : Fun K "_law_is_int" "_law_is_int" s_law_is_int f fd) (B : Bt mg) : FnG P w K mg base 1 f fd ["thing"] (spP K isInt) := by
  refine Fun.okG F sc__law_is_int spP_len (fun cdv A outer s H vs Q E hg hr h => ?_)
  obtain ⟨v, mu, d, rfl, hd, ho, k⟩ := h
  refine ⟨_, (pss_one (ps_ret (pe_and (pe_callB call_isD (by rfl) B.isin bb_isin (pa_cons (pv 0) (pa_cons (pe_bltn (v := .ty "int") rfl B.int bb_int rfl) pa_nil))) (pe_one (pe_not (pe_callB call_isD (by rfl) B.isin bb_isin (pa_cons (pv 0) (pa_cons (pe_bltn (v := .ty "bool") rfl B.bool bb_bool rfl) pa_nil)))))))), ?_⟩
  refine ⟨_, rfl, _, "int", mu, d, rfl, by decide, hd, _, rfl, ?_⟩
  have k := k H (Same.refl H)
  unfold isInt at k
  cases h1 : isT "int" d with
  | false =>
    rw [h1] at k
    exact iteF k
  | true =>
    rw [h1] at k
    exact iteT ⟨_, rfl, _, "bool", mu, d, rfl, by decide, hd, _, rfl, k⟩
/-- the common divisor of two integers' sizes -/
def spCommon : Sp := fun vs H Q _ => ∃ a b : Int, vs = [.int a, .int b] ∧ Q (.int (gI a b)) H
abbrev s_law_common : Stmt := topS 25
theorem sc__law_common : FnScope ["one", "other"] ["one", "other"] (defScope s_law_common) := ⟨rfl, rfl, rfl, by decide +kernel, rfl, by decide +kernel, by decide +kernel⟩
theorem ok__law_common {f : Addr} {fd : FuncData} (F : Fun K "_law_common" "_law_common" s_law_common f fd) (B : Bt mg) : FnG P w K mg base 1 f fd ["one", "other"] spCommon := by
  refine Fun.okG F sc__law_common (fun vs H Q E h => ?_) (fun cdv A outer s H vs Q E hg hr h => ?_)
  · obtain ⟨a, b, rfl, _⟩ := h
    rfl
  obtain ⟨a, b, rfl, k⟩ := h
  refine ⟨_, (pss_cons (ps_par (i := 0) (j := 1) rfl sc__law_common.nd rfl rfl (by decide) rfl rfl (pa_cons (pe_callB call_abs (by rfl) B.abs bb_abs (pa_cons (pv 0) pa_nil)) (pa_cons (pe_callB call_abs (by rfl) B.abs bb_abs (pa_cons (pv 1) pa_nil)) pa_nil)) (by rfl))
    (pss_cons (ps_while PassesOwn.never (pt_cmpR op_gt (pv 1) pe_int (nomark _))
      (pss_one (ps_par (i := 0) (j := 1) rfl sc__law_common.nd rfl rfl (by decide) rfl rfl (pa_cons (pv 1) (pa_cons (pe_op op_mod (pe_callTy call_int1 (by rfl) B.int bb_int (pa_cons (pv 0) pa_nil)) (pv 1)) pa_nil)) (by rfl))))
    (pss_one (ps_ret (pv 0))))), ?_⟩
  have ab : ∀ i : Int, (if i < 0 then -i else i) = (i.natAbs : Int) := fun i => by split <;> omega
  refine ⟨_, rfl, a, rfl, _, rfl, b, rfl, _, _, rfl, ?_⟩
  rw [ab a, ab b]
  refine while_by (fun σ H1 => ∃ x y : Nat, σ = [some (.int x), some (.int y)] ∧ Nat.gcd x y = Nat.gcd a.natAbs b.natAbs ∧ H1 = H) (fun σ _ => match σ with | [_, some (.int j)] => j.toNat | _ => 0) ⟨a.natAbs, b.natAbs, rfl, rfl, rfl⟩ ?_ ?_
  · rintro σ H1 ⟨x, y, rfl, e, rfl⟩
    refine ⟨_, rfl, _, _, rfl, rfl, _, rfl, iteP (fun h => ?_) fun h => ?_⟩
    · refine ⟨_, rfl, _, rfl, .inl ⟨_, rfl, _, rfl, _, _, rfl, rfl, h, _, _, rfl, ?_⟩⟩
      refine ⟨⟨y, x % y, ?_, (gcd_step x y).trans e, rfl⟩, ?_⟩
      · show [some (V.int (y : Int)), some (V.int ((x : Int) % (y : Int)))] = _
        rw [← Int.natCast_emod]
      · show ((x : Int) % (y : Int)).toNat < ((y : Nat) : Int).toNat
        have := Int.emod_lt_of_pos (x : Int) h
        have := Int.emod_nonneg (x : Int) (show (y : Int) ≠ 0 by omega)
        omega
    · have hy : y = 0 := by omega
      subst hy
      rw [Nat.gcd_zero_right] at e
      rw [e] 
      exact ⟨_, rfl, k⟩
  · rintro σ H1 R R' hh ⟨v, e1, i, j, e2, e3, c, e4, q⟩
    exact ⟨v, e1, i, j, e2, e3, c, e4, hh _ _ q⟩
abbrev s_law_take : Stmt := topS 20
theorem sc__law_take : FnScope ["bag", "many", "cell", "stirred", "value", "begin", "second"] ["bag", "many"] (defScope s_law_take) := ⟨rfl, rfl, rfl, by decide +kernel, rfl, by decide +kernel, by decide +kernel⟩
theorem ok__law_take {f : Addr} {fd : FuncData} (F : Fun K "_law_take" "_law_take" s_law_take f fd) (B : Bt mg) : FnG P w K mg base 1 f fd ["bag", "many"] spTake := by
  refine Fun.okG F sc__law_take (fun vs H Q E h => ?_) (fun cdv A outer s H vs Q E hg hr h => ?_)
  · obtain ⟨b, m, rfl, _⟩ := h
    rfl
  obtain ⟨b, many, rfl, hb, hm0, hm1, k⟩ := h
  refine ⟨_, (C8.pss_cut (ps_if (pt_cmpR op_eq (pe_ix ix_list (pv 0) pe_int (fun _ _ => rfl)) pe_int (nomark _))
      (pss_cons (ps_set (i := 2) sc__law_take.nd rfl (Or.inl rfl) (pe_ix ix_list (pe_op op_cat (pe_slice sl_list (pe_ix ix_list (pv 0) pe_int (fun _ _ => rfl)) (po_some (pe_ix ix_list (pv 0) pe_int (fun _ _ => rfl))) po_none) (pe_lst (pa_cons pe_int pa_nil))) pe_int (fun _ _ => rfl)))
      (pss_cons (ps_augS (pv 0) pe_int get_list pe_int ip_add set_list)
      (C8.pss_cut (ps_if (pt_cmpR op_ge (pv 2) (pe_op op_pow pe_int pe_int) (nomark _))
        (pss_one (ps_asg (pv 2) (pg_sub (pv 0) pe_int set_list)))
        pss_nil)
      (pss_cons (ps_set (i := 3) sc__law_take.nd rfl (Or.inl rfl) (pe_op op_add (pe_op op_add (pe_op op_mul (pe_ix ix_list (pv 0) pe_int (fun _ _ => rfl)) pe_int) (pe_op op_mod (pe_callTy call_int1 (by rfl) B.int bb_int (pa_cons (pv 2) pa_nil)) pe_int)) (pe_op op_mul pe_int (pe_ix ix_list (pv 0) pe_int (fun _ _ => rfl)))))
      (pss_one (ps_asg (pe_op op_mod (pe_callTy call_int1 (by rfl) B.int bb_int (pa_cons (pv 3) pa_nil)) pe_int) (pg_sub (pv 0) pe_int set_list)))))))
      pss_nil)
    (pss_cons (ps_if (pt_cmpR op_gt (pe_ix ix_list (pv 0) pe_int (fun _ _ => rfl)) pe_int (nomark _))
      (pss_cons (ps_set (i := 4) sc__law_take.nd rfl (Or.inl rfl) (pe_op op_mod (pe_callTy call_int1 (by rfl) B.int bb_int (pa_cons (pe_ix ix_list (pv 0) pe_int (fun _ _ => rfl)) pa_nil)) (pv 1)))
      (pss_cons (ps_asg (pe_op op_fdiv (pe_callTy call_int1 (by rfl) B.int bb_int (pa_cons (pe_ix ix_list (pv 0) pe_int (fun _ _ => rfl)) pa_nil)) (pv 1)) (pg_sub (pv 0) pe_int set_list))
      (pss_one (ps_ret (pv 4)))))
      pss_nil)
    (pss_cons (ps_set (i := 5) sc__law_take.nd rfl (Or.inl rfl) (pe_op op_mod (pe_callTy call_int1 (by rfl) B.int bb_int (pa_cons (pe_op op_mul (pe_op op_add (pe_ix ix_list (pv 0) pe_int (fun _ _ => rfl)) pe_int) pe_int) pa_nil)) pe_int))
    (pss_cons (ps_set (i := 6) sc__law_take.nd rfl (Or.inl rfl) (pe_op op_mod (pe_callTy call_int1 (by rfl) B.int bb_int (pa_cons (pe_op op_mul (pe_op op_mod (pe_callTy call_int1 (by rfl) B.int bb_int (pa_cons (pe_op op_mul (pv 5) (pv 5)) pa_nil)) pe_int) pe_int) pa_nil)) pe_int))
    (pss_one (ps_ret (pe_op op_mod (pe_callTy call_int1 (by rfl) B.int bb_int (pa_cons (pe_op op_fdiv (pv 6) pe_int) pa_nil)) (pv 1)))))))), ?_⟩
  obtain ⟨x, y, z, l, cs, h1, h2, hlb, hx, hy0, hy1, hz, hcl, hc⟩ := hb
  refine ⟨fun σ H' => ∃ v2 v3, σ = [some (.ref b), some (.int many), v2, v3, none, none, none] ∧ Rel b H H', ?_, ?_⟩
  · refine ⟨_, rfl, b, _, 0, .int x, rfl, rfl, .of h1, atI_nat (j := 0) rfl, rfl, _, rfl, iteEq (fun e => ?_) fun e => ?_⟩
    · -- cell = (bag[3][bag[2]:] + [0])[0]
      refine ⟨_, rfl, b, _, 3, .ref l, rfl, rfl, .of h1, atI_nat (j := 3) rfl, _, rfl, b, _, 2, .int z, rfl, rfl, .of h1, atI_nat (j := 2) rfl, z, rfl, l, _, rfl, .of h2, fun p1 n1 => ?_⟩
      refine ⟨by show 1 ≤ sizeLine; decide, fun p2 n2 => ?_⟩
      have s1 := same_upd (o := .lst (cutV (cs.map V.int) (some z) none)) n1
      have s2 := same_upd (o := .lst [.int 0]) n2
      have hle : (cutV (cs.map V.int) (some z) none).length ≤ 63 := Nat.le_trans (cut_len _ _ _) (by rw [List.length_map]; exact hcl)
      refine ⟨p1, p2, _, _, rfl, rfl, s2 _ _ upd_same, upd_same, Nat.le_of_lt (small1000 (by show _ + 1 ≤ 1000; omega)), fun p3 n3 => ?_⟩
      have s3 := same_upd (o := .lst (cutV (cs.map V.int) (some z) none ++ [.int 0])) n3
      obtain ⟨c, hc0, hcv⟩ := head_cell hc (some z) none
      refine ⟨p3, _, 0, .int c, rfl, rfl, .of upd_same, atI_nat (j := 0) hcv, ?_⟩
      have s13 := (s1.trans s2).trans s3
      clear s1 s2 s3 n1 n2 n3 hle hcv
      revert s13
      generalize upd (upd (upd H p1 (.lst (cutV (cs.map V.int) (some z) none))) p2 (.lst [.int 0])) p3 (.lst (cutV (cs.map V.int) (some z) none ++ [.int 0])) = H3
      intro s13
      have g1 := s13 _ _ h1
      have g2 := s13 _ _ h2
      -- bag[2] += 1
      refine ⟨_, rfl, b, _, 2, .int z, rfl, rfl, .of g1, rfl, z, 1, rfl, rfl, b, _, 2, 2, rfl, rfl, g1, rfl, ?_⟩
      have r1 : Rel b H (upd H3 b (.lst [.int x, .int y, .int (z + 1), .ref l])) := ⟨fun a o n e => by rw [upd_ne n]; exact s13 a o e, fun k z => by rw [z.eq h1]; exact ⟨_, _, _, upd_same⟩, x, y, z + 1, l, cs, upd_same, by rw [upd_ne hlb]; exact g2, hlb, hx, hy0, hy1, by omega, hcl, hc⟩
      -- if cell >= 10 ** 18: bag[0] = cell
      refine ⟨fun σ H' => ∃ x', σ = [some (.ref b), some (.int many), some (.int c), none, none, none, none] ∧ Rel b H H' ∧ H' b = some (.lst [.int x', .int y, .int (z + 1), .ref l]) ∧ 0 ≤ x', ?_, ?_⟩
      · refine ⟨_, rfl, _, _, rfl, rfl, ⟨by decide, by decide, by decide⟩, _, _, rfl, rfl, _, rfl, iteP (fun h => ?_) fun h => ?_⟩
        · refine ⟨_, rfl, _, rfl, b, _, 0, 0, rfl, rfl, upd_same, rfl, c, rfl, ⟨fun a o n e => by rw [upd_ne n]; exact r1.keep a o n e, fun k z => by rw [z.eq h1]; exact ⟨_, _, _, upd_same⟩, c, y, z + 1, l, cs, upd_same, by rw [upd_ne hlb, upd_ne hlb]; exact g2, hlb, hc0, hy0, hy1, by omega, hcl, hc⟩, upd_same, hc0⟩
        · exact ⟨x, rfl, r1, upd_same, hx⟩
      · rintro σ H' ⟨x', rfl, R, hB, hx'⟩
        have e1 : l ≠ b := hlb
        have g3 : H' l = some (.lst (cs.map V.int)) := R.keep _ _ hlb h2
        refine ⟨_, rfl, b, _, 1, .int y, rfl, rfl, .of hB, atI_nat (j := 1) rfl, _, _, rfl, rfl, .inl ⟨by omega, by omega⟩, _, rfl, .inl ⟨_, rfl, _, _, rfl, rfl, (by show (0 : Int) < _; decide), _, _, rfl, rfl, _, rfl, b, _, 2, .int (z + 1), rfl, rfl, .of hB, atI_nat (j := 2) rfl, _, _, rfl, rfl, .inl ⟨by decide, by decide⟩, _, _, rfl, rfl, ?_⟩⟩
        refine ⟨_, rfl, .inl ⟨_, rfl, _, _, rfl, rfl, (by show (0 : Int) < _; decide), _, rfl, b, _, 1, 1, rfl, rfl, hB, rfl, _, _, rfl, ?_⟩⟩
        exact ⟨fun a o n e => by rw [upd_ne n]; exact R.keep a o n e, fun k z => by rw [z.eq h1]; exact ⟨_, _, _, upd_same⟩, x', _, z + 1, l, cs, upd_same, by rw [upd_ne hlb]; exact g3, hlb, hx', Int.emod_nonneg _ (by decide), Int.emod_lt_of_pos _ (by decide), by omega, hcl, hc⟩
    · exact ⟨_, _, rfl, .refl ⟨x, y, z, l, cs, h1, h2, hlb, hx, hy0, hy1, hz, hcl, hc⟩⟩
  · rintro σ H' ⟨v2, v3, rfl, R⟩
    obtain ⟨x, y, z, l, cs, h1, h2, hlb, hx, hy0, hy1, hz, hcl, hc⟩ := id R.bag
    refine ⟨_, rfl, b, _, 0, .int x, rfl, rfl, .of h1, atI_nat (j := 0) rfl, _, _, rfl, rfl, _, rfl, iteP (fun h => ?_) fun h => ?_⟩
    · refine ⟨_, rfl, b, _, 0, .int x, rfl, rfl, .of h1, atI_nat (j := 0) rfl, .inl ⟨_, rfl, _, rfl, _, _, rfl, rfl, hm0, ?_⟩⟩
      refine ⟨_, rfl, b, _, 0, .int x, rfl, rfl, .of h1, atI_nat (j := 0) rfl, .inl ⟨_, rfl, _, rfl, _, _, rfl, rfl, ⟨hm0, hm1⟩, _, rfl, b, _, 0, 0, rfl, rfl, h1, rfl, ?_⟩⟩
      refine ⟨_, rfl, k _ _ (Int.emod_nonneg _ (by omega)) (Int.emod_lt_of_pos _ hm0) ⟨fun a o n e => by rw [upd_ne n]; exact R.keep a o n e, fun k z => by rw [(R.cell k z).eq h1]; exact ⟨_, _, _, upd_same⟩, _, y, z, l, cs, upd_same, by rw [upd_ne hlb]; exact h2, hlb, Int.ediv_nonneg hx (by omega), hy0, hy1, hz, hcl, hc⟩⟩
    · have f1 := Int.emod_nonneg ((y + 1) * 39373) (show (1000000007 : Int) ≠ 0 by decide)
      have f2 := Int.emod_lt_of_pos ((y + 1) * 39373) (show (0 : Int) < 1000000007 by decide)
      refine ⟨_, rfl, b, _, 1, .int y, rfl, rfl, .of h1, atI_nat (j := 1) rfl, _, _, rfl, rfl, _, _, rfl, rfl, .inl ⟨by omega, by omega⟩, .inl ⟨_, rfl, _, _, rfl, rfl, (by show (0 : Int) < _; decide), ?_⟩⟩
      refine ⟨_, rfl, _, rfl, _, _, rfl, rfl, .inl ⟨by omega, by omega⟩, .inl ⟨_, rfl, _, _, rfl, rfl, (by show (0 : Int) < _; decide), _, _, rfl, rfl, .inr ⟨by decide, by decide⟩, .inl ⟨_, rfl, _, _, rfl, rfl, (by show (0 : Int) < _; decide), ?_⟩⟩⟩
      refine ⟨_, rfl, _, _, rfl, rfl, ⟨by decide, by decide⟩, .inl ⟨_, rfl, _, rfl, _, _, rfl, rfl, hm0, k _ _ (Int.emod_nonneg _ (by omega)) (Int.emod_lt_of_pos _ hm0) R⟩⟩
abbrev s_law_some : Stmt := topS 21
theorem sc__law_some : FnScope ["bag", "things"] ["bag", "things"] (defScope s_law_some) := ⟨rfl, rfl, rfl, by decide +kernel, rfl, by decide +kernel, by decide +kernel⟩
theorem ok__law_some {f : Addr} {fd : FuncData} (F : Fun K "_law_some" "_law_some" s_law_some f fd) (B : Bt mg) (c__law_take : CalG P w K mg base 1 "_law_take" spTake) : FnG P w K mg base 2 f fd ["bag", "things"] spSome := by
  refine Fun.okG F sc__law_some (fun vs H Q E h => ?_) (fun cdv A outer s H vs Q E hg hr h => ?_)
  · obtain ⟨b, t, xs, rfl, _⟩ := h
    rfl
  obtain ⟨b, t, xs, rfl, hb, ht, h1, h2, h3, k⟩ := h
  refine ⟨_, (pss_one (ps_ret (pe_ix ix_list (pv 1) (pc c__law_take hg hr (by decide) (by rfl) (pa_cons (pv 0) (pa_cons (pe_callB call_lenA (by rfl) B.len boot_len (pa_cons (pv 1) pa_nil)) pa_nil))) (fun _ _ => rfl)))), ?_⟩
  refine ⟨_, rfl, _, rfl, _, rfl, _, xs.length, rfl, .inl ⟨xs, .of h1, rfl⟩, b, _, rfl, hb, by omega, by omega, fun v H' v0 v1 R => ?_⟩
  obtain ⟨i, rfl⟩ : ∃ i : Nat, v = (i : Int) := ⟨v.toNat, by omega⟩
  have hi : i < xs.length := by omega
  exact ⟨t, xs, i, xs[i], rfl, rfl, .of (R.keep _ _ ht h1), atI_nat (List.getElem?_eq_getElem hi), k i _ H' (List.getElem?_eq_getElem hi) R⟩
/-- the FRACTION n / d -/
def spRed : Sp := fun vs H Q _ => ∃ n d : Int, vs = [.int n, .int d] ∧ d ≠ 0 ∧ d.natAbs < 2 ^ 8000 ∧ ∀ p, H p = none → Q (.ref p) (upd H p (.tup [.int (redI n d).1, .int (redI n d).2]))
abbrev s_law_reduced : Stmt := topS 26
theorem sc__law_reduced : FnScope ["n", "d", "shared"] ["n", "d"] (defScope s_law_reduced) := ⟨rfl, rfl, rfl, by decide +kernel, rfl, by decide +kernel, by decide +kernel⟩
theorem ok__law_reduced {f : Addr} {fd : FuncData} (F : Fun K "_law_reduced" "_law_reduced" s_law_reduced f fd) (B : Bt mg) (c__law_common : CalG P w K mg base 1 "_law_common" spCommon) : FnG P w K mg base 2 f fd ["n", "d"] spRed := by
  refine Fun.okG F sc__law_reduced (fun vs H Q E h => ?_) (fun cdv A outer s H vs Q E hg hr h => ?_)
  · obtain ⟨n, d, rfl, _⟩ := h
    rfl
  obtain ⟨n, d, rfl, h0, h1, k⟩ := h
  refine ⟨_, (pss_cons (ps_set (i := 2) sc__law_reduced.nd rfl (Or.inl rfl) (pe_callB (call_max2 rfl) (by rfl) B.max bb_max (pa_cons pe_int (pa_cons (pc c__law_common hg hr (by decide) (by rfl) (pa_cons (pv 0) (pa_cons (pv 1) pa_nil))) pa_nil))))
    (pss_cons (ps_if (pt_cmpR op_lt (pv 1) pe_int (nomark _))
      (pss_one (ps_ret (pe_tup (pa_cons (pe_op op_fdivW (pe_un un_neg (pv 0)) (pv 2)) (pa_cons (pe_op op_fdivW (pe_un un_neg (pv 1)) (pv 2)) pa_nil)))))
      pss_nil)
    (pss_one (ps_ret (pe_tup (pa_cons (pe_op op_fdivW (pv 0) (pv 2)) (pa_cons (pe_op op_fdivW (pv 1) (pv 2)) pa_nil))))))), ?_⟩
  have hw : CDivW 0 (sh n d) := wide_div (sh_pos n d) (Nat.lt_of_le_of_lt (sh_le h0) h1) (by decide) (by decide)
  have e1 : (if gI n d > 1 then gI n d else 1) = sh n d := rfl
  refine ⟨_, rfl, _, rfl, n, d, rfl, _, _, rfl, ?_⟩
  rw [e1]
  refine ⟨_, rfl, _, _, rfl, rfl, _, rfl, iteP (fun h => ?_) fun h => ?_⟩
  · have e2 : redI n d = ((-n) / sh n d, (-d) / sh n d) := if_pos h
    rw [e2] at k
    refine ⟨_, rfl, _, rfl, _, rfl, _, _, rfl, rfl, hw, _, rfl, _, rfl, _, rfl, _, _, rfl, rfl, hw, by show 2 ≤ sizeLine; decide, fun p np => k p np⟩
  · have e2 : redI n d = (n / sh n d, d / sh n d) := if_neg h
    rw [e2] at k
    refine ⟨_, rfl, _, rfl, _, _, rfl, rfl, hw, _, rfl, _, rfl, _, _, rfl, rfl, hw, by show 2 ≤ sizeLine; decide, fun p np => k p np⟩
/-- a drawn FRACTION, not heavy -/
def NumE (d : PyData) : Prop := NumD d ∧ d.weight ≤ 43
def spNumE (K : PySem.W.Frag) : Sp := fun vs H Q E => ∃ most : Int, 0 < most ∧ most ≤ 1000000 ∧ spG K [.int most] NumE vs H Q E
theorem wt_pair {n m : Int} {j k : Nat} (hn : n.natAbs < 2 ^ j) (hm : m.natAbs < 2 ^ k) : (PyData.tuple [.int n, .int m]).weight ≤ j + k + 2 := by
  have one : ∀ {i : Int} {e : Nat}, i.natAbs < 2 ^ e → (PyData.int i).weight ≤ e := fun {i e} h => by
    simp only [PyData.weight]
    by_cases hz : i = 0
    · rw [hz]
      exact Nat.zero_le _
    · have := (Nat.log2_lt (show i.natAbs ≠ 0 by omega)).mpr h
      split <;> omega
  have h1 := one hn
  have h2 := one hm
  simp only [PyData.weight, PyData.weightAll] at h1 h2 ⊢
  omega
abbrev s_law_number : Stmt := topS 27
theorem sc__law_number : FnScope ["bag", "most", "way"] ["bag", "most"] (defScope s_law_number) := ⟨rfl, rfl, rfl, by decide +kernel, rfl, by decide +kernel, by decide +kernel⟩
theorem ok__law_number {f : Addr} {fd : FuncData} (F : Fun K "_law_number" "_law_number" s_law_number f fd) (B : Bt mg) (c__law_take : CalG P w K mg base 1 "_law_take" spTake) (c__law_some : CalG P w K mg base 2 "_law_some" spSome) (c__law_reduced : CalG P w K mg base 2 "_law_reduced" spRed) :
    FnG P w K mg base 3 f fd ["bag", "most"] (spNumE K) := by
  refine Fun.okG F sc__law_number (fun vs H Q E h => ?_) (fun cdv A outer s H vs Q E hg hr h => ?_)
  · obtain ⟨most, _, _, b, mu, rfl, _⟩ := h
    rfl
  obtain ⟨most, hm0, hm1, b, mu, rfl, hmu, hb, hM, k⟩ := h
  refine ⟨_, (pss_cons (ps_set (i := 2) sc__law_number.nd rfl (Or.inl rfl) (pc c__law_take hg hr (by decide) (by rfl) (pa_cons (pv 0) (pa_cons pe_int pa_nil))))
    (pss_cons (ps_if (pt_cmpR op_eq (pv 2) pe_int (nomark _))
      (pss_one (ps_ret (pc c__law_reduced hg hr (by decide) (by rfl) (pa_cons (pe_op op_add pe_int (pc c__law_take hg hr (by decide) (by rfl) (pa_cons (pv 0) (pa_cons (pe_op op_mul pe_int (pv 1)) pa_nil)))) (pa_cons (pc c__law_some hg hr (by decide) (by rfl) (pa_cons (pv 0) (pa_cons (pe_lst (pa_cons pe_int (pa_cons pe_int (pa_cons pe_int pa_nil)))) pa_nil))) pa_nil)))))
      pss_nil)
    (pss_cons (ps_if (pt_cmpR op_eq (pv 2) pe_int (nomark _))
      (pss_one (ps_ret (pc c__law_some hg hr (by decide) (by rfl) (pa_cons (pv 0) (pa_cons (pe_lst (pa_cons (pe_tup (pa_cons pe_int (pa_cons pe_int pa_nil))) (pa_cons (pe_tup (pa_cons pe_int (pa_cons pe_int pa_nil))) (pa_cons (pe_tup (pa_cons pe_int (pa_cons pe_int pa_nil))) (pa_cons (pe_tup (pa_cons pe_int (pa_cons pe_int pa_nil))) (pa_cons (pe_tup (pa_cons pe_int (pa_cons pe_int pa_nil))) pa_nil)))))) pa_nil)))))
      pss_nil)
    (pss_one (ps_ret (pe_tup (pa_cons (pe_op op_add pe_int (pc c__law_take hg hr (by decide) (by rfl) (pa_cons (pv 0) (pa_cons (pv 1) pa_nil)))) (pa_cons pe_int pa_nil)))))))), ?_⟩
  -- way = _law_take(bag, 12)
  refine ⟨_, rfl, b, _, rfl, hb, by decide, by decide, fun way H1 w0 w1 R1 => ?_⟩
  have M1 := hM.rel R1
  refine ⟨_, rfl, rfl, _, rfl, iteEq (fun e => ?_) fun e => ?_⟩
  · -- _law_reduced(1 + _law_take(bag, 3 * most), _law_some(bag, [2, 3, 7]))
    refine ⟨_, rfl, _, rfl, _, _, rfl, rfl, .inl ⟨by decide, by decide⟩, b, _, rfl, R1.bag, by omega, by omega, fun t H2 t0 t1 R2 => ⟨_, _, rfl, rfl, ?_⟩⟩
    have M2 := M1.rel R2
    refine gv_some (K := K) (mu := mu) (D := fun d => ∃ j : Int, d = .int j ∧ 2 ≤ j ∧ j ≤ 7) (n := 3) hmu rfl (gvA_cons hmu (ge_int.gv ⟨2, rfl, by decide, by decide⟩) (gvA_cons hmu (ge_int.gv ⟨3, rfl, by decide, by decide⟩) (gvA_cons hmu (ge_int.gv ⟨7, rfl, by decide, by decide⟩) gvA_nil))) (by decide) (by decide) H2 (.refl R2.bag) M2 _ fun v H3 d hd R3 hv _ => ?_
    obtain ⟨j, rfl, j0, j1⟩ := hd
    cases hv
    have hp : (7 : Nat) < 2 ^ 8000 := by decide +kernel
    refine ⟨_, _, rfl, by omega, Nat.lt_of_le_of_lt (show j.natAbs ≤ 7 by omega) hp, fun p np => ?_⟩
    have R := (R1.trans R2).trans R3
    obtain ⟨q1, q2, q3, q4, q5⟩ := redI_pos (show 0 < 1 + t by omega) (show 0 < j by omega)
    exact k (.ref p) _ _ ⟨⟨_, _, rfl, q1, by omega, q3, by omega, q5⟩, Nat.le_trans (wt_pair (j := 22) (k := 3) (by omega) (by omega)) (by decide)⟩ (R.same (same_upd np)) (.tup (.inl upd_same) (.cons (.int _) (.cons (.int _) .nil))) (own_not fun _ z => nomatch z)
  · refine ⟨_, rfl, rfl, _, rfl, iteEq (fun e1 => ?_) fun e1 => ?_⟩
    · have g : ∀ {σ : L2.St} {H0 : Hp} {n m : Int}, NumP n m → (PyData.tuple [.int n, .int m]).weight ≤ 43 → Gv K b mu σ H0 (tTup (tCons (tC (.int n)) (tCons (tC (.int m)) tNil))) NumE := fun {σ H0 n m} h h2 => (ge_tup hmu (geA_cons hmu ge_int (geA_cons hmu ge_int geA_nil)) (show 2 ≤ 1000 by decide)).gv ⟨numD h, h2⟩
      refine gv_some (K := K) (mu := mu) (D := NumE) (n := 5) hmu rfl (gvA_cons hmu (g ⟨by decide, by decide, by decide, by decide, by decide⟩ (by decide +kernel)) (gvA_cons hmu (g ⟨by decide, by decide, by decide, by decide, by decide⟩ (by decide +kernel)) (gvA_cons hmu (g ⟨by decide, by decide, by decide, by decide, by decide⟩ (by decide +kernel)) (gvA_cons hmu (g ⟨by decide, by decide, by decide, by decide, by decide⟩ (by decide +kernel)) (gvA_cons hmu (g ⟨by decide, by decide, by decide, by decide, by decide⟩ (by decide +kernel)) gvA_nil))))) (by decide) (by decide) H1 (.refl R1.bag) M1 _ fun v H3 d hd R3 hv _ => ?_
      exact k v H3 d hd (R1.trans R3) hv hd.1.not
    · refine ⟨_, rfl, _, rfl, b, _, rfl, R1.bag, by omega, by omega, fun t H2 t0 t1 R2 => ⟨_, _, rfl, rfl, by show 2 ≤ sizeLine; decide, fun p np => ?_⟩⟩
      refine k (.ref p) _ _ ⟨⟨_, _, rfl, by omega, by omega, by decide, by decide, ?_⟩, Nat.le_trans (wt_pair (j := 20) (k := 1) (by omega) (by decide)) (by decide)⟩ ((R1.trans R2).same (same_upd np)) (.tup (.inl upd_same) (.cons (.int _) (.cons (.int _) .nil))) (own_not fun _ z => nomatch z)
      unfold gI
      simp
abbrev s_law_alike : Stmt := topS 23
theorem sc__law_alike : FnScope ["found", "due"] ["found", "due"] (defScope s_law_alike) := ⟨rfl, rfl, rfl, by decide +kernel, rfl, by decide +kernel, by decide +kernel⟩
theorem ok__law_alike {f : Addr} {fd : FuncData} (F : Fun K "_law_alike" "_law_alike" s_law_alike f fd) (B : Bt mg) : FnG P w K mg base 1 f fd ["found", "due"] (spAlike K) := by
  refine Fun.okG F sc__law_alike (fun vs H Q E h => ?_) (fun cdv A outer s H vs Q E hg hr h => ?_)
  · obtain ⟨x, y, mu, d, rfl, _⟩ := h
    rfl
  obtain ⟨x, y, mu, d, rfl, hx, hy, ho, hn, k⟩ := h
  have hu := Room.u64 hr
  refine ⟨_, (pss_one (ps_ret (pe_and (pe_cmpR (op_eqA hu) (pv 0) (pv 1) (nomark _)) (pe_one (pe_cmpR op_eq (pe_callB (call_repr hg hu) (by rfl) B.repr bb_repr (pa_cons (pv 0) pa_nil)) (pe_callB (call_repr hg hu) (by rfl) B.repr bb_repr (pa_cons (pv 1) pa_nil)) (nomark _)))))), ?_⟩
  have key : ∀ Q' : VK, Q' (.bl true) H → rEqA K x y H Q' := fun Q' q => by
    rcases hn with n | ⟨_, n, h1, h2⟩
    · refine .inl ⟨mu, d, d, hx, hy, ho.shaped n, ho.shaped n, ?_⟩
      rw [eqv_same (ok_lay d ho.ok n)]
      exact q
    · exact .inr (.inl ⟨n, h1, h2, q⟩)
  have hm : d.hasDict = false ∨ mu sysModules := hn.imp id And.left
  refine ⟨_, rfl, _, rfl, key _ ?_⟩
  refine ⟨_, rfl, iteT ⟨_, rfl, ?_⟩⟩
  refine ⟨x, mu, d, rfl, hx, ho.show, hm, by have := ho.dp; omega, ho.fits, ?_⟩
  refine ⟨_, rfl, ?_⟩
  refine ⟨y, mu, d, rfl, hy, ho.show, hm, by have := ho.dp; omega, ho.fits, ?_⟩
  have e : decide (V.str d.shown = V.str d.shown) = true := decide_eq_true rfl
  first
    | (show Q (.bl (decide (V.str d.shown = V.str d.shown))) H; rw [e]; exact k)
    | (refine ⟨rfl, ?_⟩; rw [e]; exact k)
    | (refine ⟨rfl, rfl, ?_⟩; rw [e]; exact k)
def spBag (K : PySem.W.Frag) : Sp := fun vs H Q _ => ∃ (a : Addr) (ns : List Int), vs = [.ref a] ∧ SqL K H a (ns.map V.int) ∧ ns.length ≤ 63 ∧ ∀ b H', Same H H' → H b = none → BagAt H' b → Q (.ref b) H'
abbrev s_law_bag : Stmt := topS 19
theorem sc__law_bag : FnScope ["script", "cell"] ["script"] (defScope s_law_bag) := ⟨rfl, rfl, rfl, by decide +kernel, rfl, by decide +kernel, by decide +kernel⟩
theorem ok__law_bag {f : Addr} {fd : FuncData} (F : Fun K "_law_bag" "_law_bag" s_law_bag f fd) (B : Bt mg) : FnG P w K mg base 1 f fd ["script"] (spBag K) := by
  refine Fun.okG F sc__law_bag (fun vs H Q E h => ?_) (fun cdv A outer s H vs Q E hg hr h => ?_)
  · obtain ⟨a, ns, rfl, _⟩ := h
    rfl
  obtain ⟨a, ns, rfl, hS, hl, k⟩ := h
  refine ⟨_, (pss_one (ps_ret (pe_lst (pa_cons pe_int (pa_cons pe_int (pa_cons pe_int (pa_cons (pe_lc (own := [("cell", 1)]) rfl sc__law_bag.nd (pi_list (pe_slice sl_list (pv 0) po_none (po_some pe_int))) (blkOk_by (own := [("cell", 1)]) (N := ["script", "cell"]) (sc := (defScope s_law_bag)) (by decide +kernel)) (fun _ _ _ _ _ => (pg_name (i := 1) sc__law_bag.nd rfl (Or.inl rfl))) (fun _ _ _ _ _ => pts_nil) (fun _ _ _ _ _ => (pe_callB call_abs (by rfl) B.abs bb_abs (pa_cons (pv 1) pa_nil)))) pa_nil))))))), ?_⟩
  refine ⟨_, rfl, 63, rfl, a, _, rfl, hS, fun p np => ?_⟩
  have sp := same_upd (o := .lst (cutV (ns.map V.int) none (some 63))) np
  obtain ⟨ms, em, hms⟩ : ∃ ms : List Int, cutV (ns.map V.int) none (some 63) = ms.map V.int ∧ ms.length ≤ 63 := by
    refine ⟨(ns.drop (HT.sIx ns.length 0 none)).take (HT.sIx ns.length ns.length (some 63) - HT.sIx ns.length 0 none), ?_, ?_⟩
    · unfold cutV
      rw [List.map_take, List.map_drop, List.length_map]
    · rw [List.length_take, List.length_drop]
      omega
  rw [em] at sp ⊢
  refine ⟨p, rfl, ⟨_, .inl (.inl upd_same)⟩, fun D nD => ?_⟩
  have sD := same_upd (o := .lst []) nD
  have nDp : p ≠ D := fun z => by
    rw [← z, upd_same] at nD
    cases nD
  refine lc_it (walk_list (xs := ms.map V.int) (a := p)) (fun i H' => Same H H' ∧ H' p = some (.lst (ms.map V.int)) ∧ H' D = some (.lst (((ms.take i).map fun c => if c < 0 then -c else c).map V.int))) ⟨sp.trans sD, sD _ _ upd_same, by rw [upd_same]; rfl⟩ (fun i H' _ h => .inl (.inl h.2.1)) (fun i x H2 H3 hi h y => ?_) fun H2 h => ?_
  · obtain ⟨h1, h2, h3⟩ := h
    obtain ⟨rfl, hx⟩ := y
    rw [List.getElem?_map] at hx
    have hi' : i < ms.length := by simpa using hi
    rw [List.getElem?_eq_getElem hi'] at hx
    cases hx
    refine ⟨rfl, _, rfl, _, rfl, _, h3, Nat.lt_of_le_of_lt (by rw [List.length_map, List.length_map, List.length_take]; exact Nat.min_le_left _ _) (small1000 (show i ≤ 1000 by omega)), fun q o e => ?_, ?_, ?_⟩
    · have nq : q ≠ D := fun z => by
        have e2 := sp _ _ e
        rw [z, nD] at e2
        cases e2
      rw [upd_ne nq]
      exact h1 q o e
    · rw [upd_ne nDp]
      exact h2
    · rw [upd_same, List.take_add_one, List.getElem?_eq_getElem hi', List.map_append, List.map_append]
      rfl
  · obtain ⟨h1, h2, h3⟩ := h
    rw [show List.take (ms.map V.int).length ms = ms from List.take_of_length_le (by rw [List.length_map]; exact Nat.le_refl _)] at h3
    refine ⟨by show 4 ≤ sizeLine; decide, fun b nb => ?_⟩
    have s3 := same_upd (o := .lst [.int 0, .int 1234567891, .int 0, .ref D]) nb
    have nbD : D ≠ b := fun z => by
      rw [z, nb] at h3
      cases h3
    have hb0 : H b = none := by
      cases e : H b with
      | none => rfl
      | some o =>
        rw [h1 _ _ e] at nb
        cases nb
    refine k b _ (h1.trans s3) hb0 ⟨0, 1234567891, 0, D, ms.map fun c => if c < 0 then -c else c, upd_same, s3 _ _ h3, nbD, by decide, by decide, by decide, by decide, by rw [List.length_map]; exact hms, fun c hc => ?_⟩
    obtain ⟨z, _, rfl⟩ := List.mem_map.mp hc
    split <;> omega
end
end K34
namespace K34
open PySem PySem.Spec PyProof.Rows L2 Sw
/-- a FRACTION above 0 -/
def isAb : PyData → Bool
  | .tuple [.int n, .int d] => isFrac (.tuple [.int n, .int d]) && decide (0 < n)
  | _ => false
def isIn (a b : Int) : PyData → Bool
  | .int i => decide (a ≤ i ∧ i ≤ b)
  | _ => false
mutual
/-- a CLAIM of ranks -/
def clm (r : Int) : PyData → Bool
  | .tuple (.str w :: ps) => clmW r w ps
  | _ => false
def clmW (r : Int) (w : Str) : List PyData → Bool
  | [] => decide (w = "none")
  | [p] => (decide (w = "shares") && isAb p) || (decide (w = "sum") && clmS r p)
  | [p, q] => isAb q && ((decide (w = "due") && isIn 0 (r - 1) p) || (decide (w = "option") && isAb p) || (decide (w = "capped") && clm r p))
  | _ => false
def clmS (r : Int) : PyData → Bool
  | .tuple cs => decide (2 ≤ cs.length) && clmA r cs
  | _ => false
def clmA (r : Int) : List PyData → Bool
  | [] => true
  | d :: ds => clm r d && clmA r ds
end
/-- a tuple of two at least -/
def tup2 : PyData → Bool
  | .tuple cs => decide (2 ≤ cs.length)
  | _ => false
/-- looked at by itself -/
def loc (r : Int) : PyData → Bool
  | .tuple [.str w] => decide (w = "none")
  | .tuple [.str w, p] => (decide (w = "shares") && isAb p) || (decide (w = "sum") && tup2 p)
  | .tuple [.str w, p, q] => isAb q && ((decide (w = "due") && isIn 0 (r - 1) p) || (decide (w = "option") && isAb p) || decide (w = "capped"))
  | _ => false
/-- what stands below -/
def sub : PyData → List PyData
  | .tuple [.str w, p] => if w = "sum" then (match p with | .tuple cs => cs | _ => []) else []
  | .tuple [.str w, p, _] => if w = "capped" then [p] else []
  | _ => []
theorem clm_loc (r : Int) (d : PyData) : clm r d = (loc r d && clmA r (sub d)) := by
  unfold loc sub
  split
  · rename_i w
    show clmW r w [] = _
    simp [clmW, clmA]
  · rename_i w p
    show clmW r w [p] = _
    by_cases h : w = "sum"
    · subst h
      have e : decide ((Str.ofString "sum") = Str.ofString "shares") = false := by decide +kernel
      cases p <;> simp [clmW, clmS, clmA, e, tup2]
    · simp [clmW, h, clmA]
  · rename_i w p q
    show clmW r w [p, q] = _
    by_cases h : w = "capped"
    · subst h
      have e : decide ((Str.ofString "capped") = Str.ofString "due") = false := by decide +kernel
      have e2 : decide ((Str.ofString "capped") = Str.ofString "option") = false := by decide +kernel
      simp [clmW, clmA, e, e2]
    · simp [clmW, h, clmA]
  · rename_i h1 h2 h3
    cases d with
    | tuple ds =>
      match ds with
      | [] => rfl
      | .str w :: [] => exact absurd rfl (h1 w)
      | .str w :: p :: [] => exact absurd rfl (h2 w p)
      | .str w :: p :: q :: [] => exact absurd rfl (h3 w p q)
      | .str w :: p :: q :: t :: ds => simp [clm, clmW]
      | .none :: _ | .bool _ :: _ | .int _ :: _ | .list _ :: _ | .tuple _ :: _ | .dict _ :: _ => simp [clm]
    | _ => rfl
def locW (r : Int) (w : Str) : List PyData → Bool
  | [] => decide (w = "none")
  | [p] => (decide (w = "shares") && isAb p) || (decide (w = "sum") && tup2 p)
  | [p, q] => isAb q && ((decide (w = "due") && isIn 0 (r - 1) p) || (decide (w = "option") && isAb p) || decide (w = "capped"))
  | _ => false
theorem loc_str (r : Int) (w : Str) : ∀ ps : List PyData, loc r (.tuple (.str w :: ps)) = locW r w ps
  | [] => rfl
  | [p] => rfl
  | [p, q] => rfl
  | p :: q :: t :: ds => rfl
theorem loc_not {r : Int} {d : PyData} (h : ∀ w, d ≠ .str w) (ps : List PyData) : loc r (.tuple (d :: ps)) = false := by
  cases d with
  | str w => exact absurd rfl (h w)
  | _ => rfl
theorem locW_none (r : Int) : ∀ ps : List PyData, locW r "none" ps = decide (ps = [])
  | [] => by simp [locW]
  | [p] => by
    have e : decide (("none" : Str) = "shares") = false := by decide +kernel
    have e2 : decide (("none" : Str) = "sum") = false := by decide +kernel
    simp [locW, e, e2]
  | [p, q] => by
    have e : decide (("none" : Str) = "due") = false := by decide +kernel
    have e2 : decide (("none" : Str) = "option") = false := by decide +kernel
    have e3 : decide (("none" : Str) = "capped") = false := by decide +kernel
    simp [locW, e, e2, e3]
  | p :: q :: t :: ds => by simp [locW]
theorem locW_other {r : Int} {w : Str} (h1 : w ≠ "none") (h2 : w ≠ "shares") (h3 : w ≠ "sum") (h4 : w ∉ (["due", "option", "capped"] : List Str)) : ∀ ps : List PyData, locW r w ps = false := by
  simp only [List.mem_cons, List.not_mem_nil, or_false, not_or] at h4
  obtain ⟨h4, h5, h6⟩ := h4
  intro ps
  match ps with
  | [] => simp [locW, h1]
  | [p] => simp [locW, h2, h3]
  | [p, q] => simp [locW, h4, h5, h6]
  | p :: q :: t :: ds => rfl
theorem locW_two {r : Int} {w : Str} (h1 : w ≠ "none") (h2 : w ≠ "shares") (h3 : w ≠ "sum") {ps : List PyData} (hl : ps.length ≠ 2) : locW r w ps = false := by
  match ps, hl with
  | [], _ => simp [locW, h1]
  | [p], _ => simp [locW, h2, h3]
  | [p, q], hl => exact absurd rfl hl
  | p :: q :: t :: ds, _ => rfl
theorem locW_one {r : Int} {w : Str} (h : w = "shares" ∨ w = "sum") {ps : List PyData} (hl : ps.length ≠ 1) : locW r w ps = false := by
  have e1 : decide (("shares" : Str) = "none") = false := by decide +kernel
  have e2 : decide (("shares" : Str) = "due") = false := by decide +kernel
  have e3 : decide (("shares" : Str) = "option") = false := by decide +kernel
  have e4 : decide (("shares" : Str) = "capped") = false := by decide +kernel
  have f1 : decide (("sum" : Str) = "none") = false := by decide +kernel
  have f2 : decide (("sum" : Str) = "due") = false := by decide +kernel
  have f3 : decide (("sum" : Str) = "option") = false := by decide +kernel
  have f4 : decide (("sum" : Str) = "capped") = false := by decide +kernel
  match ps, hl with
  | [], _ => rcases h with rfl | rfl <;> simp [locW, e1, f1]
  | [p], hl => exact absurd rfl hl
  | [p, q], _ => rcases h with rfl | rfl <;> simp [locW, e2, e3, e4, f2, f3, f4]
  | p :: q :: t :: ds, _ => rfl
theorem locW_shares (r : Int) (p : PyData) : locW r "shares" [p] = isAb p := by
  have e : decide (("shares" : Str) = "sum") = false := by decide +kernel
  simp [locW, e]
theorem locW_sum (r : Int) (p : PyData) : locW r "sum" [p] = tup2 p := by
  have e : decide (("sum" : Str) = "shares") = false := by decide +kernel
  simp [locW, e]
theorem locW_due (r : Int) (p q : PyData) : locW r "due" [p, q] = (isAb q && isIn 0 (r - 1) p) := by
  have e : decide (("due" : Str) = "option") = false := by decide +kernel
  have e2 : decide (("due" : Str) = "capped") = false := by decide +kernel
  simp [locW, e, e2]
theorem locW_capped (r : Int) (p q : PyData) : locW r "capped" [p, q] = isAb q := by
  simp [locW]
theorem locW_option (r : Int) (p q : PyData) : locW r "option" [p, q] = (isAb q && isAb p) := by
  have e : decide (("option" : Str) = "due") = false := by decide +kernel
  have e2 : decide (("option" : Str) = "capped") = false := by decide +kernel
  simp [locW, e, e2]
theorem loc_head {r : Int} : ∀ {ds : List PyData}, loc r (.tuple ds) = true → ∃ w ps, ds = .str w :: ps
  | [], h => by cases h
  | d :: ps, h => by
    cases d with
    | str w => exact ⟨w, ps, rfl⟩
    | _ =>
      rw [loc_not (by intro w z; cases z)] at h
      cases h
theorem sub_capped (p q : PyData) : sub (.tuple [.str "capped", p, q]) = [p] := by simp [sub]
theorem sub_sum (cs : List PyData) : sub (.tuple [.str "sum", .tuple cs]) = cs := by simp [sub]
theorem sub_other {w : Str} (h1 : w ≠ "capped") (h2 : w ≠ "sum") : ∀ ps : List PyData, sub (.tuple (.str w :: ps)) = []
  | [] => rfl
  | [p] => by simp [sub, h2]
  | [p, q] => by simp [sub, h1]
  | p :: q :: t :: ds => rfl
theorem capped_len {r : Int} : ∀ {ps : List PyData}, locW r "capped" ps = true → ps.length = 2
  | [], h => by
    have e : decide (("capped" : Str) = "none") = false := by decide +kernel
    simp [locW, e] at h
  | [p], h => by
    have e : decide (("capped" : Str) = "shares") = false := by decide +kernel
    have e2 : decide (("capped" : Str) = "sum") = false := by decide +kernel
    simp [locW, e, e2] at h
  | [p, q], _ => rfl
  | p :: q :: t :: ds, h => by cases h
theorem sum_len {r : Int} : ∀ {ps : List PyData}, locW r "sum" ps = true → ∃ cs, ps = [.tuple cs]
  | [], h => by
    have e : decide (("sum" : Str) = "none") = false := by decide +kernel
    simp [locW, e] at h
  | [p], h => by
    rw [locW_sum] at h
    cases p with
    | tuple cs => exact ⟨cs, rfl⟩
    | _ => cases h
  | [p, q], h => by
    have e : decide (("sum" : Str) = "due") = false := by decide +kernel
    have e2 : decide (("sum" : Str) = "option") = false := by decide +kernel
    have e3 : decide (("sum" : Str) = "capped") = false := by decide +kernel
    simp [locW, e, e2, e3] at h
  | p :: q :: t :: ds, h => by cases h
theorem isS_eq {z : Str} {d : PyData} (h : isS z d = true) : d = .str z := by
  cases d with
  | str w =>
    have h : decide (w = z) = true := h
    rw [of_decide_eq_true h]
  | _ => cases h
end K34
namespace K34
open PySem PySem.Spec PyProof.Rows L2 Sw
/-- the module's own names -/
structure Tx2 (mg : Str → Option Value) : Prop where
  MOST_RANKS : ∃ u, mg "MOST_RANKS" = some u ∧ L2.RelV (.int 6) u
def spBelow (K : PySem.W.Frag) : Sp := fun vs H Q _ => ∃ (v : V) (mu : Addr → Prop) (d : PyData), vs = [v] ∧ Dt K mu H v d ∧ (∃ r, loc r d = true) ∧ ∀ p xs H', Same H H' → SqT K H' p xs → DtA K mu H' xs (sub d) → Q (.ref p) H'
def spLoc (K : PySem.W.Frag) : Sp := fun vs H Q _ => ∃ (r : Int) (v : V) (mu : Addr → Prop) (d : PyData), vs = [.int r, v] ∧ Dt K mu H v d ∧ Ok d ∧ ∀ H', Same H H' → Q (.bl (loc r d)) H'
section
variable {P : Program} {w : World} {K : PySem.W.Frag} {mg : Str → Option Value} {base : Heap}
abbrev sclaims_below : Stmt := topS 1
theorem sc_claims_below : FnScope ["claim"] ["claim"] (defScope sclaims_below) := ⟨rfl, rfl, rfl, by decide +kernel, rfl, by decide +kernel, by decide +kernel⟩
theorem ok_claims_below {f : Addr} {fd : FuncData} (F : Fun K "claims_below" "claims_below" sclaims_below f fd) (B : Bt mg) : FnG P w K mg base 1 f fd ["claim"] (spBelow K) := by
  refine Fun.okG F sc_claims_below (fun vs H Q E h => ?_) (fun cdv A outer s H vs Q E hg hr h => ?_)
  · obtain ⟨_, _, _, rfl, _⟩ := h
    rfl
  have hu := Room.u64 hr
  obtain ⟨v, mu, d, rfl, hd, ho, k⟩ := h
  refine ⟨_, (pss_cons (ps_if (pt_cmpR (op_eqS (K := K) rfl hu) (pe_ix ix_tup (pv 0) pe_int (fun _ _ => rfl)) pe_str (nomark _))
      (pss_one (ps_ret (pe_tup (pa_cons (pe_ix ix_tup (pv 0) pe_int (fun _ _ => rfl)) pa_nil))))
      pss_nil)
    (pss_one (ps_ret (pe_ifExp (pt_cmpR (op_eqS (K := K) rfl hu) (pe_ix ix_tup (pv 0) pe_int (fun _ _ => rfl)) pe_str (nomark _)) (pe_ix ix_tup (pv 0) pe_int (fun _ _ => rfl)) (pe_tup pa_nil))))), ?_⟩
  obtain ⟨r, hl⟩ := ho
  -- its shape
  obtain ⟨ds, rfl⟩ : ∃ ds, d = .tuple ds := by
    cases d with
    | tuple ds => exact ⟨ds, rfl⟩
    | _ => cases hl
  obtain ⟨a, xs, rfl, hS, hA⟩ := hd.tupAt
  obtain ⟨w0, ps, rfl⟩ := loc_head hl
  rw [loc_str] at hl
  cases hA with
  | @cons x xs' _ _ hx hxs =>
  cases hx
  have h0 : atI (V.str w0 :: xs') 0 = some (.str w0) := atI_nat (j := 0) rfl
  refine ⟨_, rfl, a, _, 0, _, rfl, rfl, hS, h0, mu, .str w0, _, .str w0, rfl, _, rfl, iteP (fun hw => ?_) fun hw => ?_⟩
  · subst hw
    obtain ⟨y, z, d1, d2, rfl, rfl, r1, r2⟩ := hxs.two (capped_len hl)
    refine ⟨_, rfl, a, _, 1, y, rfl, rfl, hS, atI_nat (j := 1) rfl, by show 1 ≤ sizeLine; decide, fun t nt => ?_⟩
    have st := same_upd (o := .tup [y]) nt
    refine k t [y] _ st (.of upd_same) ?_
    rw [sub_capped]
    exact .cons (r1.fut (.of_same st)) .nil
  · refine ⟨_, rfl, a, _, 0, _, rfl, rfl, hS, h0, mu, .str w0, _, .str w0, rfl, _, rfl, iteP (fun hw2 => ?_) fun hw2 => ?_⟩
    · subst hw2
      obtain ⟨cs, rfl⟩ := sum_len hl
      obtain ⟨y, d1, rfl, e, r1⟩ := hxs.one rfl
      cases e
      obtain ⟨a2, ys, rfl, hS2, hA2⟩ := r1.tupAt
      refine ⟨_, rfl, a, _, 1, _, rfl, rfl, hS, atI_nat (j := 1) rfl, ?_⟩
      refine k a2 ys _ (.refl H) hS2 ?_
      rw [sub_sum]
      exact hA2
    · refine ⟨Nat.zero_le _, fun t nt => ?_⟩
      have st := same_upd (o := .tup []) nt
      refine k t [] _ st (.of upd_same) ?_
      rw [sub_other hw hw2]
      exact .nil
theorem cutV_from (xs : List V) (n : Nat) : cutV xs (some (n : Int)) none = xs.drop n := by
  unfold cutV
  rw [HT.sIx_none, HT.sIx_nat]
  by_cases h : n ≤ xs.length
  · rw [Nat.min_eq_left h]
    exact List.take_of_length_le (by rw [List.length_drop]; omega)
  · rw [List.drop_eq_nil_of_le (by omega), List.drop_eq_nil_of_le (by omega), List.take_nil]
theorem slA_use {K : PySem.W.Frag} {H : Hp} {r : Addr} {xs : List V} {lo hi : Option Int} {Q : VK} (h : SqT K H r xs) (k : ∀ p H', Same H H' → SqT K H' p (cutV xs lo hi) → Q (.ref p) H') : rSlA K (.ref r) lo hi H Q := by
  refine ⟨r, xs, rfl, h, fun z => ?_, fun _ p np => k p _ (same_upd np) (.of upd_same)⟩
  refine k r H (.refl H) ?_
  have : cutV xs lo hi = xs := by
    unfold cutV
    rw [z.1, z.2, List.drop_zero, Nat.sub_zero, List.take_length]
  rw [this]
  exact h
theorem iteS {A B : Prop} {z : Str} {d : PyData} (h1 : d = .str z → A) (h2 : d ≠ .str z → B) : if isS z d = true then A else B := by
  by_cases h : isS z d = true
  · rw [if_pos h]
    exact h1 (isS_eq h)
  · rw [if_neg h]
    exact h2 fun e => h (by rw [e]; exact decide_eq_true rfl)
theorem wt_app : ∀ ds es : List PyData, PyData.weightAll (ds ++ es) = PyData.weightAll ds + PyData.weightAll es
  | [], es => by
    show PyData.weightAll es = 0 + PyData.weightAll es
    omega
  | d :: ds, es => by
    have := wt_app ds es
    simp only [List.cons_append, PyData.weightAll] at this ⊢
    omega
theorem len_wt : ∀ ds : List PyData, ds.length ≤ PyData.weightAll ds
  | [] => Nat.le_refl _
  | d :: ds => by
    have := len_wt ds
    simp only [PyData.weightAll, List.length_cons] at this ⊢
    omega
theorem sub_wt (d : PyData) : PyData.weightAll (sub d) ≤ d.weight := by
  unfold sub
  split
  · split
    · split
      · simp only [PyData.weight, PyData.weightAll]
        omega
      · exact Nat.zero_le _
    · exact Nat.zero_le _
  · split
    · simp only [PyData.weight, PyData.weightAll]
      omega
    · exact Nat.zero_le _
  · exact Nat.zero_le _
theorem sub_ok {d : PyData} (h : Ok d) : ∀ e ∈ sub d, Ok e := by
  unfold sub
  split
  · split
    · split
      · rename_i cs
        intro e he
        exact Ok.inT (Ok.inT h (by simp)) he
      · exact fun e z => nomatch z
    · exact fun e z => nomatch z
  · split
    · intro e he
      rw [List.mem_singleton.mp he]
      exact Ok.inT h (by simp)
    · exact fun e z => nomatch z
  · exact fun e z => nomatch z
theorem clmA_app (r : Int) : ∀ ds es : List PyData, clmA r (ds ++ es) = (clmA r ds && clmA r es)
  | [], es => by simp [clmA]
  | d :: ds, es => by simp [clmA, clmA_app r ds es, Bool.and_assoc]
def spClm (K : PySem.W.Frag) : Sp := fun vs H Q _ => ∃ (r : Int) (v : V) (mu : Addr → Prop) (d : PyData), vs = [.int r, v] ∧ Dt K mu H v d ∧ Ok d ∧ ∀ H', Same H H' → Q (.bl (clm r d)) H'
end
end K34
namespace K34
open PySem PySem.Spec PyProof.Rows L2 Sw StX RZ
def optsD (r : Int) : PyData → Bool
  | .tuple os => !os.isEmpty && clmA r os
  | _ => false
/-- a HOLDING of ranks -/
def holdD (r : Int) : PyData → Bool
  | .tuple [h, o] => isNm h && optsD r o
  | _ => false
def headIs (n : Str) : PyData → Bool
  | .tuple (.str h :: _) => decide (h = n)
  | _ => false
def hldsD : PyData → PyData → PyData → Bool
  | .str n, .int r, .tuple hs => hs.all fun h => holdD r h && !headIs n h
  | _, _, _ => false
/-- a FIRM -/
def firmD : PyData → Bool
  | .tuple [n, r, hs] => isNm n && (isIn 0 6 r && hldsD n r hs)
  | _ => false
theorem clmA_all (r : Int) : ∀ cs : List PyData, clmA r cs = cs.all (clm r)
  | [] => rfl
  | c :: cs => by simp [clmA, clmA_all r cs]
section
variable {P : Program} {w : World} {K : PySem.W.Frag} {mg : Str → Option Value} {base : Heap}
def spHold (K : PySem.W.Frag) : Sp := fun vs H Q _ => ∃ (r : Int) (v : V) (mu : Addr → Prop) (d : PyData), vs = [.int r, v] ∧ Dt K mu H v d ∧ Ok d ∧ ∀ H', Same H H' → Q (.bl (holdD r d)) H'
end
end K34
namespace K34
open PySem PySem.Spec PyProof.Rows L2 Sw StX RZ
theorem nopart {σ : L2.St} {H : Hp} {Q : Option Int → Hp → Prop} (h : Q none H) : tNoPart σ H Q := h
def nmS : PyData → Str
  | .tuple (.str n :: _) => n
  | _ => ""
def ltS (x y : Str) : Bool := decide (x.cps.toList < y.cps.toList)
/-- each below the next -/
def ascS : List Str → Bool
  | x :: y :: r => ltS x y && ascS (y :: r)
  | _ => true
def webD : PyData → Bool
  | .tuple fs => fs.all firmD && ascS (fs.map nmS)
  | _ => false
theorem firm_name {e : PyData} (h : firmD e = true) : ∃ n r hs, e = .tuple [.str n, r, hs] ∧ nameS n = true := by
  unfold firmD at h
  split at h
  · rename_i n r hs
    rw [Bool.and_eq_true] at h
    cases n <;> first | exact ⟨_, _, _, rfl, h.1⟩ | (simp [isNm] at h)
  · cases h
theorem ascS_zip : ∀ xs : List Str, ascS xs = (List.zipWith ltS xs xs.tail).all id
  | [] => rfl
  | [_] => rfl
  | x :: y :: r => by
    show (ltS x y && ascS (y :: r)) = (ltS x y && (List.zipWith ltS (y :: r) r).all id)
    rw [ascS_zip (y :: r)]
    rfl
section
variable {P : Program} {w : World} {K : PySem.W.Frag} {mg : Str → Option Value} {base : Heap}
end
end K34
namespace K34
open PySem PySem.Spec PyProof.Rows L2 Sw StX RZ
theorem depth_mem {d : PyData} : ∀ {ds : List PyData}, d ∈ ds → d.depth ≤ PyData.depthAll ds
  | x :: ds, h => by
    simp only [PyData.depthAll]
    rcases List.mem_cons.mp h with rfl | h
    · exact Nat.le_max_left _ _
    · exact Nat.le_trans (depth_mem h) (Nat.le_max_right _ _)
section
variable {P : Program} {w : World} {K : PySem.W.Frag} {mg : Str → Option Value} {base : Heap}
/-- a claim of ranks, not too deep -/
def spClmL (K : PySem.W.Frag) (n : Nat) : Sp := fun vs H Q _ => ∃ (r : Int) (v : V) (mu : Addr → Prop) (d : PyData), vs = [.int r, v] ∧ Dt K mu H v d ∧ Ok d ∧ d.depth ≤ n ∧ ∀ H', Same H H' → Q (.bl (clm r d)) H'
end
end K34
namespace K34
open PySem PySem.Spec PyProof.Rows L2 Sw StX RZ
mutual
/-- small integers, short texts -/
def smD : PyData → Bool
  | .none | .bool _ => true
  | .int i => decide (i.natAbs < 10 ^ 40)
  | .str x => PyData.strOk x && decide (1 ≤ x.length ∧ x.length ≤ 13) && x.cps.all (fun c => decide (97 ≤ c ∧ c ≤ 122))
  | .tuple xs => smA xs
  | .list _ | .dict _ => false
def smA : List PyData → Bool
  | [] => true
  | x :: xs => smD x && smA xs
end
mutual
theorem sm_ok : ∀ {d : PyData}, smD d = true → okD d = true
  | .none, _ | .bool _, _ => rfl
  | .int i, h => by
    simp only [smD, decide_eq_true_eq] at h
    simp only [okD, decide_eq_true_eq]
    exact Nat.lt_trans h (by decide +kernel)
  | .str x, h => by
    simp only [smD, Bool.and_eq_true] at h
    simp only [okD]
    exact h.1.1
  | .list _, h => by simp [smD] at h
  | .tuple xs, h => by
    simp only [smD] at h
    simp only [okD]
    exact smA_ok h
  | .dict _, h => by simp [smD] at h
theorem smA_ok : ∀ {ds : List PyData}, smA ds = true → okA ds = true
  | [], _ => rfl
  | d :: ds, h => by
    simp only [smA, Bool.and_eq_true] at h
    simp only [okA, sm_ok h.1, smA_ok h.2, Bool.and_self]
end
theorem smA_mem {d : PyData} : ∀ {ds : List PyData}, smA ds = true → d ∈ ds → smD d = true
  | x :: xs, h, hm => by
    simp only [smA, Bool.and_eq_true] at h
    rcases List.mem_cons.mp hm with rfl | hm
    · exact h.1
    · exact smA_mem h.2 hm
/-- a datum of a size, without dicts -/
structure Sd (p w : Nat) (d : PyData) : Prop where
  ok : smD d = true
  nd : d.hasDict = false
  dp : d.depth ≤ p
  wt : d.weight ≤ w
theorem Sd.mono {p w p' w' : Nat} {d : PyData} (h : Sd p w d) (hp : p ≤ p') (hw : w ≤ w') : Sd p' w' d := ⟨h.ok, h.nd, Nat.le_trans h.dp hp, Nat.le_trans h.wt hw⟩
/-- items: together at most w heavy -/
structure SdA (p w : Nat) (ds : List PyData) : Prop where
  ok : smA ds = true
  nd : PyData.hasDictAll ds = false
  dp : PyData.depthAll ds ≤ p
  wt : PyData.weightAll ds ≤ w
theorem SdA.nil {p w : Nat} : SdA p w [] := ⟨rfl, rfl, Nat.zero_le _, Nat.zero_le _⟩
theorem SdA.cons {p w1 w2 w : Nat} {d : PyData} {ds : List PyData} (h : Sd p w1 d) (t : SdA p w2 ds) (hw : w1 + 1 + w2 ≤ w) : SdA p w (d :: ds) := by
  refine ⟨by simp only [smA, h.ok, t.ok, Bool.and_self], by simp only [PyData.hasDictAll, h.nd, t.nd, Bool.or_self], ?_, ?_⟩
  · have a := h.dp
    have b := t.dp
    simp only [PyData.depthAll]
    omega
  · have a := h.wt
    have b := t.wt
    simp only [PyData.weightAll]
    omega
theorem SdA.tup {p w : Nat} {ds : List PyData} (h : SdA p w ds) : Sd (p + 1) w (.tuple ds) :=
  ⟨by simp only [smD]; exact h.ok, by simp only [PyData.hasDict]; exact h.nd, by simp only [PyData.depth]; have := h.dp; omega, by simp only [PyData.weight]; exact h.wt⟩
theorem SdA.all {p w1 m : Nat} : ∀ {ds : List PyData}, (∀ d ∈ ds, Sd p w1 d) → ds.length ≤ m → SdA p ((w1 + 1) * m) ds
  | [], _, _ => .nil
  | d :: ds, h, hl => by
    cases m with
    | zero => simp at hl
    | succ m =>
      rw [Nat.mul_succ]
      exact .cons (h d List.mem_cons_self) (SdA.all (m := m) (fun x hx => h x (List.mem_cons_of_mem _ hx)) (by simpa using hl)) (by omega)
theorem sd_str {x : Str} {w p : Nat} (h : smD (.str x) = true) (hl : x.length ≤ w) : Sd p w (.str x) := ⟨h, by simp [PyData.hasDict], by simp [PyData.depth], by simp only [PyData.weight]; exact hl⟩
theorem sd_int {i : Int} {p k : Nat} (h : i.natAbs < 2 ^ k) (hk : k ≤ 130) : Sd p k (.int i) := by
  refine ⟨?_, by simp [PyData.hasDict], by simp [PyData.depth], ?_⟩
  · simp only [smD, decide_eq_true_eq]
    exact Nat.lt_of_lt_of_le h (Nat.le_trans (Nat.pow_le_pow_right (by decide) hk) (by decide +kernel))
  · simp only [PyData.weight]
    by_cases hz : i = 0
    · rw [hz]
      exact Nat.zero_le _
    · have hz2 : i.natAbs ≠ 0 := by omega
      have e : i.natAbs.log2 < k := (Nat.log2_lt hz2).mpr h
      split <;> omega
theorem sd_num {d : PyData} (h : NumE d) : Sd 1 43 d ∧ isAb d = true := by
  obtain ⟨⟨n, m, rfl, h1, h2, h3, h4, h5⟩, hw⟩ := h
  have s := (SdA.cons (p := 0) (w1 := 40) (w2 := 41) (w := 82) (sd_int (i := n) (by omega) (by decide)) (.cons (w1 := 40) (w2 := 0) (sd_int (i := m) (by omega) (by decide)) .nil (by decide)) (by decide)).tup
  refine ⟨⟨s.ok, s.nd, s.dp, hw⟩, ?_⟩
  show ((decide (1 ≤ m) && decide (gI n m = 1)) && decide (0 < n)) = true
  rw [decide_eq_true h3, decide_eq_true h5, decide_eq_true (show 0 < n by omega)]
  rfl
mutual
/-- the leaves of a claim -/
def leavesD : PyData → Int
  | .tuple (.str w :: ps) => leavesW w ps
  | _ => 1
def leavesW (w : Str) : List PyData → Int
  | [p] => if w = "sum" then leavesS p else 1
  | [p, _] => if w = "capped" then leavesD p else 1
  | _ => 1
def leavesS : PyData → Int
  | .tuple cs => leavesA cs
  | _ => 1
def leavesA : List PyData → Int
  | [] => 0
  | c :: cs => leavesD c + leavesA cs
end
theorem leavesA_sum : ∀ cs : List PyData, leavesA cs = (cs.map leavesD).sum
  | [] => rfl
  | c :: cs => by
    rw [List.map_cons, List.sum_cons, ← leavesA_sum cs]
    rfl
theorem leaves_other {w : Str} (h1 : w ≠ "capped") (h2 : w ≠ "sum") : ∀ ps : List PyData, leavesD (.tuple (.str w :: ps)) = 1
  | [] => rfl
  | [_] => if_neg h2
  | [_, _] => if_neg h1
  | _ :: _ :: _ :: _ => rfl
/-- a drawn claim, n deep -/
def wC : Nat → Nat
  | 0 => 95
  | n + 1 => 3 * (wC n + 1) + 90
theorem wC_ge : ∀ n, 95 ≤ wC n
  | 0 => Nat.le_refl _
  | n + 1 => by
    have := wC_ge n
    show 95 ≤ 3 * (wC n + 1) + 90
    omega
structure Cl (r : Int) (n : Nat) (d : PyData) : Prop where
  sd : Sd (2 + 2 * n) (wC n) d
  clm : clm r d = true
  tup : ∃ ds, d = .tuple ds
  l1 : 1 ≤ leavesD d
  lw : (d.weight : Int) ≤ (95 + 52 * n) * leavesD d
theorem lw_leaf {n : Nat} {d : PyData} (hl : leavesD d = 1) (hw : d.weight ≤ 95) : 1 ≤ leavesD d ∧ (d.weight : Int) ≤ (95 + 52 * n) * leavesD d := by
  rw [hl]
  omega
theorem lw_mono {n m : Nat} {l : Int} {w : Nat} (h : n ≤ m) (h1 : 1 ≤ l) (hw : (w : Int) ≤ (95 + 52 * n) * l) : (w : Int) ≤ (95 + 52 * m) * l :=
  Int.le_trans hw (Int.mul_le_mul_of_nonneg_right (by omega) (by omega))
theorem lw_more {n : Nat} {l : Int} {w : Nat} (h1 : 1 ≤ l) (hw : (w : Int) ≤ (95 + 52 * n) * l) : (w : Int) + 52 ≤ (95 + 52 * (n + 1 : Nat)) * l := by
  have e : ((95 + 52 * ((n + 1 : Nat) : Int)) * l) = (95 + 52 * n) * l + 52 * l := by
    rw [← Int.add_mul]
    congr 1
  rw [e]
  omega
theorem leaves_all {n : Nat} : ∀ {ds : List PyData}, (∀ d ∈ ds, 1 ≤ leavesD d ∧ (d.weight : Int) ≤ (95 + 52 * n) * leavesD d) → (ds.length : Int) ≤ leavesA ds ∧ (PyData.weightAll ds : Int) ≤ (95 + 52 * n) * leavesA ds + ds.length
  | [], _ => by simp [leavesA, PyData.weightAll]
  | d :: ds, h => by
    obtain ⟨a1, a2⟩ := h d List.mem_cons_self
    obtain ⟨b1, b2⟩ := leaves_all fun x hx => h x (List.mem_cons_of_mem _ hx)
    have e : (95 + 52 * (n : Int)) * leavesA (d :: ds) = (95 + 52 * n) * leavesD d + (95 + 52 * n) * leavesA ds := by
      rw [← Int.mul_add]
      rfl
    have e2 : leavesA (d :: ds) = leavesD d + leavesA ds := rfl
    rw [e, e2, List.length_cons]
    simp only [PyData.weightAll]
    omega
theorem clm_due {r i : Int} {q : PyData} (h0 : 0 ≤ i) (h1 : i < r) (hq : isAb q = true) : clm r (.tuple [.str "due", .int i, q]) = true := by
  rw [clm_loc, loc_str, locW_due, sub_other (by decide +kernel) (by decide +kernel), hq]
  show (true && decide (0 ≤ i ∧ i ≤ r - 1)) && true = true
  rw [decide_eq_true (by omega)]
  rfl
theorem clm_shares {r : Int} {q : PyData} (hq : isAb q = true) : clm r (.tuple [.str "shares", q]) = true := by
  rw [clm_loc, loc_str, locW_shares, sub_other (by decide +kernel) (by decide +kernel), hq]
  rfl
theorem clm_option {r : Int} {p q : PyData} (hp : isAb p = true) (hq : isAb q = true) : clm r (.tuple [.str "option", p, q]) = true := by
  rw [clm_loc, loc_str, locW_option, sub_other (by decide +kernel) (by decide +kernel), hp, hq]
  rfl
theorem clm_none {r : Int} : clm r (.tuple [.str "none"]) = true := by
  rw [clm_loc, loc_str, locW_none, sub_other (by decide +kernel) (by decide +kernel)]
  rfl
theorem clm_capped {r : Int} {p q : PyData} (hp : clm r p = true) (hq : isAb q = true) : clm r (.tuple [.str "capped", p, q]) = true := by
  rw [clm_loc, loc_str, locW_capped, sub_capped, hq]
  simp [clmA, hp]
theorem clm_sum {r : Int} {cs : List PyData} (hl : 2 ≤ cs.length) (hc : ∀ c ∈ cs, clm r c = true) : clm r (.tuple [.str "sum", .tuple cs]) = true := by
  rw [clm_loc, loc_str, locW_sum, sub_sum, clmA_all, List.all_eq_true.mpr hc]
  show (decide (2 ≤ cs.length) && true) = true
  rw [decide_eq_true hl]
  rfl
def spClaim (K : PySem.W.Frag) (n : Nat) : Sp := fun vs H Q _ => ∃ (b : Addr) (mu : Addr → Prop) (r : Int) (md : Bool), vs = [.ref b, .int r, .int n, .bl md] ∧ 0 ≤ r ∧ r ≤ 6 ∧ mu b ∧ BagAt H b ∧ MuOk mu H ∧ ∀ v H' d, Cl r n d → Rel b H H' → Dt K mu H' v d → Q v H'
section
variable {P : Program} {w : World} {K : PySem.W.Frag} {mg : Str → Option Value} {base : Heap}
abbrev s_law_claim : Stmt := topS 28
theorem sc__law_claim : FnScope ["bag", "ranks", "deep", "may_due", "way", "many", "turn"] ["bag", "ranks", "deep", "may_due"] (defScope s_law_claim) := ⟨rfl, rfl, rfl, by decide +kernel, rfl, by decide +kernel, by decide +kernel⟩
theorem ok__law_claim {f : Addr} {fd : FuncData} {j n : Nat} {sp : Sp} (hj : 3 ≤ j) (hsp : n = 0 ∨ ∃ m, n = m + 1 ∧ sp = spClaim K m) (F : Fun K "_law_claim" "_law_claim" s_law_claim f fd) (B : Bt mg) (c__law_take : CalG P w K mg base 1 "_law_take" spTake) (c__law_number : CalG P w K mg base 3 "_law_number" (spNumE K))
    (c__law_claim : CalG P w K mg base j "_law_claim" sp) : FnG P w K mg base (j + 1) f fd ["bag", "ranks", "deep", "may_due"] (spClaim K n) := by
  refine Fun.okG F sc__law_claim (fun vs H Q E h => ?_) (fun cdv A outer s H vs Q E hg hr h => ?_)
  · obtain ⟨_, _, _, _, rfl, _⟩ := h
    rfl
  obtain ⟨b, mu, r, md, rfl, hr0, hr6, hmu, hb, hM, k⟩ := h
  refine ⟨_, (pss_cons (ps_set (i := 4) sc__law_claim.nd rfl (Or.inl rfl) (pc c__law_take hg hr (by omega) (by rfl) (pa_cons (pv 0) (pa_cons (pe_ifExp (pt_cmpR op_gt (pv 2) pe_int (nomark _)) pe_int pe_int) pa_nil))))
    (C8.pss_cut (ps_if (PW.pt (pw_and (pt_cmpR op_lt (pv 4) pe_int (nomark _)) (pw_and (pt_val (pv 3)) (pw_and1 (pt_cmpR op_gt (pv 1) pe_int (nomark _))))))
      (pss_one (ps_ret (pe_tup (pa_cons pe_str (pa_cons (pc c__law_take hg hr (by omega) (by rfl) (pa_cons (pv 0) (pa_cons (pv 1) pa_nil))) (pa_cons (pc c__law_number hg hr (by omega) (by rfl) (pa_cons (pv 0) (pa_cons pe_int pa_nil))) pa_nil))))))
      pss_nil)
    (pss_cons (ps_if (pt_cmpR op_lt (pv 4) pe_int (nomark _))
      (pss_one (ps_ret (pe_tup (pa_cons pe_str (pa_cons (pc c__law_number hg hr (by omega) (by rfl) (pa_cons (pv 0) (pa_cons pe_int pa_nil))) pa_nil)))))
      pss_nil)
    (pss_cons (ps_if (pt_cmpR op_eq (pv 4) pe_int (nomark _))
      (pss_one (ps_ret (pe_tup (pa_cons pe_str (pa_cons (pc c__law_number hg hr (by omega) (by rfl) (pa_cons (pv 0) (pa_cons pe_int pa_nil))) (pa_cons (pc c__law_number hg hr (by omega) (by rfl) (pa_cons (pv 0) (pa_cons pe_int pa_nil))) pa_nil))))))
      pss_nil)
    (pss_cons (ps_if (pt_cmpR op_eq (pv 4) pe_int (nomark _))
      (pss_one (ps_ret (pe_ifExp (pt_cmpR op_eq (pc c__law_take hg hr (by omega) (by rfl) (pa_cons (pv 0) (pa_cons pe_int pa_nil))) pe_int (nomark _)) (pe_tup (pa_cons pe_str pa_nil)) (pe_tup (pa_cons pe_str (pa_cons (pe_tup (pa_cons (pe_op op_add pe_int (pc c__law_take hg hr (by omega) (by rfl) (pa_cons (pv 0) (pa_cons pe_int pa_nil)))) (pa_cons pe_int pa_nil))) pa_nil))))))
      pss_nil)
    (pss_cons (ps_if (pt_cmpR op_eq (pv 4) pe_int (nomark _))
      (pss_one (ps_ret (pe_tup (pa_cons pe_str (pa_cons (pc c__law_claim hg hr (by omega) (by rfl) (pa_cons (pv 0) (pa_cons (pv 1) (pa_cons (pe_op op_sub (pv 2) pe_int) (pa_cons (pv 3) pa_nil))))) (pa_cons (pc c__law_number hg hr (by omega) (by rfl) (pa_cons (pv 0) (pa_cons pe_int pa_nil))) pa_nil))))))
      pss_nil)
    (pss_cons (ps_set (i := 5) sc__law_claim.nd rfl (Or.inl rfl) (pe_op op_add pe_int (pc c__law_take hg hr (by omega) (by rfl) (pa_cons (pv 0) (pa_cons pe_int pa_nil)))))
    (pss_one (ps_ret (pe_tup (pa_cons pe_str (pa_cons (pe_callTy call_tuple_of (by rfl) B.tuple bb_tuple (pa_cons (pe_lc (own := [("turn", 6)]) rfl sc__law_claim.nd (pi_range1 (by rfl) B.range (pa_cons (pv 5) pa_nil)) (blkOk_by (own := [("turn", 6)]) (N := ["bag", "ranks", "deep", "may_due", "way", "many", "turn"]) (sc := (defScope s_law_claim)) (by decide +kernel)) (fun _ _ _ _ _ => (pg_name (i := 6) sc__law_claim.nd rfl (Or.inl rfl))) (fun _ _ _ _ _ => pts_nil) (fun _ _ _ _ _ => (pc c__law_claim hg hr (by omega) (by rfl) (pa_cons (pv 0) (pa_cons (pv 1) (pa_cons (pe_op op_sub (pv 2) pe_int) (pa_cons (pv 3) pa_nil))))))) pa_nil)) pa_nil)))))))))))), ?_⟩
  have hw10 : ∃ m : Int, m = (if n = 0 then 7 else 10) := ⟨_, rfl⟩
  have fu : ∀ {G G' : Hp} {v2 : V} {d2 : PyData}, Dt K mu G v2 d2 → BagAt G b → Rel b G G' → Dt K mu G' v2 d2 := fun h hb R2 => h.fut (R2.fut hmu hb)
  have num : ∀ {G : Hp} {Q' : VK} {mo : Int}, Rel b H G → 0 < mo → mo ≤ 1000000 → (∀ v2 H2 d2, NumE d2 → Rel b G H2 → Dt K mu H2 v2 d2 → Q' v2 H2) → spNumE K [.ref b, .int mo] G Q' E0 := fun R h0 h1 q =>
    ⟨_, h0, h1, b, mu, rfl, hmu, R.bag, hM.rel R, fun v2 H2 d2 hd R2 hv _ => q v2 H2 d2 hd R2 hv⟩
  have leaf : ∀ {G : Hp} {ds : List PyData} {vs : List V} {p : Addr}, Rel b H G → G p = none → DtA K mu G vs ds → SdA 1 95 ds → clm r (.tuple ds) = true → leavesD (.tuple ds) = 1 → Q (.ref p) (upd G p (.tup vs)) := fun {G ds vs p} R np hA hs hc hL =>
    k (.ref p) _ (.tuple ds) ⟨hs.tup.mono (by omega) (wC_ge n), hc, ⟨ds, rfl⟩, (lw_leaf (n := n) hL hs.tup.wt).1, (lw_leaf hL hs.tup.wt).2⟩ (R.same (same_upd np)) (.tup (.inl upd_same) (hA.fut (.of_same (same_upd np))))
  have two : ∀ {w0 : Str} {d2 : PyData}, smD (.str w0) = true → w0.length ≤ 6 → Sd 1 43 d2 → SdA 1 95 [.str w0, d2] := fun h1 h2 h3 => .cons (w1 := 6) (w2 := 44) (sd_str h1 h2) (.cons (w1 := 43) (w2 := 0) h3 .nil (by decide)) (by decide)
  have three : ∀ {w0 : Str} {d1 d2 : PyData}, smD (.str w0) = true → w0.length ≤ 6 → Sd 1 43 d1 → Sd 1 43 d2 → SdA 1 95 [.str w0, d1, d2] := fun h1 h2 h3 h4 => .cons (w1 := 6) (w2 := 88) (sd_str h1 h2) (.cons (w1 := 43) (w2 := 44) h3 (.cons (w1 := 43) (w2 := 0) h4 .nil (by decide)) (by decide)) (by decide)
  refine ⟨_, rfl, _, rfl, _, _, rfl, rfl, _, rfl, ?_⟩
  refine iteP (fun hdp => ?_) fun hdp => ?_
  all_goals
    refine ⟨b, _, rfl, hb, by decide, by decide, fun way H1 w0 w1 R1 => ?_⟩
    have hb1 := R1.bag
    refine ⟨fun σ' H' => σ' = [some (.ref b), some (.int r), some (.int n), some (.bl md), some (.int way), none, none] ∧ H' = H1, ?_, ?_⟩
    · refine ⟨_, rfl, _, _, rfl, rfl, _, rfl, iteP (fun hw => ⟨_, rfl, _, rfl, iteB (fun hm => ⟨_, rfl, _, _, rfl, rfl, _, rfl, iteP (fun hrp => ?_) fun _ => ⟨rfl, rfl⟩⟩) fun _ => ⟨rfl, rfl⟩⟩) fun _ => ⟨rfl, rfl⟩⟩
      refine ⟨_, rfl, _, rfl, b, r, rfl, hb1, by omega, by omega, fun i H2 i0 i1 R2 => ?_⟩
      refine ⟨_, rfl, num (R1.trans R2) (by decide) (by decide) fun v2 H3 d2 hd R3 hv => ⟨by show 3 ≤ sizeLine; decide, fun p np => ?_⟩⟩
      exact leaf (ds := [.str "due", .int i, d2]) ((R1.trans R2).trans R3) np (.cons (.str _) (.cons (.int _) (.cons hv .nil))) (three (by decide +kernel) (by decide +kernel) ((sd_int (p := 1) (k := 3) (i := i) (by omega) (by decide)).mono (by decide) (by decide)) (sd_num hd).1) (clm_due i0 i1 (sd_num hd).2) (leaves_other (by decide +kernel) (by decide +kernel) _)
    rintro σ' H' ⟨rfl, rfl⟩
    refine ⟨_, rfl, _, _, rfl, rfl, _, rfl, iteP (fun hw2 => ?_) fun hw2 => ?_⟩
    · refine ⟨_, rfl, num R1 (by decide) (by decide) fun v2 H3 d2 hd R3 hv => ⟨by show 2 ≤ sizeLine; decide, fun p np => ?_⟩⟩
      exact leaf (ds := [.str "shares", d2]) (R1.trans R3) np (.cons (.str _) (.cons hv .nil)) (two (by decide +kernel) (by decide +kernel) (sd_num hd).1) (clm_shares (sd_num hd).2) (leaves_other (by decide +kernel) (by decide +kernel) _)
    refine ⟨_, rfl, rfl, _, rfl, iteEq (fun hw3 => ?_) fun hw3 => ?_⟩
    · refine ⟨_, rfl, num R1 (by decide) (by decide) fun v1 H2 d1 hd1 R2 hv1 => ?_⟩
      refine ⟨_, rfl, num (R1.trans R2) (by decide) (by decide) fun v2 H3 d2 hd R3 hv => ⟨by show 3 ≤ sizeLine; decide, fun p np => ?_⟩⟩
      exact leaf (ds := [.str "option", d1, d2]) ((R1.trans R2).trans R3) np (.cons (.str _) (.cons (fu hv1 R2.bag R3) (.cons hv .nil))) (three (by decide +kernel) (by decide +kernel) (sd_num hd1).1 (sd_num hd).1) (clm_option (sd_num hd1).2 (sd_num hd).2) (leaves_other (by decide +kernel) (by decide +kernel) _)
    refine ⟨_, rfl, rfl, _, rfl, iteEq (fun hw4 => ?_) fun hw4 => ?_⟩
    · refine ⟨_, rfl, b, 3, rfl, hb1, by decide, by decide, fun i H2 i0 i1 R2 => ⟨rfl, _, rfl, iteEq (fun _ => ?_) fun _ => ?_⟩⟩
      · refine ⟨by show 1 ≤ sizeLine; decide, fun p np => ?_⟩
        exact leaf (ds := [.str "none"]) (R1.trans R2) np (.cons (.str _) .nil) (.cons (w1 := 4) (w2 := 0) (sd_str (by decide +kernel) (by decide +kernel)) .nil (by decide)) clm_none (leaves_other (by decide +kernel) (by decide +kernel) _)
      · refine ⟨_, rfl, b, 2, rfl, R2.bag, by decide, by decide, fun i2 H3 i3 i4 R3 => ⟨_, _, rfl, rfl, by show 2 ≤ sizeLine; decide, fun q nq => ⟨by show 2 ≤ sizeLine; decide, fun p np => ?_⟩⟩⟩
        have hn : NumE (.tuple [.int (1 + i2), .int 1]) := ⟨⟨_, _, rfl, by omega, by omega, by decide, by decide, by unfold gI; simp⟩, Nat.le_trans (wt_pair (j := 2) (k := 1) (by omega) (by decide)) (by decide)⟩
        have sq := same_upd (o := .tup [.int (1 + i2), .int 1]) nq
        exact leaf (ds := [.str "shares", .tuple [.int (1 + i2), .int 1]]) (((R1.trans R2).trans R3).same sq) np (.cons (.str _) (.cons (.tup (.inl upd_same) (.cons (.int _) (.cons (.int _) .nil))) .nil)) (two (by decide +kernel) (by decide +kernel) (sd_num hn).1) (clm_shares (sd_num hn).2) (leaves_other (by decide +kernel) (by decide +kernel) _)
  · -- deeper
    obtain ⟨m, rfl, rfl⟩ : ∃ m, n = m + 1 ∧ sp = spClaim K m := by
      rcases hsp with h | h
      · omega
      · exact h
    have em : ((m + 1 : Nat) : Int) - 1 = (m : Nat) := by omega
    refine ⟨_, rfl, rfl, _, rfl, iteEq (fun hw5 => ?_) fun hw5 => ?_⟩
    · refine ⟨_, rfl, _, rfl, _, rfl, _, _, rfl, rfl, _, rfl, b, mu, r, md, congrArg (fun z => [V.ref b, V.int r, V.int z, V.bl md]) em, hr0, hr6, hmu, hb1, hM.rel R1, fun v1 H2 d1 hd1 R2 hv1 => ?_⟩
      refine ⟨_, rfl, num (R1.trans R2) (by decide) (by decide) fun v2 H3 d2 hd R3 hv => ⟨by show 3 ≤ sizeLine; decide, fun p np => ?_⟩⟩
      have sp2 := same_upd (o := .tup [.str "capped", v1, v2]) np
      have el : leavesD (.tuple [.str "capped", d1, d2]) = leavesD d1 := by
        show (if ("capped" : Str) = "capped" then leavesD d1 else 1) = _
        exact if_pos rfl
      refine k (.ref p) _ (.tuple [.str "capped", d1, d2]) ⟨?_, clm_capped hd1.clm (sd_num hd).2, ⟨_, rfl⟩, by rw [el]; exact hd1.l1, ?_⟩ (((R1.trans R2).trans R3).same sp2) (.tup (.inl upd_same) (.cons (.str _) (.cons ((fu hv1 R2.bag R3).fut (.of_same sp2)) (.cons (hv.fut (.of_same sp2)) .nil))))
      · exact (SdA.cons (p := 2 + 2 * m) (w1 := 6) (w2 := wC m + 1 + 44) (w := wC m + 52) (sd_str (by decide +kernel) (by decide +kernel)) (.cons (w1 := wC m) (w2 := 44) hd1.sd (.cons (w1 := 43) (w2 := 0) ((sd_num hd).1.mono (by omega) (Nat.le_refl _)) .nil (by decide)) (by omega)) (by omega)).tup.mono (by omega) (by show _ ≤ 3 * (wC m + 1) + 90; omega)
      · rw [el]
        have q1 := lw_more hd1.l1 hd1.lw
        have q2 := (sd_num hd).1.wt
        have q3 : ("capped" : Str).cps.size = 6 := by decide +kernel
        simp only [PyData.weight, PyData.weightAll, q3]
        omega
    · refine ⟨_, rfl, b, 2, rfl, hb1, by decide, by decide, fun i H2 i0 i1 R2 => ⟨_, _, rfl, rfl, ?_⟩⟩
      have R12 := R1.trans R2
      refine ⟨_, rfl, 2 + i, rfl, by omega, by omega, fun D nD => lc_it (walk_range (lo := 0) (n := (2 + i).toNat)) (fun i' H' => ∃ xs ds, H' D = some (.lst xs) ∧ DtA K (fun a => mu a ∨ a = D) H' xs ds ∧ ds.length = i' ∧ (∀ d ∈ ds, Cl r m d) ∧ Rel b H2 H') ⟨[], [], upd_same, .nil, rfl, (fun d h => nomatch h), Rel.of_same R2.bag (same_upd nD)⟩ (fun _ _ _ _ => True.intro) ?_ ?_⟩
      · rintro i' x' H3 H4 hi' ⟨xs, ds, hD, hA, hlen, hcl, R3⟩ ⟨rfl, hx'⟩
        have nDb : D ≠ b := fun z => by
          obtain ⟨_, _, _, _, _, q, _⟩ := R2.bag
          rw [z, q] at nD
          cases nD
        have mo : MuOk (fun a => mu a ∨ a = D) H4 := fun a h => by
          rcases h with h | rfl
          · exact (hM.rel (R12.trans R3)) a h
          · exact .inl (by rw [hD]; exact fun z => nomatch z)
        refine ⟨rfl, _, rfl, _, rfl, _, rfl, _, _, rfl, rfl, _, rfl, b, (fun a => mu a ∨ a = D), r, md, congrArg (fun z => [V.ref b, V.int r, V.int z, V.bl md]) em, hr0, hr6, .inl hmu, R3.bag, mo, fun v4 H5 d4 hd4 R4 hv4 => ?_⟩
        have hD5 := R4.keep _ _ nDb hD
        have f1 : Fut (fun a => mu a ∨ a = D) H4 H5 := R4.fut (.inl hmu) R3.bag
        have f2 : Fut (fun a => mu a ∨ a = D) H5 (upd H5 D (.lst (xs ++ [v4]))) := (fut_at hD5).mono fun a z => .inr z
        refine ⟨_, hD5, small1000 (by rw [hA.length]; omega), xs ++ [v4], ds ++ [d4], upd_same, ((hA.fut f1).fut f2).append (.cons (hv4.fut f2) .nil), by rw [List.length_append, hlen]; rfl, fun d hd => ?_, (R3.trans R4).at R2.bag nD⟩
        rcases List.mem_append.mp hd with hd | hd
        · exact hcl d hd
        · rw [List.mem_singleton.mp hd]
          exact hd4
      · rintro H3 ⟨xs, ds, hD, hA, hlen, hcl, R3⟩
        refine ⟨D, xs, rfl, .inl ⟨.inl (.inl hD), fun l nl => ⟨by show 2 ≤ sizeLine; decide, fun p np => ?_⟩⟩⟩
        have hA3 := hA.less (mv := mu) fun a z => .inl z
        have sl := same_upd (o := .tup xs) nl
        have sp2 := same_upd (o := .tup [.str "sum", .ref l]) np
        have hl2 : 2 ≤ ds.length := by omega
        have hl3 : ds.length ≤ 3 := by omega
        have el : leavesD (.tuple [.str "sum", .tuple ds]) = leavesA ds := by
          show (if ("sum" : Str) = "sum" then leavesA ds else 1) = _
          exact if_pos rfl
        obtain ⟨q1, q2⟩ := leaves_all (n := m) fun d hd => ⟨(hcl d hd).l1, (hcl d hd).lw⟩
        refine k (.ref p) _ (.tuple [.str "sum", .tuple ds]) ⟨?_, clm_sum hl2 (fun c hc => (hcl c hc).clm), ⟨_, rfl⟩, by rw [el]; omega, ?_⟩ ((((R12.trans R3).same sl).same sp2)) (.tup (.inl upd_same) (.cons (.str _) (.cons (.tup (.inl (sp2 _ _ upd_same)) ((hA3.fut (.of_same sl)).fut (.of_same sp2))) .nil)))
        · have hs := (SdA.all (p := 2 + 2 * m) (w1 := wC m) (m := 3) (fun d hd => (hcl d hd).sd) hl3).tup
          exact (SdA.cons (p := 2 + 2 * m + 1) (w1 := 3) (w2 := (wC m + 1) * 3 + 1) (w := (wC m + 1) * 3 + 5) (sd_str (by decide +kernel) (by decide +kernel)) (.cons (w1 := (wC m + 1) * 3) (w2 := 0) hs .nil (by omega)) (by omega)).tup.mono (by omega) (by show _ ≤ 3 * (wC m + 1) + 90; omega)
        · rw [el]
          have e : ((95 + 52 * ((m + 1 : Nat) : Int)) * leavesA ds) = (95 + 52 * m) * leavesA ds + 52 * leavesA ds := by
            rw [← Int.add_mul]
            congr 1
          rw [e]
          have q3 : ("sum" : Str).cps.size = 3 := by decide +kernel
          simp only [PyData.weight, PyData.weightAll, q3]
          omega
  · refine ⟨_, rfl, rfl, _, rfl, iteEq (fun hw5 => ?_) fun hw5 => ?_⟩
    · omega
    · omega
end
end K34
namespace K34
open PySem PySem.Spec PyProof.Rows L2 Sw StX RZ
theorem clm_tup {r : Int} {d : PyData} (h : clm r d = true) : ∃ w ps, d = .tuple (.str w :: ps) ∧ (w = "capped" → ∃ p q, ps = [p, q] ∧ clm r p = true) ∧ (w = "sum" → ∃ cs, ps = [.tuple cs] ∧ ∀ c ∈ cs, clm r c = true) := by
  obtain ⟨w, ps, rfl⟩ : ∃ w ps, d = .tuple (.str w :: ps) := by
    unfold clm at h
    split at h
    · exact ⟨_, _, rfl⟩
    · cases h
  refine ⟨w, ps, rfl, fun e => ?_, fun e => ?_⟩
  · subst e
    rw [clm_loc, loc_str, Bool.and_eq_true] at h
    match ps, h with
    | [], h => exact absurd (show decide (("capped" : Str) = "none") = true from h.1) (by decide +kernel)
    | [p], h => exact absurd h.1 (by
        have e1 : decide (("capped" : Str) = "shares") = false := by decide +kernel
        have e2 : decide (("capped" : Str) = "sum") = false := by decide +kernel
        simp [locW, e1, e2])
    | [p, q], h =>
      refine ⟨p, q, rfl, ?_⟩
      have := h.2
      rw [sub_capped] at this
      simpa [clmA] using this
    | _ :: _ :: _ :: _, h => exact absurd h.1 (by simp [locW])
  · subst e
    rw [clm_loc, loc_str, Bool.and_eq_true] at h
    match ps, h with
    | [], h => exact absurd (show decide (("sum" : Str) = "none") = true from h.1) (by decide +kernel)
    | [p], h =>
      rw [locW_sum] at h
      obtain ⟨cs, rfl⟩ : ∃ cs, p = .tuple cs := by
        cases p <;> first | exact ⟨_, rfl⟩ | exact absurd h.1 (fun z => nomatch z)
      refine ⟨cs, rfl, ?_⟩
      have := h.2
      rw [sub_sum, clmA_all, List.all_eq_true] at this
      exact this
    | [p, q], h => exact absurd h.1 (by
        have e1 : decide (("sum" : Str) = "due") = false := by decide +kernel
        have e2 : decide (("sum" : Str) = "option") = false := by decide +kernel
        have e3 : decide (("sum" : Str) = "capped") = false := by decide +kernel
        simp [locW, e1, e2, e3])
    | _ :: _ :: _ :: _, h => exact absurd h.1 (by simp [locW])
section
variable {P : Program} {w : World} {K : PySem.W.Frag} {mg : Str → Option Value} {base : Heap}
def spLeaves (K : PySem.W.Frag) (n : Nat) : Sp := fun vs H Q _ => ∃ (r : Int) (v : V) (mu : Addr → Prop) (d : PyData), vs = [v] ∧ Dt K mu H v d ∧ clm r d = true ∧ Ok d ∧ d.depth ≤ n ∧ ∀ H', Same H H' → Q (.int (leavesD d)) H'
abbrev s_law_leaves : Stmt := topS 31
theorem sc__law_leaves : FnScope ["claim", "one"] ["claim"] (defScope s_law_leaves) := ⟨rfl, rfl, rfl, by decide +kernel, rfl, by decide +kernel, by decide +kernel⟩
theorem ok__law_leaves {f : Addr} {fd : FuncData} {j N : Nat} {sp : Sp} (hsp : N = 0 ∨ ∃ m, N = m + 1 ∧ sp = spLeaves K m) (F : Fun K "_law_leaves" "_law_leaves" s_law_leaves f fd) (B : Bt mg) (TS : mg "sum" = none) (c__law_leaves : CalG P w K mg base j "_law_leaves" sp) : FnG P w K mg base (j + 1) f fd ["claim"] (spLeaves K N) := by
  refine Fun.okG F sc__law_leaves (fun vs H Q E h => ?_) (fun cdv A outer s H vs Q E hg hr h => ?_)
  · obtain ⟨_, _, _, _, rfl, _⟩ := h
    rfl
  obtain ⟨r, v, mu, d, rfl, hd, hc, ho, hdp, k⟩ := h
  refine ⟨_, (pss_cons (ps_if (pt_cmpR op_eq (pe_ix ix_tup (pv 0) pe_int (fun _ _ => rfl)) pe_str (nomark _))
      (pss_one (ps_ret (pc c__law_leaves hg hr (by omega) (by rfl) (pa_cons (pe_ix ix_tup (pv 0) pe_int (fun _ _ => rfl)) pa_nil))))
      pss_nil)
    (pss_one (ps_ret (pe_ifExp (pt_cmpR op_eq (pe_ix ix_tup (pv 0) pe_int (fun _ _ => rfl)) pe_str (nomark _)) (pe_callB (cr_sum rfl) (by rfl) TS bb_sum (pa_cons (pe_lc (own := [("one", 1)]) rfl sc__law_leaves.nd (pi_tup (pe_ix ix_tup (pv 0) pe_int (fun _ _ => rfl))) (blkOk_by (own := [("one", 1)]) (N := ["claim", "one"]) (sc := (defScope s_law_leaves)) (by decide +kernel)) (fun _ _ _ _ _ => (pg_name (i := 1) sc__law_leaves.nd rfl (Or.inl rfl))) (fun _ _ _ _ _ => pts_nil) (fun _ _ _ _ _ => (pc c__law_leaves hg hr (by omega) (by rfl) (pa_cons (pv 1) pa_nil)))) pa_nil)) pe_int)))), ?_⟩
  obtain ⟨w0, ps, rfl, h1, h2⟩ := clm_tup hc
  obtain ⟨a, xs, rfl, hS, hA⟩ := hd.tupAt
  have hl := hA.length
  have ddp : PyData.depthAll (.str w0 :: ps) + 1 ≤ N := by
    have e : (PyData.tuple (.str w0 :: ps)).depth = PyData.depthAll (.str w0 :: ps) + 1 := by simp [PyData.depth]
    omega
  obtain ⟨n, rfl, rfl⟩ : ∃ n, N = n + 1 ∧ sp = spLeaves K n := by
    rcases hsp with z | z
    · omega
    · exact z
  cases hA with
  | @cons x xs' dw _ hx hxs =>
  cases hx
  refine ⟨_, rfl, a, _, 0, _, rfl, rfl, hS, atI_nat (j := 0) rfl, rfl, _, rfl, iteP (fun e => ?_) fun e1 => ?_⟩
  · cases e
    obtain ⟨p, q, rfl, hp⟩ := h1 rfl
    obtain ⟨y, z, _, _, rfl, ee, r1, r2⟩ := hxs.two (by have := hxs.length; simpa using this)
    cases ee
    have dd : p.depth ≤ n := by
      have := depth_mem (d := p) (ds := [PyData.str "capped", p, q]) (by simp)
      omega
    have el : leavesD (.tuple [.str "capped", p, q]) = leavesD p := by
      show (if ("capped" : Str) = "capped" then leavesD p else 1) = _
      exact if_pos rfl
    rw [el] at k
    exact ⟨_, rfl, a, _, 1, y, rfl, rfl, hS, atI_nat (j := 1) rfl, r, y, mu, p, rfl, r1, hp, ho.inT (by simp), dd, k⟩
  · have n1 : w0 ≠ "capped" := fun z => e1 (by rw [z])
    refine ⟨_, rfl, a, _, 0, _, rfl, rfl, hS, atI_nat (j := 0) rfl, rfl, _, rfl, iteP (fun e => ?_) fun e2 => ?_⟩
    · cases e
      obtain ⟨cs, rfl, hcs⟩ := h2 rfl
      obtain ⟨y, _, rfl, ee, r1⟩ := hxs.one (by have := hxs.length; simpa using this)
      cases ee
      obtain ⟨a2, ys, rfl, hS2, hA2⟩ := r1.tupAt
      have hl2 := hA2.length
      have oc : Ok (.tuple cs) := ho.inT (by simp)
      have hw := len_wt cs
      have hw2 : PyData.weightAll cs ≤ 27000 := oc.wt
      have sl := sizeLine_eq
      have el : leavesD (.tuple [.str "sum", .tuple cs]) = (cs.map leavesD).sum := by
        rw [← leavesA_sum]
        show (if ("sum" : Str) = "sum" then leavesA cs else 1) = _
        exact if_pos rfl
      rw [el] at k
      refine ⟨_, rfl, a, _, 1, _, rfl, rfl, hS, atI_nat (j := 1) rfl, a2, rfl, ⟨ys, hS2⟩, fun D nD => lc_it (walk_tup (K := K) (xs := ys) (a := a2)) (fun i H' => Same H H' ∧ H' D = some (.lst (((cs.take i).map leavesD).map V.int))) ?_ (fun i H' _ h => h.1.seqT hS2) ?_ ?_⟩
      · exact ⟨same_upd nD, by rw [upd_same]; rfl⟩
      · rintro i x H2 H3 hi ⟨sm, hD⟩ ⟨rfl, hx2⟩
        obtain ⟨e, he, hxe⟩ := hA2.get hx2
        have hem := List.mem_of_getElem? he
        have ed : e.depth ≤ n := by
          have q1 := depth_mem hem
          have q2 := depth_mem (d := PyData.tuple cs) (ds := [PyData.str "sum", PyData.tuple cs]) (by simp)
          have q3 : (PyData.tuple cs).depth = PyData.depthAll cs + 1 := by simp [PyData.depth]
          omega
        refine ⟨rfl, _, rfl, r, x, mu, e, rfl, hxe.fut (.of_same sm), hcs e hem, oc.inT hem, ed, fun H4 s4 => ⟨_, s4 _ _ hD, ?_, fun b o z => ?_, ?_⟩⟩
        · rw [List.length_map, List.length_map, List.length_take]
          omega
        · rw [upd_ne (ne_of_none z nD)]
          exact s4 _ _ (sm b o z)
        · rw [upd_same, List.take_add_one, he, List.map_append, List.map_append]
          rfl
      · rintro H2 ⟨sm, hD⟩
        rw [List.take_of_length_le (by omega)] at hD
        exact ⟨D, cs.map leavesD, rfl, .inl (.inl hD), k H2 sm⟩
    · have n2 : w0 ≠ "sum" := fun z => e2 (by rw [z])
      have el : leavesD (.tuple (.str w0 :: ps)) = 1 := leaves_other n1 n2 ps
      rw [el] at k
      exact k H (.refl H)
end
end K34
namespace K34
open PySem PySem.Spec PyProof.Rows L2 Sw StX RZ
theorem wC_le : ∀ {n m : Nat}, n ≤ m → wC n ≤ wC m
  | n, 0, h => by
    have : n = 0 := by omega
    rw [this]
    exact Nat.le_refl _
  | n, m + 1, h => by
    by_cases e : n = m + 1
    · rw [e]
      exact Nat.le_refl _
    · have := wC_le (n := n) (m := m) (by omega)
      show wC n ≤ 3 * (wC m + 1) + 90
      omega
theorem Cl.mono {r : Int} {n m : Nat} {d : PyData} (h : Cl r n d) (hn : n ≤ m) : Cl r m d := ⟨h.sd.mono (by omega) (wC_le hn), h.clm, h.tup, h.l1, lw_mono hn h.l1 h.lw⟩
theorem Cl.isOk {r : Int} {n : Nat} {d : PyData} (h : Cl r n d) (hn : n ≤ 3) : Ok d := by
  have h2 := (h.mono hn).sd
  exact ⟨sm_ok h2.ok, Nat.le_trans h2.dp (by decide), Nat.le_trans h2.wt (by decide)⟩
def sh11 : PyData := .tuple [.str "shares", .tuple [.int 1, .int 1]]
theorem cl_sh11 {r : Int} {n : Nat} : Cl r n sh11 := by
  have hn : NumE (.tuple [.int 1, .int 1]) := ⟨⟨1, 1, rfl, by decide, by decide, by decide, by decide, by unfold gI; simp⟩, by decide +kernel⟩
  have h := (SdA.cons (w1 := 6) (w2 := 44) (w := 95) (sd_str (p := 1) (w := 6) (x := "shares") (by decide +kernel) (by decide +kernel)) (.cons (w1 := 43) (w2 := 0) (sd_num hn).1 .nil (by decide)) (by decide)).tup
  have q := lw_leaf (n := n) (leaves_other (w := "shares") (by decide +kernel) (by decide +kernel) _) h.wt
  exact ⟨h.mono (by omega) (wC_ge n), clm_shares (sd_num hn).2, ⟨_, rfl⟩, q.1, q.2⟩
theorem leavesA_app : ∀ xs ys : List PyData, leavesA (xs ++ ys) = leavesA xs + leavesA ys
  | [], ys => by
    show leavesA ys = 0 + leavesA ys
    omega
  | x :: xs, ys => by
    have := leavesA_app xs ys
    show leavesD x + leavesA (xs ++ ys) = (leavesD x + leavesA xs) + leavesA ys
    omega
theorem sh11_facts : leavesD sh11 = 1 ∧ sh11.weight = 12 := by
  refine ⟨leaves_other (w := "shares") (by decide +kernel) (by decide +kernel) _, by decide +kernel⟩
theorem wt_one (xs : List PyData) (x : PyData) : PyData.weightAll (xs ++ [x]) = PyData.weightAll xs + x.weight + 1 := by
  induction xs with
  | nil => simp [PyData.weightAll]
  | cons y ys ih =>
    simp only [List.cons_append, PyData.weightAll, ih]
    omega
/-- what is kept of the options: so many leaves in all, the others one share -/
def Kept (n : Nat) (left lf : Int) (es : List PyData) : Prop := ∃ rl : Int, 0 ≤ rl ∧ 0 ≤ lf ∧ rl + lf ≤ left ∧ rl ≤ leavesA es ∧ (PyData.weightAll es : Int) ≤ (95 + 52 * n) * rl + 13 * es.length
theorem Kept.real {n : Nat} {left lf : Int} {es : List PyData} {d : PyData} (h : Kept n left lf es) (hle : leavesD d ≤ lf) (h1 : 1 ≤ leavesD d) (hw : (d.weight : Int) ≤ (95 + 52 * n) * leavesD d) : Kept n left (if lf - leavesD d > 0 then lf - leavesD d else 0) (es ++ [d]) := by
  obtain ⟨rl, a1, a2, a3, a4, a5⟩ := h
  refine ⟨rl + leavesD d, by omega, by split <;> omega, by split <;> omega, ?_, ?_⟩
  · rw [leavesA_app]
    show _ ≤ leavesA es + (leavesD d + 0)
    omega
  · rw [wt_one, List.length_append, Int.mul_add]
    show ((_ : Nat) : Int) ≤ _ + 13 * ((es.length + 1 : Nat) : Int)
    omega
theorem Kept.other {n : Nat} {left lf l : Int} {es : List PyData} (h : Kept n left lf es) (hle : ¬ l ≤ lf) : Kept n left (if lf - l > 0 then lf - l else 0) (es ++ [sh11]) := by
  obtain ⟨rl, a1, a2, a3, a4, a5⟩ := h
  refine ⟨rl, by omega, by split <;> omega, by split <;> omega, ?_, ?_⟩
  · rw [leavesA_app]
    show _ ≤ leavesA es + (leavesD sh11 + 0)
    rw [sh11_facts.1]
    omega
  · rw [wt_one, List.length_append, sh11_facts.2]
    show ((_ : Nat) : Int) ≤ _ + 13 * ((es.length + 1 : Nat) : Int)
    omega
section
variable {P : Program} {w : World} {K : PySem.W.Frag} {mg : Str → Option Value} {base : Heap}
def spWithin (K : PySem.W.Frag) : Sp := fun vs H Q _ => ∃ (a : Addr) (xs : List V) (ds : List PyData) (mu : Addr → Prop) (r left : Int) (n : Nat), vs = [.ref a, .int left] ∧ 0 ≤ left ∧ SqT K H a xs ∧ DtA K mu H xs ds ∧ (∀ d ∈ ds, Cl r n d) ∧ n ≤ 3 ∧ ds.length ≤ 4 ∧
  ∀ p ys es H', Same H H' → SqT K H' p ys → DtA K mu H' ys es → es.length = ds.length → (∀ e ∈ es, e ∈ ds ∨ e = sh11) → (∃ lf, Kept n left lf es) → Q (.ref p) H'
abbrev s_law_within : Stmt := topS 32
theorem sc__law_within : FnScope ["options", "left", "found", "claim", "many"] ["options", "left"] (defScope s_law_within) := ⟨rfl, rfl, rfl, by decide +kernel, rfl, by decide +kernel, by decide +kernel⟩
theorem ok__law_within {f : Addr} {fd : FuncData} (F : Fun K "_law_within" "_law_within" s_law_within f fd) (B : Bt mg) (c__law_leaves : CalG P w K mg base 20 "_law_leaves" (spLeaves K 10)) : FnG P w K mg base 21 f fd ["options", "left"] (spWithin K) := by
  refine Fun.okG F sc__law_within (fun vs H Q E h => ?_) (fun cdv A outer s H vs Q E hg hr h => ?_)
  · obtain ⟨_, _, _, _, _, _, _, rfl, _⟩ := h
    rfl
  obtain ⟨a, xs, ds, mu, r, left, n, rfl, h0, hS, hA, hcl, hn, hl4, k⟩ := h
  refine ⟨_, (pss_cons (ps_set (i := 2) sc__law_within.nd rfl (Or.inl rfl) (pe_lst pa_nil))
    (pss_cons (ps_for PassesOwn.never rfl (pi_tup (pv 0)) (pg_name (i := 3) sc__law_within.nd rfl (Or.inl rfl))
      (pss_cons (ps_set (i := 4) sc__law_within.nd rfl (Or.inl rfl) (pc c__law_leaves hg hr (by decide) (by rfl) (pa_cons (pv 3) pa_nil)))
      (pss_cons (ps_expr (pe_bm PySem.F.plainAttrs_list PySem.F.slot_list_append PySem.F.type_list_append mt_append (pv 2) (pa_cons (pe_ifExp (pt_cmpR op_le (pv 4) (pv 1) (nomark _)) (pv 3) (pe_tup (pa_cons pe_str (pa_cons (pe_tup (pa_cons pe_int (pa_cons pe_int pa_nil))) pa_nil)))) pa_nil)))
      (pss_one (ps_set (i := 1) sc__law_within.nd rfl (Or.inl rfl) (pe_callB (call_max2 rfl) (by rfl) B.max bb_max (pa_cons pe_int (pa_cons (pe_op op_sub (pv 1) (pv 4)) pa_nil))))))))
    (pss_one (ps_ret (pe_callTy call_tuple_of (by rfl) B.tuple bb_tuple (pa_cons (pv 2) pa_nil)))))), ?_⟩
  have hl := hA.length
  refine ⟨Nat.zero_le _, fun Fd nF => ?_⟩
  have s0 := same_upd (o := .lst []) nF
  have fl : ∀ {H'' : Hp}, Same H H'' → True := fun _ => trivial
  refine ⟨_, rfl, a, rfl, ⟨xs, s0.seqT hS⟩, for_it (walk_tup (K := K) (xs := xs) (a := a)) (fun i σ H' => ∃ (lf : Int) (o3 o4 : Option V) (ys : List V) (es : List PyData), σ = [some (.ref a), some (.int lf), some (.ref Fd), o3, o4] ∧ Same H H' ∧ H' Fd = some (.lst ys) ∧ DtA K (fun z => mu z ∨ z = Fd) H' ys es ∧ es.length = i ∧ (∀ e ∈ es, e ∈ ds ∨ e = sh11) ∧ Kept n left lf es)
    ⟨left, _, _, [], [], rfl, s0, upd_same, .nil, rfl, (fun e h => nomatch h), 0, by omega, h0, by omega, by simp [leavesA], by simp [PyData.weightAll]⟩ (fun i σ H' _ h => by
      obtain ⟨_, _, _, _, _, _, sm, _⟩ := h
      exact sm.seqT hS) (fun i x σ H1 H2 hi h y => ?_) fun σ H1 h => ?_⟩
  · obtain ⟨lf, o3, o4, ys, es, rfl, sm, hF, hE, hel, hes, hk⟩ := h
    obtain ⟨rfl, hx⟩ := y
    obtain ⟨d, he, hxd⟩ := hA.get hx
    have hm := List.mem_of_getElem? he
    have c := hcl d hm
    have c3 := c.mono hn
    have od := c3.isOk (Nat.le_refl _)
    have dp8 := c3.sd.dp
    have hi4 : i < ds.length := by rw [← hl]; exact (List.getElem?_eq_some_iff.mp hx).1
    refine ⟨_, rfl, r, x, mu, d, rfl, hxd.fut (.of_same sm), c.clm, od, by omega, fun H3 s3 => ?_⟩
    have hF3 := s3 _ _ hF
    have sm3 := sm.trans s3
    have hE3 := hE.fut (.of_same s3)
    have HF : H Fd = none := nF
    have fin : ∀ (v : V) (e : PyData) (H4 : Hp), Same H3 H4 → Dt K (fun z => mu z ∨ z = Fd) H4 v e → (e ∈ ds ∨ e = sh11) → (upd H4 Fd (.lst (ys ++ [v]))) Fd = some (.lst (ys ++ [v])) ∧ Same H (upd H4 Fd (.lst (ys ++ [v]))) ∧ DtA K (fun z => mu z ∨ z = Fd) (upd H4 Fd (.lst (ys ++ [v]))) (ys ++ [v]) (es ++ [e]) ∧ (es ++ [e]).length = i + 1 ∧ ∀ e' ∈ es ++ [e], e' ∈ ds ∨ e' = sh11 := fun v e H4 s4 hv he4 => by
      have hF4 := s4 _ _ hF3
      have f4 : Fut (fun z => mu z ∨ z = Fd) H4 (upd H4 Fd (.lst (ys ++ [v]))) := (fut_at hF4).mono fun z h => .inr h
      refine ⟨upd_same, fun z o q => ?_, ((hE3.fut (.of_same s4)).fut f4).append (.cons (hv.fut f4) .nil), by rw [List.length_append, hel]; rfl, fun e' he' => ?_⟩
      · rw [upd_ne (ne_of_none q HF)]
        exact s4 _ _ (sm3 _ _ q)
      · rcases List.mem_append.mp he' with h | h
        · exact hes e' h
        · rw [List.mem_singleton.mp h]
          exact he4
    have yl : ys.length ≤ 4 := by rw [hE.length]; omega
    refine ⟨_, rfl, .inl ⟨rfl, _, .inl (.inl hF3)⟩, _, rfl, _, rfl, _, _, rfl, rfl, _, rfl, iteP (fun hle => ?_) fun hle => ?_⟩
    · obtain ⟨q1, q2, q3, q4, q5⟩ := fin x d H3 (.refl _) ((Dt.more HF hxd).fut (.of_same sm3)) (.inl hm)
      exact ⟨_, rfl, Fd, ys, x, rfl, rfl, hF3, small1000 (by omega), _, rfl, _, rfl, _, _, rfl, rfl, _, _, rfl, _, _, _, _, _, rfl, q2, q1, q3, q4, q5, hk.real hle c.l1 c.lw⟩
    · refine ⟨by show 2 ≤ sizeLine; decide, fun p1 np1 => ⟨by show 2 ≤ sizeLine; decide, fun p2 np2 => ?_⟩⟩
      have t1 := same_upd (o := .tup [.int 1, .int 1]) np1
      have t2 := same_upd (o := .tup [.str "shares", .ref p1]) np2
      have hv : Dt K (fun z => mu z ∨ z = Fd) (upd (upd H3 p1 (.tup [.int 1, .int 1])) p2 (.tup [.str "shares", .ref p1])) (.ref p2) sh11 := .tup (.inl upd_same) (.cons (.str _) (.cons (.tup (.inl (t2 _ _ upd_same)) (.cons (.int _) (.cons (.int _) .nil))) .nil))
      obtain ⟨q1, q2, q3, q4, q5⟩ := fin (.ref p2) sh11 _ (t1.trans t2) hv (.inr rfl)
      exact ⟨Fd, ys, .ref p2, rfl, rfl, (t1.trans t2) _ _ hF3, small1000 (by omega), _, rfl, _, rfl, _, _, rfl, rfl, _, _, rfl, _, _, _, _, _, rfl, q2, q1, q3, q4, q5, hk.other hle⟩
  · obtain ⟨lf, o3, o4, ys, es, rfl, sm, hF, hE, hel, hes, hk⟩ := h
    refine ⟨_, rfl, Fd, ys, rfl, .inl ⟨.inl (.inl hF), fun l nl => ?_⟩⟩
    have sl := same_upd (o := .tup ys) nl
    exact k l ys es _ (sm.trans sl) (.of upd_same) ((hE.less fun z h => .inl h).fut (.of_same sl)) (by omega) hes ⟨lf, hk⟩
end
end K34
namespace K34
open PySem PySem.Spec PyProof.Rows L2 Sw StX RZ
def spClaimA (K : PySem.W.Frag) : Sp := fun vs H Q E => ∃ n, n ≤ 3 ∧ spClaim K n vs H Q E
theorem claim_any {P : Program} {w : World} {K : PySem.W.Frag} {mg : Str → Option Value} {base : Heap} {k : Nat} {f : Addr} {fd : FuncData} {ps : List Str} (h : ∀ n, n ≤ 3 → FnG P w K mg base k f fd ps (spClaim K n)) : FnG P w K mg base k f fd ps (spClaimA K) :=
  ⟨fun vs H Q E ⟨n, hn, z⟩ => (h n hn).len vs H Q E z, fun g hr e0 hb hv ⟨n, hn, z⟩ => (h n hn).go g hr e0 hb hv z⟩
theorem dtA_set {K : PySem.W.Frag} {mu : Addr → Prop} {H : Hp} : ∀ {xs : List V} {ds : List PyData} {i : Nat} {v : V} {d : PyData}, DtA K mu H xs ds → Dt K mu H v d → DtA K mu H (xs.set i v) (ds.set i d)
  | _, _, _, _, _, .nil, _ => .nil
  | _, _, 0, _, _, .cons _ t, h => .cons h t
  | _, _, i + 1, _, _, .cons g t, h => .cons g (dtA_set t h)
theorem mem_set {α : Type} {l : List α} {i : Nat} {x y : α} (h : x ∈ l.set i y) : x = y ∨ x ∈ l := (List.mem_or_eq_of_mem_set h).symm
theorem ixN0 {n : Nat} (h : 0 < n) : ixN n 0 = some 0 := by
  unfold ixN
  rw [if_pos (by decide), if_pos (by omega)]
  rfl
theorem ixN1 {n : Nat} (h : 1 < n) : ixN n 1 = some 1 := by
  unfold ixN
  rw [if_pos (by decide), if_pos (by omega)]
  rfl
theorem cl_due {r i : Int} {n : Nat} (h0 : 0 ≤ i) (h1 : i < r) (h6 : r ≤ 6) : Cl r n (.tuple [.str "due", .int i, .tuple [.int 4, .int 1]]) := by
  have hn : NumE (.tuple [.int 4, .int 1]) := ⟨⟨4, 1, rfl, by decide, by decide, by decide, by decide, by unfold gI; simp⟩, by decide +kernel⟩
  have h := (SdA.cons (w1 := 3) (w2 := 48) (w := 95) (sd_str (p := 1) (w := 3) (x := "due") (by decide +kernel) (by decide +kernel)) (.cons (w1 := 3) (w2 := 44) ((sd_int (p := 1) (k := 3) (i := i) (by omega) (by decide))) (.cons (w1 := 43) (w2 := 0) (sd_num hn).1 .nil (by decide)) (by decide)) (by decide)).tup
  have q := lw_leaf (n := n) (leaves_other (w := "due") (by decide +kernel) (by decide +kernel) _) h.wt
  exact ⟨h.mono (by omega) (wC_ge n), clm_due h0 h1 (sd_num hn).2, ⟨_, rfl⟩, q.1, q.2⟩
theorem cl_sh {r t : Int} {n : Nat} (h0 : 0 ≤ t) (h1 : t < 2) : Cl r n (.tuple [.str "shares", .tuple [.int (1 + t), .int 1]]) := by
  have hn : NumE (.tuple [.int (1 + t), .int 1]) := ⟨⟨_, _, rfl, by omega, by omega, by decide, by decide, by unfold gI; simp⟩, Nat.le_trans (wt_pair (j := 2) (k := 1) (by omega) (by decide)) (by decide)⟩
  have h := (SdA.cons (w1 := 6) (w2 := 44) (w := 95) (sd_str (p := 1) (w := 6) (x := "shares") (by decide +kernel) (by decide +kernel)) (.cons (w1 := 43) (w2 := 0) (sd_num hn).1 .nil (by decide)) (by decide)).tup
  have q := lw_leaf (n := n) (leaves_other (w := "shares") (by decide +kernel) (by decide +kernel) _) h.wt
  exact ⟨h.mono (by omega) (wC_ge n), clm_shares (sd_num hn).2, ⟨_, rfl⟩, q.1, q.2⟩
section
variable {P : Program} {w : World} {K : PySem.W.Frag} {mg : Str → Option Value} {base : Heap}
def spOptions (K : PySem.W.Frag) : Sp := fun vs H Q _ => ∃ (b : Addr) (mu : Addr → Prop) (r : Int) (md : Bool), vs = [.ref b, .int r, .bl md] ∧ 0 ≤ r ∧ r ≤ 6 ∧ mu b ∧ BagAt H b ∧ MuOk mu H ∧ ∀ p ys ds H', 1 ≤ ds.length → ds.length ≤ 4 → (∀ d ∈ ds, Cl r 2 d) → Rel b H H' → SqT K H' p ys → DtA K mu H' ys ds → Q (.ref p) H'
abbrev s_law_options : Stmt := topS 30
theorem sc__law_options : FnScope ["bag", "ranks", "may_due", "many", "found", "turn"] ["bag", "ranks", "may_due"] (defScope s_law_options) := ⟨rfl, rfl, rfl, by decide +kernel, rfl, by decide +kernel, by decide +kernel⟩
theorem ok__law_options {f : Addr} {fd : FuncData} (F : Fun K "_law_options" "_law_options" s_law_options f fd) (B : Bt mg) (c__law_take : CalG P w K mg base 1 "_law_take" spTake) (c__law_some : CalG P w K mg base 2 "_law_some" spSome) (c__law_claim : CalG P w K mg base 7 "_law_claim" (spClaimA K)) : FnG P w K mg base 8 f fd ["bag", "ranks", "may_due"] (spOptions K) := by
  refine Fun.okG F sc__law_options (fun vs H Q E h => ?_) (fun cdv A outer s H vs Q E hg hr h => ?_)
  · obtain ⟨_, _, _, _, rfl, _⟩ := h
    rfl
  obtain ⟨b, mu, r, md, rfl, hr0, hr6, hmu, hb, hM, k⟩ := h
  refine ⟨_, (pss_cons (ps_set (i := 3) sc__law_options.nd rfl (Or.inl rfl) (pc c__law_some hg hr (by decide) (by rfl) (pa_cons (pv 0) (pa_cons (pe_lst (pa_cons pe_int (pa_cons pe_int (pa_cons pe_int (pa_cons pe_int (pa_cons pe_int (pa_cons pe_int pa_nil))))))) pa_nil))))
    (pss_cons (ps_setLc (i := 4) (own := [("turn", 5)]) rfl sc__law_options.nd rfl rfl (sw_true rfl rfl rfl (by decide +kernel)) (pi_range1 (by rfl) B.range (pa_cons (pv 3) pa_nil)) (blkOk_by (own := [("turn", 5)]) (N := ["bag", "ranks", "may_due", "many", "found", "turn"]) (sc := (defScope s_law_options)) (by decide +kernel)) (fun _ _ _ _ _ => (pg_name (i := 5) sc__law_options.nd rfl (Or.inl rfl))) (fun _ _ _ _ _ => pts_nil) (fun _ _ _ _ _ => (pc c__law_claim hg hr (by decide) (by rfl) (pa_cons (pv 0) (pa_cons (pv 1) (pa_cons (pe_op op_add pe_int (pc c__law_take hg hr (by decide) (by rfl) (pa_cons (pv 0) (pa_cons pe_int pa_nil)))) (pa_cons (pv 2) pa_nil)))))))
    (C8.pss_cut (ps_if (PW.pt (pw_and (pt_cmpR op_gt (pv 3) pe_int (nomark _)) (pw_and (pt_val (pv 2)) (pw_and (pt_cmpR op_gt (pv 1) pe_int (nomark _)) (pw_and1 (pt_cmpR op_eq (pc c__law_take hg hr (by decide) (by rfl) (pa_cons (pv 0) (pa_cons pe_int pa_nil))) pe_int (nomark _)))))))
      (pss_one (ps_asg (pe_tup (pa_cons (pe_tup (pa_cons pe_str (pa_cons (pc c__law_take hg hr (by decide) (by rfl) (pa_cons (pv 0) (pa_cons (pv 1) pa_nil))) (pa_cons (pe_tup (pa_cons pe_int (pa_cons pe_int pa_nil))) pa_nil)))) (pa_cons (pe_tup (pa_cons pe_str (pa_cons (pe_tup (pa_cons (pe_op op_add pe_int (pc c__law_take hg hr (by decide) (by rfl) (pa_cons (pv 0) (pa_cons pe_int pa_nil)))) (pa_cons pe_int pa_nil))) pa_nil))) pa_nil))) (pg_tup (n := 2) rfl (pgs_cons (pg_sub (pv 4) pe_int set_list) (pgs_cons (pg_sub (pv 4) pe_int set_list) pgs_nil)))))
      pss_nil)
    (pss_one (ps_ret (pe_callTy call_tuple_of (by rfl) B.tuple bb_tuple (pa_cons (pv 4) pa_nil))))))), ?_⟩
  have nbp : ∀ {H : Hp} {p : Addr}, BagAt H b → H p = none → p ≠ b := fun {H p} hb np z => by
    obtain ⟨_, _, _, _, _, q, _⟩ := hb
    rw [z, q] at np
    cases np
  refine gv_some (K := K) (mu := mu) (D := fun d => ∃ j : Int, d = .int j ∧ 1 ≤ j ∧ j ≤ 4) (n := 6) hmu rfl (gvA_cons hmu (Sw.ge_int.gv ⟨2, rfl, by decide, by decide⟩) (gvA_cons hmu (Sw.ge_int.gv ⟨1, rfl, by decide, by decide⟩) (gvA_cons hmu (Sw.ge_int.gv ⟨2, rfl, by decide, by decide⟩) (gvA_cons hmu (Sw.ge_int.gv ⟨3, rfl, by decide, by decide⟩) (gvA_cons hmu (Sw.ge_int.gv ⟨4, rfl, by decide, by decide⟩) (gvA_cons hmu (Sw.ge_int.gv ⟨2, rfl, by decide, by decide⟩) gvA_nil)))))) (by decide) (by decide) H (.refl hb) hM _ fun vm H1 dm hdm R1 hvm _ => ?_
  obtain ⟨many, rfl, m0, m1⟩ := hdm
  cases hvm
  have hb1 := R1.bag
  refine ⟨_, rfl, many, rfl, by omega, by omega, fun D nD => ?_⟩
  have nDb := nbp hb1 nD
  refine lc_it (walk_range (lo := 0) (n := many.toNat)) (fun i' H' => ∃ xs ds, H' D = some (.lst xs) ∧ DtA K (fun a => mu a ∨ a = D) H' xs ds ∧ ds.length = i' ∧ (∀ d ∈ ds, Cl r 2 d) ∧ Rel b H1 H') ⟨[], [], upd_same, .nil, rfl, (fun d h => nomatch h), Rel.of_same hb1 (same_upd nD)⟩ (fun _ _ _ _ => True.intro) ?_ ?_
  · rintro i' x' H3 H4 hi' ⟨xs, ds, hD, hA, hlen, hcl, R3⟩ ⟨rfl, hx'⟩
    refine ⟨rfl, _, rfl, _, rfl, _, rfl, b, 2, rfl, R3.bag, by decide, by decide, fun t Ht t0 t1 Rt => ⟨_, _, rfl, rfl, _, rfl, t.toNat + 1, by omega, b, (fun a => mu a ∨ a = D), r, md, congrArg (fun z => [V.ref b, V.int r, V.int z, V.bl md]) (by omega), hr0, hr6, .inl hmu, Rt.bag, ?_, fun v5 H5 d5 hd5 R5 hv5 => ?_⟩⟩
    · intro a h
      rcases h with h | rfl
      · exact ((hM.rel R1).rel (R3.trans Rt)) a h
      · exact .inl (by rw [Rt.keep _ _ nDb hD]; exact fun z => nomatch z)
    have hDt := Rt.keep _ _ nDb hD
    have hD5 := R5.keep _ _ nDb hDt
    have f1 : Fut (fun a => mu a ∨ a = D) H4 H5 := (Rt.trans R5).fut (.inl hmu) R3.bag
    have f2 : Fut (fun a => mu a ∨ a = D) H5 (upd H5 D (.lst (xs ++ [v5]))) := (fut_at hD5).mono fun a z => .inr z
    refine ⟨_, hD5, small1000 (by rw [hA.length]; omega), xs ++ [v5], ds ++ [d5], upd_same, ((hA.fut f1).fut f2).append (.cons (hv5.fut f2) .nil), by rw [List.length_append, hlen]; rfl, fun d hd => ?_, ((R3.trans Rt).trans R5).at hb1 nD⟩
    rcases List.mem_append.mp hd with hd | hd
    · exact hcl d hd
    · rw [List.mem_singleton.mp hd]
      exact hd5.mono (by omega)
  rintro H3 ⟨xs, ds, hD, hA, hlen, hcl, R3⟩
  have hxl := hA.length
  refine ⟨fun σ' H' => ∃ xs ds, σ' = [some (.ref b), some (.int r), some (.bl md), some (.int many), some (.ref D), none] ∧ H' D = some (.lst xs) ∧ DtA K (fun a => mu a ∨ a = D) H' xs ds ∧ ds.length = many.toNat ∧ (∀ d ∈ ds, Cl r 2 d) ∧ Rel b H1 H', ?_, ?_⟩
  · have stay : ∀ H4, Rel b H3 H4 → ∃ xs ds, [some (V.ref b), some (V.int r), some (V.bl md), some (V.int many), some (V.ref D), none] = [some (.ref b), some (.int r), some (.bl md), some (.int many), some (.ref D), none] ∧ H4 D = some (.lst xs) ∧ DtA K (fun a => mu a ∨ a = D) H4 xs ds ∧ ds.length = many.toNat ∧ (∀ d ∈ ds, Cl r 2 d) ∧ Rel b H1 H4 := fun H4 R4 =>
      ⟨xs, ds, rfl, R4.keep _ _ nDb hD, hA.fut (R4.fut (.inl hmu) R3.bag), hlen, hcl, R3.trans R4⟩
    have s0 := stay H3 (.refl R3.bag)
    refine ⟨_, rfl, _, _, rfl, rfl, _, rfl, iteP (fun hm2 => ⟨_, rfl, _, rfl, iteB (fun hmd => ⟨_, rfl, _, _, rfl, rfl, _, rfl, iteP (fun hrp => ?_) fun _ => s0⟩) fun _ => s0⟩) fun _ => s0⟩
    refine ⟨_, rfl, b, 3, rfl, R3.bag, by decide, by decide, fun z H4 z0 z1 R4 => ⟨rfl, _, rfl, iteEq (fun _ => ?_) fun _ => stay H4 R4⟩⟩
    refine ⟨_, rfl, _, rfl, b, r, rfl, R4.bag, by omega, by omega, fun i H5 i0 i1 R5 => ⟨by show 2 ≤ sizeLine; decide, fun p1 np1 => ⟨by show 3 ≤ sizeLine; decide, fun p2 np2 => ?_⟩⟩⟩
    have t1 := same_upd (o := .tup [.int 4, .int 1]) np1
    have t2 := same_upd (o := .tup [.str "due", .int i, .ref p1]) np2
    have hv2 : Dt K (fun a => mu a ∨ a = D) (upd (upd H5 p1 (.tup [.int 4, .int 1])) p2 (.tup [.str "due", .int i, .ref p1])) (.ref p2) (.tuple [.str "due", .int i, .tuple [.int 4, .int 1]]) := .tup (.inl upd_same) (.cons (.str _) (.cons (.int _) (.cons (.tup (.inl (t2 _ _ upd_same)) (.cons (.int _) (.cons (.int _) .nil))) .nil)))
    have R6 := ((R4.trans R5).same t1).same t2
    revert hv2 R6
    generalize upd (upd H5 p1 (.tup [.int 4, .int 1])) p2 (.tup [.str "due", .int i, .ref p1]) = H6
    intro hv2 R6
    refine ⟨_, rfl, b, 2, rfl, R6.bag, by decide, by decide, fun t H7 t0 t1' R7 => ⟨_, _, rfl, rfl, by show 2 ≤ sizeLine; decide, fun p3 np3 => ⟨by show 2 ≤ sizeLine; decide, fun p4 np4 => ⟨by show 2 ≤ sizeLine; decide, fun p5 np5 => ?_⟩⟩⟩⟩
    have t3 := same_upd (o := .tup [.int (1 + t), .int 1]) np3
    have t4 := same_upd (o := .tup [.str "shares", .ref p3]) np4
    have t5 := same_upd (o := .tup [.ref p2, .ref p4]) np5
    have hv4 : Dt K (fun a => mu a ∨ a = D) (upd (upd (upd H7 p3 (.tup [.int (1 + t), .int 1])) p4 (.tup [.str "shares", .ref p3])) p5 (.tup [.ref p2, .ref p4])) (.ref p4) (.tuple [.str "shares", .tuple [.int (1 + t), .int 1]]) := .tup (.inl (t5 _ _ upd_same)) (.cons (.str _) (.cons (.tup (.inl ((t4.trans t5) _ _ upd_same)) (.cons (.int _) (.cons (.int _) .nil))) .nil))
    have hT : SqT K (upd (upd (upd H7 p3 (.tup [.int (1 + t), .int 1])) p4 (.tup [.str "shares", .ref p3])) p5 (.tup [.ref p2, .ref p4])) p5 [.ref p2, .ref p4] := .of upd_same
    have R78 := ((R7.same t3).same t4).same t5
    have hv2' := hv2.fut (R78.fut (mu := fun a => mu a ∨ a = D) (.inl hmu) R6.bag)
    have R8 := R6.trans R78
    revert hv4 hT R8 hv2'
    generalize upd (upd (upd H7 p3 (.tup [.int (1 + t), .int 1])) p4 (.tup [.str "shares", .ref p3])) p5 (.tup [.ref p2, .ref p4]) = H8
    intro hv4 hT hv2' R8
    have hD8 := R8.keep _ _ nDb hD
    have hA8 := hA.fut (R8.fut (mu := fun a => mu a ∨ a = D) (.inl hmu) R3.bag)
    have f8 : Fut (fun a => mu a ∨ a = D) H8 (upd (upd H8 D (.lst (xs.set 0 (.ref p2)))) D (.lst ((xs.set 0 (.ref p2)).set 1 (.ref p4)))) := fun a o e h => ((fut_at hD8).mono fun a z => .inr z : Fut (fun a => mu a ∨ a = D) H8 (upd H8 D (.lst (xs.set 0 (.ref p2))))).trans ((fut_at upd_same).mono fun a z => .inr z) a o e h
    refine ⟨p5, _, rfl, hT, rfl, _, _, rfl, _, rfl, D, _, 0, 0, rfl, rfl, hD8, ixN0 (by omega), _, _, rfl, _, rfl, D, _, 1, 1, rfl, rfl, upd_same, ixN1 (by rw [List.length_set]; omega), rfl, _, (ds.set 0 _).set 1 _, rfl, upd_same, dtA_set (dtA_set (hA8.fut f8) (hv2'.fut f8)) (hv4.fut f8), by rw [List.length_set, List.length_set]; exact hlen, fun d hd => ?_, ?_⟩
    · rcases mem_set hd with rfl | hd
      · exact cl_sh t0 t1'
      · rcases mem_set hd with rfl | hd
        · exact cl_due i0 i1 hr6
        · exact hcl d hd
    · exact ((R3.trans R8).at hb1 nD).at hb1 nD
  · rintro σ' H4 ⟨xs, ds, rfl, hD, hA, hlen, hcl, R4⟩
    refine ⟨_, rfl, D, xs, rfl, .inl ⟨.inl (.inl hD), fun l nl => ?_⟩⟩
    have sl := same_upd (o := .tup xs) nl
    exact k l xs ds _ (by omega) (by omega) hcl ((R1.trans R4).same sl) (.of upd_same) ((hA.less fun z h => .inl h).fut (.of_same sl))
end
end K34
namespace K34
open PySem PySem.Spec PyProof.Rows L2 Sw StX RZ
section
variable {P : Program} {w : World} {K : PySem.W.Frag} {mg : Str → Option Value} {base : Heap}
def spMixed : Sp := fun vs H Q _ => ∃ (b t : Addr) (us : List V), vs = [.ref b, .ref t] ∧ BagAt H b ∧ t ≠ b ∧ H t = some (.lst us) ∧ us.length ≤ 100 ∧ ∀ (p : Addr) (H' : Hp) (zs : List V), Rel b H H' → H' p = some (.lst zs) → H p = none → zs.Perm us → Q (.ref p) H'
abbrev s_law_mixed : Stmt := topS 22
theorem sc__law_mixed : FnScope ["bag", "things", "found", "thing"] ["bag", "things"] (defScope s_law_mixed) := ⟨rfl, rfl, rfl, by decide +kernel, rfl, by decide +kernel, by decide +kernel⟩
theorem ok__law_mixed {f : Addr} {fd : FuncData} (F : Fun K "_law_mixed" "_law_mixed" s_law_mixed f fd) (B : Bt mg) (c__law_take : CalG P w K mg base 1 "_law_take" spTake) : FnG P w K mg base 2 f fd ["bag", "things"] spMixed := by
  refine Fun.okG F sc__law_mixed (fun vs H Q E h => ?_) (fun cdv A outer s H vs Q E hg hr h => ?_)
  · obtain ⟨_, _, _, rfl, _⟩ := h
    rfl
  obtain ⟨b, t, us, rfl, hb, htb, ht, hl, k⟩ := h
  refine ⟨_, (pss_cons (ps_set (i := 2) sc__law_mixed.nd rfl (Or.inl rfl) (pe_lst pa_nil))
    (pss_cons (ps_for PassesOwn.never rfl (pi_list (pv 1)) (pg_name (i := 3) sc__law_mixed.nd rfl (Or.inl rfl))
      (pss_one (ps_expr (pe_bm PySem.F.plainAttrs_list PySem.F.slot_list_insert PySem.F.type_list_insert mt_insert (pv 2) (pa_cons (pc c__law_take hg hr (by decide) (by rfl) (pa_cons (pv 0) (pa_cons (pe_op op_add (pe_callB call_lenA (by rfl) B.len boot_len (pa_cons (pv 2) pa_nil)) pe_int) pa_nil))) (pa_cons (pv 3) pa_nil))))))
    (pss_one (ps_ret (pv 2))))), ?_⟩
  refine ⟨Nat.zero_le _, fun p np => ?_⟩
  have npb : p ≠ b := fun z => by
    obtain ⟨_, _, _, _, _, q, _⟩ := hb
    rw [z, q] at np
    cases np
  have npt : t ≠ p := ne_of_none ht np
  obtain ⟨x0, y0, z0, l0, cs0, hb0, hl0, _⟩ := id hb
  have hL0 : BagL H b l0 := ⟨_, _, _, hb0⟩
  refine ⟨_, rfl, t, rfl, ⟨_, .inl (.inl (same_upd np _ _ ht))⟩, for_it (walk_list (K := K) (xs := us) (a := t)) (fun i σ H' => ∃ (o : Option V) (zs : List V), σ = [some (.ref b), some (.ref t), some (.ref p), o] ∧ Rel b H H' ∧ H' p = some (.lst (zs)) ∧ zs.Perm (us.take i))
    ⟨none, [], rfl, .of_same hb (same_upd np), upd_same, .refl _⟩ (fun i σ H' _ h => by
      obtain ⟨_, _, _, R, _⟩ := h
      exact .inl (.inl (R.keep _ _ htb ht))) (fun i x σ H1 H2 hi h y => ?_) fun σ H1 h => ?_⟩
  · obtain ⟨o, zs, rfl, R, hp, hz⟩ := h
    obtain ⟨rfl, hx⟩ := y
    have hx : us[i]? = some x := hx
    have hi : i < us.length := hi
    have hzl : zs.length = i := by rw [hz.length_eq, List.length_take]; omega
    refine ⟨_, rfl, .inl ⟨rfl, _, .inl (.inl hp)⟩, _, rfl, _, rfl, _, (zs).length, rfl, .inl ⟨_, .inl (.inl hp), rfl⟩, _, _, rfl, rfl, b, _, rfl, R.bag, by omega, by omega, fun c H3 c0 c1 R3 => ?_⟩
    have hp3 := R3.keep _ _ npb hp
    refine ⟨_, rfl, p, _, c, _, rfl, rfl, hp3, small1000 (by omega), c0, by omega, ?_⟩
    obtain ⟨cn, rfl⟩ : ∃ cn : Nat, c = (cn : Int) := ⟨c.toNat, by omega⟩
    rw [Int.toNat_natCast]
    refine ⟨_, zs.take cn ++ [x] ++ zs.drop cn, rfl, ?_, ?_, ?_⟩
    · have R13 := R.trans R3
      refine ⟨fun a u n e => ?_, fun l hL => ?_, ?_⟩
      · rw [upd_ne (ne_of_none e np)]
        exact R13.keep a u n e
      · obtain ⟨x, y, z, e⟩ := R13.cell l hL
        exact ⟨x, y, z, by rw [upd_ne npb.symm]; exact e⟩
      · obtain ⟨x, y, z, l, cs, q1, q2, q3, q4⟩ := R13.bag
        by_cases e : l = p
        · exfalso
          have el : l0 = l := (R13.cell l0 hL0).eq q1
          rw [el, e, np] at hl0
          cases hl0
        · exact ⟨x, y, z, l, cs, by rw [upd_ne npb.symm]; exact q1, by rw [upd_ne e]; exact q2, q3, q4⟩
    · rw [upd_same]
    · rw [List.take_add_one, hx]
      show (zs.take cn ++ [x] ++ zs.drop cn).Perm (us.take i ++ [x])
      have h1 : (zs.take cn ++ [x] ++ zs.drop cn).Perm ([x] ++ zs.take cn ++ zs.drop cn) := (List.perm_append_comm).append_right _
      have h2 : ([x] ++ zs.take cn ++ zs.drop cn) = [x] ++ zs := by rw [List.append_assoc, List.take_append_drop]
      rw [h2] at h1
      exact h1.trans ((List.perm_append_comm).trans (hz.append_right _))
  · obtain ⟨o, zs, rfl, R, hp, hz⟩ := h
    rw [List.take_length] at hz
    exact ⟨_, rfl, k p _ zs R hp np hz⟩
abbrev s_law_firm_options : Stmt := topS 33
theorem sc__law_firm_options : FnScope ["bag", "ranks", "may_due", "turn"] ["bag", "ranks", "may_due"] (defScope s_law_firm_options) := ⟨rfl, rfl, rfl, by decide +kernel, rfl, by decide +kernel, by decide +kernel⟩
theorem ok__law_firm_options {f : Addr} {fd : FuncData} (F : Fun K "_law_firm_options" "_law_firm_options" s_law_firm_options f fd) (B : Bt mg) (c__law_take : CalG P w K mg base 1 "_law_take" spTake) (c__law_claim : CalG P w K mg base 7 "_law_claim" (spClaimA K)) : FnG P w K mg base 8 f fd ["bag", "ranks", "may_due"] (spOptions K) := by
  refine Fun.okG F sc__law_firm_options (fun vs H Q E h => ?_) (fun cdv A outer s H vs Q E hg hr h => ?_)
  · obtain ⟨_, _, _, _, rfl, _⟩ := h
    rfl
  obtain ⟨b, mu, r, md, rfl, hr0, hr6, hmu, hb, hM, k⟩ := h
  refine ⟨_, (pss_one (ps_ret (pe_callTy call_tuple_of (by rfl) B.tuple bb_tuple (pa_cons (pe_lc (own := [("turn", 3)]) rfl sc__law_firm_options.nd (pi_range1 (by rfl) B.range (pa_cons (pe_op op_add pe_int (pc c__law_take hg hr (by decide) (by rfl) (pa_cons (pv 0) (pa_cons pe_int pa_nil)))) pa_nil)) (blkOk_by (own := [("turn", 3)]) (N := ["bag", "ranks", "may_due", "turn"]) (sc := (defScope s_law_firm_options)) (by decide +kernel)) (fun _ _ _ _ _ => (pg_name (i := 3) sc__law_firm_options.nd rfl (Or.inl rfl))) (fun _ _ _ _ _ => pts_nil) (fun _ _ _ _ _ => (pc c__law_claim hg hr (by decide) (by rfl) (pa_cons (pv 0) (pa_cons (pv 1) (pa_cons pe_int (pa_cons (pv 2) pa_nil))))))) pa_nil)))), ?_⟩
  have nbp : ∀ {H : Hp} {p : Addr}, BagAt H b → H p = none → p ≠ b := fun {H p} hb np z => by
    obtain ⟨_, _, _, _, _, q, _⟩ := hb
    rw [z, q] at np
    cases np
  refine ⟨_, rfl, b, 2, rfl, hb, by decide, by decide, fun t H1 t0 t1 R1 => ⟨_, _, rfl, rfl, 1 + t, rfl, by omega, by omega, fun D nD => ?_⟩⟩
  have hb1 := R1.bag
  have nDb := nbp hb1 nD
  refine lc_it (walk_range (lo := 0) (n := (1 + t).toNat)) (fun i' H' => ∃ xs ds, H' D = some (.lst xs) ∧ DtA K (fun a => mu a ∨ a = D) H' xs ds ∧ ds.length = i' ∧ (∀ d ∈ ds, Cl r 2 d) ∧ Rel b H1 H') ⟨[], [], upd_same, .nil, rfl, (fun d h => nomatch h), Rel.of_same hb1 (same_upd nD)⟩ (fun _ _ _ _ => True.intro) ?_ ?_
  · rintro i' x' H3 H4 hi' ⟨xs, ds, hD, hA, hlen, hcl, R3⟩ ⟨rfl, hx'⟩
    refine ⟨rfl, _, rfl, _, rfl, _, rfl, 1, by decide, b, (fun a => mu a ∨ a = D), r, md, rfl, hr0, hr6, .inl hmu, R3.bag, ?_, fun v5 H5 d5 hd5 R5 hv5 => ?_⟩
    · intro a h
      rcases h with h | rfl
      · exact ((hM.rel R1).rel R3) a h
      · exact .inl (by rw [hD]; exact fun z => nomatch z)
    have hD5 := R5.keep _ _ nDb hD
    have f1 : Fut (fun a => mu a ∨ a = D) H4 H5 := R5.fut (.inl hmu) R3.bag
    have f2 : Fut (fun a => mu a ∨ a = D) H5 (upd H5 D (.lst (xs ++ [v5]))) := (fut_at hD5).mono fun a z => .inr z
    refine ⟨_, hD5, small1000 (by rw [hA.length]; omega), xs ++ [v5], ds ++ [d5], upd_same, ((hA.fut f1).fut f2).append (.cons (hv5.fut f2) .nil), by rw [List.length_append, hlen]; rfl, fun d hd => ?_, (R3.trans R5).at hb1 nD⟩
    rcases List.mem_append.mp hd with hd | hd
    · exact hcl d hd
    · rw [List.mem_singleton.mp hd]
      exact hd5.mono (by omega)
  rintro H3 ⟨xs, ds, hD, hA, hlen, hcl, R3⟩
  refine ⟨D, xs, rfl, .inl ⟨.inl (.inl hD), fun l nl => ?_⟩⟩
  have sl := same_upd (o := .tup xs) nl
  exact k l xs ds _ (by omega) (by omega) hcl ((R1.trans R3).same sl) (.of upd_same) ((hA.less fun z h => .inl h).fut (.of_same sl))
end
end K34
namespace K34
open PySem PySem.Spec PyProof.Rows L2 Sw StX RZ
/-- texts in order, not after -/
def leS (x y : Str) : Prop := x.cps.toList ≤ y.cps.toList
theorem str_ext {x y : Str} (h : x.cps.toList = y.cps.toList) : x = y := by
  cases x; cases y
  simp only [Str.mk.injEq]
  exact Array.toList_inj.mp h
theorem leS_trans {x y z : Str} (a : leS x y) (b : leS y z) : leS x z := List.le_trans a b
theorem leS_anti {x y : Str} (a : leS x y) (b : leS y x) : x = y := str_ext (List.le_antisymm a b)
theorem leS_rising {p x : Str} (h : (!ltCps x.cps.toList p.cps.toList) = true) : leS p x := by
  rw [ltCps_eq, Bool.not_eq_true', decide_eq_false_iff_not] at h
  exact List.not_lt.mp h
theorem rising_pair : ∀ (l : List Str) (p : Str), risingS p l = true → (p :: l).Pairwise leS
  | [], p, _ => List.pairwise_singleton _ _
  | x :: r, p, h => by
    have h' : (!ltCps x.cps.toList p.cps.toList && risingS x r) = true := h
    rw [Bool.and_eq_true] at h'
    have a := leS_rising h'.1
    have b := rising_pair r x h'.2
    refine List.pairwise_cons.mpr ⟨fun y hy => ?_, b⟩
    rcases List.mem_cons.mp hy with e | e
    · rw [e]; exact a
    · exact leS_trans a ((List.pairwise_cons.mp b).1 y e)
theorem sorted_pair : ∀ (l : List Str), sortedS l = true → l.Pairwise leS
  | [], _ => List.Pairwise.nil
  | x :: r, h => rising_pair r x h
theorem perm_sorted : ∀ (xs ys : List Str), xs.Perm ys → xs.Pairwise leS → ys.Pairwise leS → xs = ys
  | [], ys, p, _, _ => (List.nil_perm.mp p).symm
  | x :: r, [], p, _, _ => absurd (List.perm_nil.mp p) (fun z => nomatch z)
  | x :: r, y :: s, p, a, b => by
    have a' := List.pairwise_cons.mp a
    have b' := List.pairwise_cons.mp b
    have e : x = y := by
      have h1 : leS x y := by
        rcases List.mem_cons.mp (p.mem_iff.mpr (List.mem_cons_self (a := y) (l := s))) with z | z
        · rw [z]; exact List.le_refl _
        · exact a'.1 y z
      have h2 : leS y x := by
        rcases List.mem_cons.mp (p.mem_iff.mp (List.mem_cons_self (a := x) (l := r))) with z | z
        · rw [z]; exact List.le_refl _
        · exact b'.1 x z
      exact leS_anti h1 h2
    subst e
    rw [perm_sorted r s (List.perm_cons x |>.mp p) a'.2 b'.2]
theorem lt_le {x y : Str} (h : ltS x y = true) : leS x y ∧ x ≠ y := by
  have h := of_decide_eq_true h
  exact ⟨List.le_of_lt h, fun e => List.lt_irrefl _ (e ▸ h)⟩
theorem le_lt {x y : Str} (a : leS x y) (n : x ≠ y) : ltS x y = true := by
  refine decide_eq_true ?_
  refine Classical.byContradiction fun h => n (leS_anti a (List.not_lt.mp h))
theorem asc_pair : ∀ xs : List Str, ascS xs = true ↔ xs.Pairwise fun x y => leS x y ∧ x ≠ y
  | [] => ⟨fun _ => List.Pairwise.nil, fun _ => rfl⟩
  | [x] => ⟨fun _ => List.pairwise_singleton _ _, fun _ => rfl⟩
  | x :: y :: r => by
    rw [show ascS (x :: y :: r) = (ltS x y && ascS (y :: r)) from rfl, Bool.and_eq_true, asc_pair (y :: r), List.pairwise_cons (a := x)]
    constructor
    · rintro ⟨h1, h2⟩
      refine ⟨fun z hz => ?_, h2⟩
      have q := lt_le h1
      rcases List.mem_cons.mp hz with e | e
      · rw [e]; exact q
      · have t := (List.pairwise_cons.mp h2).1 z e
        refine ⟨leS_trans q.1 t.1, fun e2 => ?_⟩
        subst e2
        exact q.2 (leS_anti q.1 t.1)
    · rintro ⟨h1, h2⟩
      have q := h1 y List.mem_cons_self
      exact ⟨le_lt q.1 q.2, h2⟩
theorem perm_few2 : ∀ {m ss : List Str}, m.Nodup → (∀ z, z ∈ m → z ∈ ss) → m.length ≤ ss.length
  | [], ss, _, _ => Nat.zero_le _
  | x :: m, ss, nd, hs => by
    obtain ⟨n1, n2⟩ := List.nodup_cons.mp nd
    have hx := hs x List.mem_cons_self
    have p := perm_few2 (m := m) (ss := ss.erase x) n2 (fun z hz => (List.mem_erase_of_ne (show z ≠ x from fun e => n1 (e ▸ hz))).mpr (hs z (List.mem_cons_of_mem _ hz)))
    rw [List.length_erase_of_mem hx] at p
    have h1 : 0 < ss.length := List.length_pos_of_mem hx
    rw [List.length_cons]
    omega
/-- names == sorted(set(names)) -/
theorem names_asc {ns m ys : List Str} (nd : m.Nodup) (hm : ∀ z, z ∈ m ↔ z ∈ ns) (pm : ys.Perm m) (hs : sortedS ys = true) : (ns = ys) ↔ ascS ns = true := by
  rw [asc_pair]
  have hp := sorted_pair ys hs
  have ny : ys.Nodup := pm.nodup_iff.mpr nd
  constructor
  · intro e
    rw [e]
    have := List.pairwise_and_iff.mpr ⟨hp, ny⟩
    exact this
  · intro h
    have h1 : ns.Pairwise leS := h.imp fun q => q.1
    have h2 : ns.Nodup := h.imp fun q => q.2
    refine perm_sorted ns ys ?_ h1 hp
    refine (perm_few ns ys h2 (fun z hz => pm.mem_iff.mpr ((hm z).mpr hz)) ?_)
    rw [pm.length_eq]
    exact (perm_few2 nd fun z hz => (hm z).mp hz)
end K34
namespace K34
open PySem PySem.Spec PyProof.Rows L2 Sw StX RZ
/-- anything may change: what is known of tuples alone -/
abbrev mT : Addr → Prop := fun _ => True
mutual
theorem Dt.pure {K : PySem.W.Frag} {mu mv : Addr → Prop} {H : Hp} : ∀ {v : V} {d : PyData}, smD d = true → Dt K mu H v d → Dt K mv H v d
  | _, _, _, .non => .non
  | _, _, _, .bl b => .bl b
  | _, _, _, .int i => .int i
  | _, _, _, .str x => .str x
  | _, _, h, .lst _ _ _ => by simp [smD] at h
  | _, _, h, .dct _ _ _ => by simp [smD] at h
  | _, _, h, .tup r hA => .tup r (DtA.pure (by simpa only [smD] using h) hA)
  | _, _, h, .tupK r hA => .tupK r (DtA.pure (by simpa only [smD] using h) hA)
theorem DtA.pure {K : PySem.W.Frag} {mu mv : Addr → Prop} {H : Hp} : ∀ {vs : List V} {ds : List PyData}, smA ds = true → DtA K mu H vs ds → DtA K mv H vs ds
  | _, _, _, .nil => .nil
  | _, _, h, .cons a t => by
    simp only [smA, Bool.and_eq_true] at h
    exact .cons (Dt.pure h.1 a) (DtA.pure h.2 t)
end
theorem Rel.futT {b : Addr} {H H' : Hp} (r : Rel b H H') (hb : BagAt H b) : Fut mT H H' := r.fut trivial hb
theorem futT_lst {H : Hp} {a : Addr} {xs : List V} {o : HO} (h : H a = some (.lst xs)) : Fut mT H (upd H a o) := (fut_at h).mono fun _ _ => trivial
theorem futT_dct {H : Hp} {a : Addr} {kvs : List (Key × V)} {o : HO} (h : H a = some (.dK kvs)) : Fut mT H (upd H a o) := (fut_atD h).mono fun _ _ => trivial
theorem smA_app : ∀ xs ys : List PyData, smA (xs ++ ys) = (smA xs && smA ys)
  | [], ys => by simp [smA]
  | x :: xs, ys => by simp [smA, smA_app xs ys, Bool.and_assoc]
theorem smA_iff : ∀ {ds : List PyData}, smA ds = true ↔ ∀ d ∈ ds, smD d = true
  | [] => by simp [smA]
  | d :: ds => by
    simp only [smA, Bool.and_eq_true, List.mem_cons, forall_eq_or_imp, smA_iff (ds := ds)]
theorem smA_nd : ∀ {ds : List PyData}, smA ds = true → PyData.hasDictAll ds = false
  | [], _ => rfl
  | d :: ds, h => by
    simp only [smA, Bool.and_eq_true] at h
    have : d.hasDict = false := by
      cases d with
      | tuple xs =>
        have h1 := h.1
        simp only [smD] at h1
        simp only [PyData.hasDict]
        exact smA_nd h1
      | list _ => have h1 := h.1; simp [smD] at h1
      | dict _ => have h1 := h.1; simp [smD] at h1
      | _ => simp [PyData.hasDict]
    simp only [PyData.hasDictAll, this, smA_nd h.2, Bool.or_self]
theorem pair_app {α β : Type} {R : α → β → Prop} : ∀ {as bs : List α} {cs ds : List β}, Paired R as cs → Paired R bs ds → Paired R (as ++ bs) (cs ++ ds)
  | _, _, _, _, .nil, h => h
  | _, _, _, _, .cons a t, h => .cons a (pair_app t h)
def unS : V → Str
  | .str x => x
  | _ => ""
theorem map_unS : ∀ {zs : List V}, (∀ z ∈ zs, ∃ x, z = .str x) → (zs.map unS).map V.str = zs
  | [], _ => rfl
  | z :: zs, h => by
    obtain ⟨x, rfl⟩ := h z List.mem_cons_self
    rw [List.map_cons, List.map_cons, map_unS fun y hy => h y (List.mem_cons_of_mem _ hy)]
    rfl
/-- a list of texts, mixed -/
theorem perm_strs {zs : List V} {us : List Str} (h : zs.Perm (us.map V.str)) : ∃ ys : List Str, zs = ys.map V.str ∧ ys.Perm us := by
  have hs : ∀ z ∈ zs, ∃ x, z = .str x := fun z hz => by
    obtain ⟨x, _, e⟩ := List.mem_map.mp (h.mem_iff.mp hz)
    exact ⟨x, e.symm⟩
  refine ⟨zs.map unS, (map_unS hs).symm, ?_⟩
  have := h.map unS
  rw [List.map_map] at this
  have e : (unS ∘ V.str) = id := rfl
  rw [e, List.map_id] at this
  exact this
theorem str_nodup {ns ys : List Str} (h : ys.Perm ns) (nd : ns.Nodup) (hs : sortedS ys = true) : ascS ys = true := by
  rw [asc_pair]
  exact List.pairwise_and_iff.mpr ⟨sorted_pair ys hs, h.nodup_iff.mpr nd⟩
def NN : List Str := ["a", "b", "c", "dog", "e", "fir", "g", "h"]
def PN : List Str := ["x", "y", "z", "ann", "bo", "w"]
theorem nn_nd : NN.Nodup := by decide +kernel
theorem nn_pn : ∀ n ∈ NN, ∀ p ∈ PN, p ≠ n := by decide +kernel
theorem names_ok : ∀ n ∈ NN ++ PN, nameS n = true ∧ smD (.str n) = true ∧ (PyData.str n).weight ≤ 3 := by decide +kernel
/-- the place of a name -/
theorem idx_str {ys : List Str} {y : Str} (h : y ∈ ys) : ∃ (j : Nat) (z : V), (ys.map V.str)[j]? = some z ∧ eqV z (.str y) = true ∧ ∀ (m : Nat) (z' : V), m < j → (ys.map V.str)[m]? = some z' → eqV z' (.str y) = false := by
  induction ys with
  | nil => cases h
  | cons x xs ih =>
    by_cases e : x = y
    · subst e
      exact ⟨0, .str x, rfl, by simp [eqV], fun m _ hm => absurd hm (Nat.not_lt_zero m)⟩
    · obtain ⟨j, z, h1, h2, h3⟩ := ih (by
        rcases List.mem_cons.mp h with q | q
        · exact absurd q.symm e
        · exact q)
      refine ⟨j + 1, z, by simpa using h1, h2, fun m z' hm hz => ?_⟩
      cases m with
      | zero =>
        simp only [List.map_cons, List.getElem?_cons_zero, Option.some.injEq] at hz
        subst hz
        simp only [eqV, beq_eq_false_iff_ne]
        exact e
      | succ m => exact h3 m z' (by omega) (by simpa using hz)
theorem inV_str {y : Str} {ys : List Str} : inV (.str y) (ys.map V.str) = decide (y ∈ ys) := by
  rw [Bool.eq_iff_iff, decide_eq_true_eq]
  unfold inV
  rw [List.any_eq_true]
  constructor
  · rintro ⟨z, hz, e⟩
    obtain ⟨x, hx, rfl⟩ := List.mem_map.mp hz
    have : x = y := by simpa [eqV] using e
    rw [← this]
    exact hx
  · intro h
    exact ⟨.str y, List.mem_map_of_mem h, by simp [eqV]⟩
theorem flat_strs {ys : List Str} : (ys.map V.str).all flatV = true := by
  rw [List.all_eq_true]
  intro z hz
  obtain ⟨x, _, rfl⟩ := List.mem_map.mp hz
  rfl
/-- holdings, so far -/
structure HsF (name : Str) (r : Int) (hs : List PyData) : Prop where
  all : (hs.all fun h => holdD r h && !headIs name h) = true
  sm : smA hs = true
  dp : ∀ h ∈ hs, h.depth ≤ 8
/-- a holding's options -/
structure OpF (r : Int) (es : List PyData) : Prop where
  ne : es ≠ []
  all : clmA r es = true
  sm : smA es = true
  dp : ∀ e ∈ es, e.depth ≤ 6
theorem opF_of {r : Int} {ds es : List PyData} (hd : ∀ d ∈ ds, Cl r 2 d) (he : ∀ e ∈ es, e ∈ ds ∨ e = sh11) (hne : es ≠ []) : OpF r es := by
  have h : ∀ e ∈ es, Cl r 2 e := fun e he' => by
    rcases he e he' with h | rfl
    · exact hd e h
    · exact cl_sh11
  refine ⟨hne, ?_, smA_iff.mpr fun e he => (h e he).sd.ok, fun e he => Nat.le_trans (h e he).sd.dp (by decide)⟩
  rw [clmA_all, List.all_eq_true]
  exact fun e he => (h e he).clm
theorem OpF.take {r : Int} {es : List PyData} (h : OpF r es) : OpF r (es.take 1) := by
  obtain ⟨e, es', rfl⟩ : ∃ e es', es = e :: es' := by
    cases es with
    | nil => exact absurd rfl h.ne
    | cons e es' => exact ⟨_, _, rfl⟩
  refine ⟨by simp, ?_, ?_, fun x hx => h.dp x (List.mem_of_mem_take hx)⟩
  · have := h.all
    rw [clmA_all, List.all_eq_true] at this ⊢
    exact fun x hx => this x (List.mem_of_mem_take hx)
  · exact smA_iff.mpr fun x hx => smA_iff.mp h.sm x (List.mem_of_mem_take hx)
/-- one holding more -/
theorem hold_ok {name p : Str} {r : Int} {es : List PyData} (hp : p ∈ NN ++ PN) (hn : p ≠ name) (ho : OpF r es) : (holdD r (.tuple [.str p, .tuple es]) && !headIs name (.tuple [.str p, .tuple es])) = true ∧ smD (.tuple [.str p, .tuple es]) = true ∧ (PyData.tuple [.str p, .tuple es]).depth ≤ 8 ∧ (PyData.tuple [.str p, .tuple es]).weight ≤ 5 + PyData.weightAll es := by
  obtain ⟨n1, n2, n3⟩ := names_ok p hp
  have e : (!es.isEmpty) = true := by
    cases es with
    | nil => exact absurd rfl ho.ne
    | cons _ _ => rfl
  refine ⟨?_, ?_, ?_, ?_⟩
  · show ((nameS p && (!es.isEmpty && clmA r es)) && !decide (p = name)) = true
    rw [n1, e, ho.all, decide_eq_false hn]
    rfl
  · simp only [smD] at n2 ⊢
    simp only [smA, smD, n2, ho.sm, Bool.and_self]
  · have := dpA_le.mpr ho.dp
    simp only [PyData.depth, PyData.depthAll]
    omega
  · simp only [PyData.weight, PyData.weightAll] at n3 ⊢
    omega
theorem HsF.insert {name : Str} {r : Int} {hs : List PyData} {h : PyData} (hh : HsF name r hs) (n : Nat) (h1 : (holdD r h && !headIs name h) = true) (h2 : smD h = true) (h3 : h.depth ≤ 8) : HsF name r (hs.take n ++ [h] ++ hs.drop n) := by
  have hm : ∀ x ∈ hs.take n ++ [h] ++ hs.drop n, x ∈ hs ∨ x = h := fun x hx => by
    simp only [List.mem_append, List.mem_singleton] at hx
    rcases hx with (hx | hx) | hx
    · exact .inl (List.mem_of_mem_take hx)
    · exact .inr hx
    · exact .inl (List.mem_of_mem_drop hx)
  refine ⟨List.all_eq_true.mpr fun x hx => ?_, smA_iff.mpr fun x hx => ?_, fun x hx => ?_⟩
  · rcases hm x hx with q | rfl
    · exact List.all_eq_true.mp hh.all x q
    · exact h1
  · rcases hm x hx with q | rfl
    · exact smA_iff.mp hh.sm x q
    · exact h2
  · rcases hm x hx with q | rfl
    · exact hh.dp x q
    · exact h3
theorem wtA_insert (hs : List PyData) (n : Nat) (h : PyData) : PyData.weightAll (hs.take n ++ [h] ++ hs.drop n) = PyData.weightAll hs + h.weight + 1 := by
  have := wtA_take hs n
  rw [wtA_app, wt_one]
  omega
/-- firms, so far -/
structure FsF (ns : List Str) (fs : List PyData) : Prop where
  all : fs.all firmD = true
  sm : smA fs = true
  dp : ∀ f ∈ fs, f.depth ≤ 10
  nm : fs.map nmS = ns
theorem FsF.snoc {ns : List Str} {fs : List PyData} {name : Str} {r : Int} {hs : List PyData} (h : FsF ns fs) (hn : name ∈ NN) (r0 : 0 ≤ r) (r6 : r ≤ 6) (hh : HsF name r hs) : FsF (ns ++ [name]) (fs ++ [.tuple [.str name, .int r, .tuple hs]]) := by
  obtain ⟨n1, n2, n3⟩ := names_ok name (List.mem_append_left _ hn)
  refine ⟨?_, ?_, fun f hf => ?_, ?_⟩
  · rw [List.all_append, h.all, List.all_cons]
    show (true && ((nameS name && (decide (0 ≤ r ∧ r ≤ 6) && (hs.all fun h => holdD r h && !headIs name h))) && true)) = true
    rw [n1, decide_eq_true ⟨r0, r6⟩, hh.all]
    rfl
  · have hi : decide (r.natAbs < 10 ^ 40) = true := decide_eq_true (Nat.lt_of_le_of_lt (show r.natAbs ≤ 6 by omega) (by decide +kernel))
    simp only [smD] at n2
    rw [smA_app, h.sm]
    simp only [smA, smD, n2, hh.sm, hi, Bool.and_self]
  · rcases List.mem_append.mp hf with q | q
    · exact h.dp f q
    · rw [List.mem_singleton.mp q]
      have := dpA_le.mpr hh.dp
      simp only [PyData.depth, PyData.depthAll]
      omega
  · rw [List.map_append, h.nm]
    rfl
theorem firm_wt {name : Str} {r : Int} {hs : List PyData} (hn : name ∈ NN) (r0 : 0 ≤ r) (r6 : r ≤ 6) : (PyData.tuple [.str name, .int r, .tuple hs]).weight ≤ 9 + PyData.weightAll hs := by
  obtain ⟨n1, n2, n3⟩ := names_ok name (List.mem_append_left _ hn)
  have h3 : (PyData.int r).weight ≤ 3 := (sd_int (p := 0) (k := 3) (i := r) (by omega) (by decide)).wt
  simp only [PyData.weight, PyData.weightAll] at n3 h3 ⊢
  omega
/-- how often a person may still choose -/
structure FreeOk (kvs : List (Key × V)) (ps : List Str) : Prop where
  there : ∀ p ∈ ps, (valV kvs (.inr p)).isSome = true
  vals : ∀ j v, valV kvs j = some v → ∃ i : Int, v = .int i
  few : kvs.length ≤ 100
theorem FreeOk.get {kvs : List (Key × V)} {ps : List Str} {p : Str} (h : FreeOk kvs ps) (hp : p ∈ ps) : ∃ i : Int, valV kvs (.inr p) = some (.int i) := by
  obtain ⟨v, hv⟩ := Option.isSome_iff_exists.mp (h.there p hp)
  obtain ⟨i, rfl⟩ := h.vals _ _ hv
  exact ⟨i, hv⟩
theorem FreeOk.put {kvs : List (Key × V)} {ps : List Str} {p : Str} (h : FreeOk kvs ps) (hp : p ∈ ps) (i : Int) : FreeOk (putK kvs (.inr p) (.int i)) ps := by
  refine ⟨fun q hq => ?_, fun j v hv => ?_, ?_⟩
  · rw [valV_put]
    split
    · rfl
    · exact h.there q hq
  · rw [valV_put] at hv
    split at hv
    · cases hv
      exact ⟨i, rfl⟩
    · exact h.vals j v hv
  · unfold putK
    rw [if_pos (by rw [valV_any]; exact h.there p hp), List.length_map]
    exact h.few
theorem free_merge : ∀ (ps : List Str) (kvs : List (Key × V)), (∀ j v, valV kvs j = some v → ∃ i : Int, v = .int i) → (∀ j v, valV (mergeK kvs (ps.map fun x => (.inr x, V.int 4))) j = some v → ∃ i : Int, v = .int i) ∧ (∀ q, (valV kvs (.inr q)).isSome = true ∨ q ∈ ps → (valV (mergeK kvs (ps.map fun x => (.inr x, V.int 4))) (.inr q)).isSome = true)
  | [], kvs, h => ⟨h, fun q hq => hq.elim id fun z => nomatch z⟩
  | p :: ps, kvs, h => by
    have e : mergeK kvs ((p :: ps).map fun x => (.inr x, V.int 4)) = mergeK (putK kvs (.inr p) (.int 4)) (ps.map fun x => (.inr x, V.int 4)) := rfl
    rw [e]
    obtain ⟨h1, h2⟩ := free_merge ps (putK kvs (.inr p) (.int 4)) (fun j v hv => by
      rw [valV_put] at hv
      split at hv
      · cases hv
        exact ⟨4, rfl⟩
      · exact h j v hv)
    refine ⟨h1, fun q hq => h2 q ?_⟩
    rw [valV_put]
    split
    · exact .inl rfl
    · rename_i ne
      rcases hq with hq | hq
      · exact .inl hq
      · rcases List.mem_cons.mp hq with rfl | hq
        · exact absurd rfl ne
        · exact .inr hq
theorem free_new {ps : List Str} (hl : ps.length ≤ 100) : FreeOk (mergeK [] (ps.map fun x => (.inr x, V.int 4))) ps := by
  obtain ⟨h1, h2⟩ := free_merge ps [] (fun j v hv => by cases hv)
  refine ⟨fun p hp => h2 p (.inr hp), h1, ?_⟩
  have := length_mergeK (ps.map fun x => ((.inr x : Key), V.int 4)) []
  rw [List.length_map] at this
  simpa using Nat.le_trans this (by simpa using hl)
/-- a firm's holdings are on the way -/
structure Wv (K : PySem.W.Frag) (b : Addr) (G0 : Hp) (Fr Fd Hg : Addr) (kvs : List (Key × V)) (xs ys : List V) (fs hs : List PyData) (H : Hp) : Prop where
  rel : Rel b G0 H
  fr : H Fr = some (.dK kvs)
  fd : H Fd = some (.lst xs)
  dfs : DtA K mT H xs fs
  hg : H Hg = some (.lst ys)
  dhs : DtA K mT H ys hs
section
variable {K : PySem.W.Frag} {b : Addr} {G0 : Hp} {Fr Fd Hg : Addr} {kvs : List (Key × V)} {xs ys : List V} {fs hs : List PyData} {H H' : Hp}
theorem Wv.go (w : Wv K b G0 Fr Fd Hg kvs xs ys fs hs H) (R : Rel b H H') (n1 : Fr ≠ b) (n2 : Fd ≠ b) (n3 : Hg ≠ b) : Wv K b G0 Fr Fd Hg kvs xs ys fs hs H' :=
  ⟨w.rel.trans R, R.keep _ _ n1 w.fr, R.keep _ _ n2 w.fd, w.dfs.fut (Rel.futT R w.rel.bag), R.keep _ _ n3 w.hg, w.dhs.fut (Rel.futT R w.rel.bag)⟩
theorem Wv.same (w : Wv K b G0 Fr Fd Hg kvs xs ys fs hs H) (s : Same H H') : Wv K b G0 Fr Fd Hg kvs xs ys fs hs H' :=
  ⟨w.rel.same s, s _ _ w.fr, s _ _ w.fd, w.dfs.fut (.of_same s), s _ _ w.hg, w.dhs.fut (.of_same s)⟩
theorem Wv.setFr (w : Wv K b G0 Fr Fd Hg kvs xs ys fs hs H) (hb : BagAt G0 b) (n : G0 Fr = none) (n1 : Fd ≠ Fr) (n2 : Hg ≠ Fr) (kvs' : List (Key × V)) : Wv K b G0 Fr Fd Hg kvs' xs ys fs hs (upd H Fr (.dK kvs')) :=
  ⟨w.rel.at hb n, upd_same, by rw [upd_ne n1]; exact w.fd, w.dfs.fut (futT_dct w.fr), by rw [upd_ne n2]; exact w.hg, w.dhs.fut (futT_dct w.fr)⟩
theorem Wv.setHg (w : Wv K b G0 Fr Fd Hg kvs xs ys fs hs H) (hb : BagAt G0 b) (n : G0 Hg = none) (n1 : Fd ≠ Hg) (n2 : Fr ≠ Hg) {ys' : List V} {hs' : List PyData} (h : DtA K mT H ys' hs') : Wv K b G0 Fr Fd Hg kvs xs ys' fs hs' (upd H Hg (.lst ys')) :=
  ⟨w.rel.at hb n, by rw [upd_ne n2]; exact w.fr, by rw [upd_ne n1]; exact w.fd, w.dfs.fut (futT_lst w.hg), upd_same, h.fut (futT_lst w.hg)⟩
end
end K34
namespace K34
open PySem PySem.Spec PyProof.Rows L2 Sw StX RZ
section
variable {P : Program} {w : World} {K : PySem.W.Frag} {mg : Str → Option Value} {base : Heap}
/-- a drawn web of so many firms -/
structure Wb (n : Nat) (d : PyData) : Prop where
  sd : Sd 11 9600 d
  web : webD d = true
  len : ∃ fs, d = .tuple fs ∧ fs.length = n
def spWeb (K : PySem.W.Frag) : Sp := fun vs H Q _ => ∃ (b : Addr) (mu : Addr → Prop) (n m : Nat), vs = [.ref b, .int n, .int m] ∧ n ≤ 4 ∧ m ≤ 4 ∧ mu b ∧ BagAt H b ∧ MuOk mu H ∧ ∀ v H' d, Wb n d → Rel b H H' → Dt K mu H' v d → Q v H'
abbrev s_law_web : Stmt := topS 34
theorem sc__law_web : FnScope ["bag", "firms", "more", "names", "people", "order", "free", "found", "purse", "one", "name", "ranks", "holdings", "turn", "others", "holder", "options"] ["bag", "firms", "more"] (defScope s_law_web) := ⟨rfl, rfl, rfl, by decide +kernel, rfl, by decide +kernel, by decide +kernel⟩
theorem ok__law_web {f : Addr} {fd : FuncData} (F : Fun K "_law_web" "_law_web" s_law_web f fd) (B : Bt mg) (TS : mg "sum" = none) (TSO : mg "sorted" = none) (c__law_take : CalG P w K mg base 1 "_law_take" spTake) (c__law_some : CalG P w K mg base 2 "_law_some" spSome) (c__law_mixed : CalG P w K mg base 2 "_law_mixed" spMixed) (c__law_number : CalG P w K mg base 3 "_law_number" (spNumE K)) (c__law_options : CalG P w K mg base 8 "_law_options" (spOptions K)) (c__law_firm_options : CalG P w K mg base 8 "_law_firm_options" (spOptions K)) (c__law_leaves : CalG P w K mg base 20 "_law_leaves" (spLeaves K 10)) (c__law_within : CalG P w K mg base 21 "_law_within" (spWithin K)) : FnG P w K mg base 22 f fd ["bag", "firms", "more"] (spWeb K) := by
  refine Fun.okG F sc__law_web (fun vs H Q E h => ?_) (fun cdv A outer s H vs Q E hg hr h => ?_)
  · obtain ⟨_, _, _, _, rfl, _⟩ := h
    rfl
  obtain ⟨b, mu, n, mo, rfl, hn, hmo, hmu, hb, hM, k⟩ := h
  have hu := Room.u64 hr
  have hu1 : (A.deeper (envOfC "_law_web" (defScope s_law_web) s.heap.objs.size f cdv)).units + 1 < cLine := by omega
  refine ⟨_, (pss_cons (ps_set (i := 3) sc__law_web.nd rfl (Or.inl rfl) (pe_callB cr_sortedS (by rfl) TSO bb_sorted (pa_cons (pe_slice sl_list (pc c__law_mixed hg hr (by omega) (by rfl) (pa_cons (pv 0) (pa_cons (pe_lst (pa_cons pe_str (pa_cons pe_str (pa_cons pe_str (pa_cons pe_str (pa_cons pe_str (pa_cons pe_str (pa_cons pe_str (pa_cons pe_str pa_nil))))))))) pa_nil))) po_none (po_some (pv 1))) pa_nil)))
    (pss_cons (ps_set (i := 4) sc__law_web.nd rfl (Or.inl rfl) (pe_slice sl_list (pc c__law_mixed hg hr (by omega) (by rfl) (pa_cons (pv 0) (pa_cons (pe_lst (pa_cons pe_str (pa_cons pe_str (pa_cons pe_str (pa_cons pe_str (pa_cons pe_str (pa_cons pe_str pa_nil))))))) pa_nil))) po_none (po_some (pc c__law_some hg hr (by omega) (by rfl) (pa_cons (pv 0) (pa_cons (pe_lst (pa_cons pe_int (pa_cons pe_int (pa_cons pe_int (pa_cons pe_int pa_nil))))) pa_nil))))))
    (pss_cons (ps_asg (pe_tup (pa_cons (pc c__law_mixed hg hr (by omega) (by rfl) (pa_cons (pv 0) (pa_cons (pv 3) pa_nil))) (pa_cons (pe_callTy (call_dictPN rfl) (by rfl) B.dict bb_dict (pa_cons (pe_lc (own := [("one", 9)]) rfl sc__law_web.nd (pi_list (pv 4)) (blkOk_by (own := [("one", 9)]) (N := ["bag", "firms", "more", "names", "people", "order", "free", "found", "purse", "one", "name", "ranks", "holdings", "turn", "others", "holder", "options"]) (sc := (defScope s_law_web)) (by decide +kernel)) (fun _ _ _ _ _ => (pg_name (i := 9) sc__law_web.nd rfl (Or.inl rfl))) (fun _ _ _ _ _ => pts_nil) (fun _ _ _ _ _ => (pe_tup (pa_cons (pv 9) (pa_cons pe_int pa_nil))))) pa_nil)) (pa_cons (pe_lst pa_nil) (pa_cons pe_int pa_nil))))) (pg_tup (n := 4) rfl (pgs_cons (pg_name (i := 5) sc__law_web.nd rfl (Or.inl rfl)) (pgs_cons (pg_name (i := 6) sc__law_web.nd rfl (Or.inl rfl)) (pgs_cons (pg_name (i := 7) sc__law_web.nd rfl (Or.inl rfl)) (pgs_cons (pg_name (i := 8) sc__law_web.nd rfl (Or.inl rfl)) pgs_nil))))))
    (pss_cons (ps_for PassesOwn.never rfl (pi_list (pv 3)) (pg_name (i := 10) sc__law_web.nd rfl (Or.inr rfl))
      (pss_cons (ps_set (i := 11) sc__law_web.nd rfl (Or.inl rfl) (pc c__law_some hg hr (by omega) (by rfl) (pa_cons (pv 0) (pa_cons (pe_lst (pa_cons pe_int (pa_cons pe_int (pa_cons pe_int (pa_cons pe_int (pa_cons pe_int (pa_cons pe_int (pa_cons pe_int pa_nil)))))))) pa_nil))))
      (pss_cons (ps_set (i := 12) sc__law_web.nd rfl (Or.inl rfl) (pe_lst (pa_cons (pe_tup (pa_cons (pc c__law_some hg hr (by omega) (by rfl) (pa_cons (pv 0) (pa_cons (pv 4) pa_nil))) (pa_cons (pe_tup (pa_cons (pe_tup (pa_cons pe_str (pa_cons (pc c__law_number hg hr (by omega) (by rfl) (pa_cons (pv 0) (pa_cons pe_int pa_nil))) pa_nil))) pa_nil)) pa_nil))) pa_nil)))
      (pss_cons (ps_for PassesOwn.never rfl (pi_range1 (by rfl) B.range (pa_cons (pc c__law_take hg hr (by omega) (by rfl) (pa_cons (pv 0) (pa_cons (pe_op op_add (pv 2) pe_int) pa_nil))) pa_nil)) (pg_name (i := 13) sc__law_web.nd rfl (Or.inl rfl))
        (pss_cons (ps_setLc (i := 14) (own := [("one", 9)]) rfl sc__law_web.nd rfl rfl (sw_true rfl rfl rfl (by decide +kernel)) (pi_list (pv 3)) (blkOk_by (own := [("one", 9)]) (N := ["bag", "firms", "more", "names", "people", "order", "free", "found", "purse", "one", "name", "ranks", "holdings", "turn", "others", "holder", "options"]) (sc := (defScope s_law_web)) (by decide +kernel)) (fun _ _ _ _ _ => (pg_name (i := 9) sc__law_web.nd rfl (Or.inl rfl))) (fun _ _ _ _ _ => (pts_one (pt_cmpR op_ne (pv 9) (pv 10) (nomark _)))) (fun _ _ _ _ _ => (pv 9)))
        (pss_cons (ps_set (i := 15) sc__law_web.nd rfl (Or.inl rfl) (pc c__law_some hg hr (by omega) (by rfl) (pa_cons (pv 0) (pa_cons (pe_op op_cat (pe_op op_cat (pv 4) (pv 14)) (pv 14)) pa_nil))))
        (C8.pss_cut (ps_if (pt_cmpR op_in_seq (pv 15) (pv 4) (by rfl))
          (pss_one (ps_set (i := 16) sc__law_web.nd rfl (Or.inl rfl) (pc c__law_options hg hr (by omega) (by rfl) (pa_cons (pv 0) (pa_cons (pv 11) (pa_cons pe_bl pa_nil))))))
          (pss_one (ps_set (i := 16) sc__law_web.nd rfl (Or.inl rfl) (pc c__law_firm_options hg hr (by omega) (by rfl) (pa_cons (pv 0) (pa_cons (pv 11) (pa_cons (pe_cmpR op_gt (pe_bm PySem.F.plainAttrs_list PySem.F.slot_list_index PySem.F.type_list_index mt_index (pv 5) (pa_cons (pv 15) pa_nil)) (pe_bm PySem.F.plainAttrs_list PySem.F.slot_list_index PySem.F.type_list_index mt_index (pv 5) (pa_cons (pv 10) pa_nil)) (nomark _)) pa_nil)))))))
        (pss_cons (ps_set (i := 16) sc__law_web.nd rfl (Or.inl rfl) (pc c__law_within hg hr (by omega) (by rfl) (pa_cons (pv 16) (pa_cons (pe_callB (call_min2 rfl) (by rfl) B.min bb_min (pa_cons pe_int (pa_cons (pv 8) pa_nil))) pa_nil))))
        (pss_cons (ps_set (i := 8) sc__law_web.nd rfl (Or.inl rfl) (pe_callB (call_max2 rfl) (by rfl) B.max bb_max (pa_cons pe_int (pa_cons (pe_op op_sub (pv 8) (pe_callB (cr_sum rfl) (by rfl) TS bb_sum (pa_cons (pe_lc (own := [("one", 9)]) rfl sc__law_web.nd (pi_tup (pv 16)) (blkOk_by (own := [("one", 9)]) (N := ["bag", "firms", "more", "names", "people", "order", "free", "found", "purse", "one", "name", "ranks", "holdings", "turn", "others", "holder", "options"]) (sc := (defScope s_law_web)) (by decide +kernel)) (fun _ _ _ _ _ => (pg_name (i := 9) sc__law_web.nd rfl (Or.inl rfl))) (fun _ _ _ _ _ => pts_nil) (fun _ _ _ _ _ => (pc c__law_leaves hg hr (by omega) (by rfl) (pa_cons (pv 9) pa_nil)))) pa_nil))) pa_nil))))
        (C8.pss_cut (ps_if (PW.pt (pw_and (pt_cmpR op_in_seq (pv 15) (pv 4) (by rfl)) (pw_and1 (pt_cmpR op_gt (pe_callB call_lenA (by rfl) B.len boot_len (pa_cons (pv 16) pa_nil)) pe_int (nomark _)))))
          (pss_cons (ps_set (i := 16) sc__law_web.nd rfl (Or.inl rfl) (pe_ifExp (pt_cmpR op_gt (pe_dget hu1 (pv 6) (pv 15) (fun _ _ => rfl)) pe_int (nomark _)) (pv 16) (pe_slice sl_tupA (pv 16) po_none (po_some pe_int))))
          (pss_one (ps_augS (pv 6) (pv 15) (get_dict hu1) (pe_callTy call_int1 (by rfl) B.int bb_int (pa_cons (pe_cmpR op_gt (pe_callB call_lenA (by rfl) B.len boot_len (pa_cons (pv 16) pa_nil)) pe_int (nomark _)) pa_nil)) ip_sub (set_dict hu1))))
          pss_nil)
        (pss_one (ps_expr (pe_bm PySem.F.plainAttrs_list PySem.F.slot_list_insert PySem.F.type_list_insert mt_insert (pv 12) (pa_cons (pc c__law_take hg hr (by omega) (by rfl) (pa_cons (pv 0) (pa_cons (pe_op op_add (pe_callB call_lenA (by rfl) B.len boot_len (pa_cons (pv 12) pa_nil)) pe_int) pa_nil))) (pa_cons (pe_tup (pa_cons (pv 15) (pa_cons (pv 16) pa_nil))) pa_nil))))))))))))
      (pss_one (ps_expr (pe_bm PySem.F.plainAttrs_list PySem.F.slot_list_append PySem.F.type_list_append mt_append (pv 7) (pa_cons (pe_tup (pa_cons (pv 10) (pa_cons (pv 11) (pa_cons (pe_callTy call_tuple_of (by rfl) B.tuple bb_tuple (pa_cons (pv 12) pa_nil)) pa_nil)))) pa_nil))))))))
    (pss_one (ps_ret (pe_callTy call_tuple_of (by rfl) B.tuple bb_tuple (pa_cons (pv 7) pa_nil)))))))), ?_⟩
  have sz8 : ∀ {xs : List V}, xs.length ≤ 1000 → xs.length ≤ sizeLine := fun h => Nat.le_of_lt (small1000 h)
  -- names
  refine ⟨_, rfl, sz8 (by simp), fun p1 n1 => ?_⟩
  have s1 := same_upd (o := .lst (NN.map V.str)) n1
  refine ⟨b, p1, _, rfl, hb.same s1, bag_ne hb n1, upd_same, by simp, fun p2 H2 zs R2 hp2 np2 hz => ?_⟩
  obtain ⟨zn, rfl, hzn⟩ := perm_strs (us := NN) hz
  have R2' := (Rel.of_same hb s1).trans R2
  refine ⟨_, rfl, n, rfl, ?_⟩
  refine ⟨p2, _, rfl, .inl (.inl hp2), fun p3 n3 => ?_⟩
  have s3 := same_upd (o := .lst (cutV (zn.map V.str) none (some (n : Int)))) n3
  refine ⟨p3, zn.take n, rfl, .inl (.inl (by rw [upd_same, cutV_upto, List.map_take])), by rw [List.length_take]; omega, fun ns Nm pm hs nNm => ?_⟩
  have sN := same_upd (o := .lst (ns.map V.str)) nNm
  have RN := (R2'.same s3).same sN
  have hNm : (upd (upd H2 p3 (.lst (cutV (zn.map V.str) none (some (n : Int))))) Nm (.lst (ns.map V.str))) Nm = some (.lst (ns.map V.str)) := upd_same
  have NmN : H Nm = none := by
    refine R2'.some ?_
    cases e : H2 Nm with
    | none => rfl
    | some o =>
      rw [s3 _ _ e] at nNm
      cases nNm
  have hzl : zn.length = 8 := hzn.length_eq
  have hns : ∀ x ∈ ns, x ∈ NN := fun x hx => hzn.mem_iff.mp (List.mem_of_mem_take (pm.mem_iff.mp hx))
  have hnl : ns.length = n := by rw [pm.length_eq, List.length_take]; omega
  have hasc : ascS ns = true := str_nodup (ns := zn.take n) pm ((List.take_sublist _ _).nodup (hzn.nodup_iff.mpr nn_nd)) hs
  revert RN hNm
  generalize upd (upd H2 p3 (.lst (cutV (zn.map V.str) none (some (n : Int))))) Nm (.lst (ns.map V.str)) = H3
  intro RN hNm
  clear s3 sN R2' R2 hp2 np2 hz s1 n1 n3 nNm pm hs
  have NmB := bag_ne hb NmN
  -- people
  refine ⟨_, rfl, sz8 (by simp), fun p4 n4 => ?_⟩
  have s4 := same_upd (o := .lst (PN.map V.str)) n4
  refine ⟨b, p4, _, rfl, RN.bag.same s4, bag_ne RN.bag n4, upd_same, by simp, fun p5 H5 zs R5 hp5 np5 hz => ?_⟩
  obtain ⟨zp, rfl, hzp⟩ := perm_strs (us := PN) hz
  have R5' := (RN.same s4).trans R5
  have hNm5 := R5.keep _ _ NmB (s4 _ _ hNm)
  refine Sw.gn_some (K := K) (b := b) (mu := mu) (H0 := H5) (D := fun d => ∃ j : Nat, d = .int j ∧ 2 ≤ j ∧ j ≤ 6) (n := 4) hmu rfl (gnA_cons hmu (Sw.ge_int.gn ⟨3, rfl, by decide, by decide⟩) (gnA_cons hmu (Sw.ge_int.gn ⟨4, rfl, by decide, by decide⟩) (gnA_cons hmu (Sw.ge_int.gn ⟨2, rfl, by decide, by decide⟩) (gnA_cons hmu (Sw.ge_int.gn ⟨6, rfl, by decide, by decide⟩) gnA_nil)))) (by decide) (by decide) H5 (.refl R5'.bag) (hM.rel R5') _ fun v6 H6 d6 hd6 R6 hv6 => ?_
  obtain ⟨m6, rfl, m0, m1⟩ := hd6
  cases hv6
  have p5b : p5 ≠ b := bag_ne ((RN.same s4).bag) np5
  have hp6 := R6.keep _ _ p5b hp5
  refine ⟨_, rfl, p5, _, rfl, .inl (.inl hp6), fun Pp nPp => ?_⟩
  rw [cutV_upto, ← List.map_take]
  have s7 := same_upd (o := .lst ((zp.take m6).map V.str)) nPp
  have R7 := (R5'.trans R6).same s7
  have hNm7 := s7 _ _ (R6.keep _ _ NmB hNm5)
  have hPp7 : (upd H6 Pp (.lst ((zp.take m6).map V.str))) Pp = some (.lst ((zp.take m6).map V.str)) := upd_same
  have PpB := bag_ne (R5'.trans R6).bag nPp
  have hps : ∀ x ∈ zp.take m6, x ∈ PN := fun x hx => hzp.mem_iff.mp (List.mem_of_mem_take hx)
  have hzl2 : zp.length = 6 := hzp.length_eq
  have hpl : (zp.take m6).length = m6 := by rw [List.length_take]; omega
  revert R7 hNm7 hPp7 hps hpl
  generalize upd H6 Pp (.lst ((zp.take m6).map V.str)) = H7
  generalize zp.take m6 = ps
  intro R7 hNm7 hPp7 hps hpl
  clear s7 hp6 R6 hNm5 R5' hz np5 hp5 R5 s4 n4 nPp p5b
  -- order
  refine ⟨_, rfl, _, rfl, b, Nm, _, rfl, R7.bag, NmB, hNm7, by rw [List.length_map]; omega, fun Or G0 zs R8 hOr nOr hz => ?_⟩
  obtain ⟨os, rfl, hos⟩ := perm_strs hz
  have R0 := R7.trans R8
  have OrB := bag_ne R7.bag nOr
  have hNm0 := R8.keep _ _ NmB hNm7
  have hPp0 := R8.keep _ _ PpB hPp7
  have hb0 := R0.bag
  have M0 := hM.rel R0
  clear R8 nOr hz hNm7 hPp7 R7 RN hNm
  -- free
  refine ⟨_, rfl, Pp, rfl, ⟨_, .inl (.inl hPp0)⟩, fun D nD => lc_it (walk_list (K := K) (a := Pp) (xs := ps.map V.str)) (fun i H' => Same G0 H' ∧ ∃ qs : List Addr, H' D = some (.lst (qs.map V.ref)) ∧ Paired (fun p (kv : Key × V) => SqT K H' p [kV kv.1, kv.2]) qs ((ps.take i).map fun x => (.inr x, V.int 4))) ?_ (fun i H' _ h => .inl (.inl (h.1 _ _ hPp0))) ?_ ?_⟩
  · exact ⟨same_upd nD, [], upd_same, .nil⟩
  · rintro i x H8 H9 hi ⟨s8, qs, hD, hq⟩ ⟨rfl, hx⟩
    rw [List.getElem?_map] at hx
    obtain ⟨y, hy, rfl⟩ : ∃ y, ps[i]? = some y ∧ x = .str y := by
      cases e : ps[i]? with
      | none => rw [e] at hx; cases hx
      | some y => rw [e] at hx; cases hx; exact ⟨y, rfl, rfl⟩
    have hql : qs.length = i := by
      have := hq.length
      rw [this, List.length_map, List.length_take]
      have : i < ps.length := (List.getElem?_eq_some_iff.mp hy).1
      omega
    refine ⟨rfl, _, rfl, sz8 (by simp), fun t nt => ?_⟩
    have st := same_upd (o := .tup [.str y, .int 4]) nt
    refine ⟨_, st _ _ hD, by rw [List.length_map]; exact small1000 (by have : i < ps.length := (List.getElem?_eq_some_iff.mp hy).1; omega), fun z o e => ?_, qs ++ [t], ?_, ?_⟩
    · rw [upd_ne (ne_of_none e nD)]
      exact st _ _ (s8 _ _ e)
    · rw [upd_same, List.map_append]
      rfl
    · have fD : ∀ {a : Addr} {xs : List V}, SqT K (upd H9 t (.tup [.str y, .int 4])) a xs → SqT K (upd (upd H9 t (.tup [.str y, .int 4])) D (.lst (qs.map V.ref ++ [V.ref t]))) a xs := fun h => sq_fut h (fut_at (st _ _ hD))
      rw [List.take_add_one, hy, List.map_append]
      exact pair_app (L2.Paired.mapP hq fun p kv h => fD (st.seqT h)) (.cons (fD (.of upd_same)) .nil)
  rintro H8 ⟨s8, qs, hD, hq⟩
  rw [show List.take (ps.map V.str).length ps = ps from List.take_of_length_le (by rw [List.length_map]; exact Nat.le_refl _)] at hq
  refine ⟨D, qs, _, rfl, .inl (.inl hD), hq, fun Fr nFr sFr => ⟨Nat.zero_le _, fun Fd nFd => ⟨sz8 (by simp), fun T nT => ?_⟩⟩⟩
  refine ⟨T, [_, _, _, _], rfl, .of upd_same, rfl, _, _, rfl, _, _, rfl, _, _, rfl, _, _, rfl, rfl, ?_⟩
  have sF := same_upd (o := .dK (mergeK [] (ps.map fun x => (.inr x, V.int 4)))) nFr
  have sG := same_upd (o := .lst []) nFd
  have sT := same_upd (o := .tup [.ref Or, .ref Fr, .ref Fd, .int 40]) nT
  have hFr := sT _ _ (sG _ _ (upd_same (H := H8) (a := Fr) (o := .dK (mergeK [] (ps.map fun x => (.inr x, V.int 4))))))
  have hFd := sT _ _ (upd_same (H := upd H8 Fr (.dK (mergeK [] (ps.map fun x => (.inr x, V.int 4))))) (a := Fd) (o := .lst []))
  have FrG : G0 Fr = none := s8.free nFr
  have FdG : G0 Fd = none := s8.free (sF.free nFd)
  have FrFd : Fr ≠ Fd := fun z => by
    rw [← z, upd_same] at nFd
    cases nFd
  have R9 : Rel b G0 _ := Rel.of_same hb0 (((s8.trans sF).trans sG).trans sT)
  have hfree := free_new (ps := ps) (by omega)
  revert hFr hFd R9 hfree
  generalize upd (upd (upd H8 Fr (.dK (mergeK [] (ps.map fun x => (.inr x, V.int 4))))) Fd (.lst [])) T (.tup [.ref Or, .ref Fr, .ref Fd, .int 40]) = H9
  generalize mergeK [] (ps.map fun x => (.inr x, V.int 4)) = kvs9
  intro hFr hFd R9 hfree
  clear sF sG sT nFr nFd nT hq hD s8 nD
  have FrB := bag_ne hb0 FrG
  have FdB := bag_ne hb0 FdG
  refine ⟨_, rfl, Nm, rfl, ⟨_, .inl (.inl (R9.keep _ _ NmB hNm0))⟩, for_it (walk_list (K := K) (a := Nm) (xs := ns.map V.str)) (fun i σ H' => ∃ (p : Int) (o10 o11 o12 o13 o14 o15 o16 : Option V) (kvs : List (Key × V)) (xs : List V) (fs : List PyData), σ = [some (.ref b), some (.int n), some (.int mo), some (.ref Nm), some (.ref Pp), some (.ref Or), some (.ref Fr), some (.ref Fd), some (.int p), none, o10, o11, o12, o13, o14, o15, o16] ∧ 0 ≤ p ∧ p ≤ 40 ∧ Rel b G0 H' ∧ H' Fr = some (.dK kvs) ∧ FreeOk kvs ps ∧ H' Fd = some (.lst xs) ∧ DtA K mT H' xs fs ∧ FsF (ns.take i) fs ∧ (PyData.weightAll fs : Int) ≤ 300 * i + 199 * (40 - p))
    ⟨40, _, _, _, _, _, _, _, kvs9, [], [], rfl, by decide, by decide, R9, hFr, hfree, hFd, .nil, ⟨rfl, rfl, (fun _ h => nomatch h), rfl⟩, by simp [PyData.weightAll]⟩ (fun i σ H' _ h => ?_) (fun i x σ H1 H2 hi h y => ?_) fun σ H1 h => ?_⟩
  · obtain ⟨_, _, _, _, _, _, _, _, _, _, _, _, _, _, R, _⟩ := h
    exact .inl (.inl (R.keep _ _ NmB hNm0))
  · obtain ⟨p0, o10, o11, o12, o13, o14, o15, o16, kvs, xs, fs, rfl, q0, q40, R1, hFr1, hfr1, hFd1, hA1, hF1, hW1⟩ := h
    obtain ⟨rfl, hx⟩ := y
    rw [List.getElem?_map] at hx
    obtain ⟨nm, hnm, rfl⟩ : ∃ y, ns[i]? = some y ∧ x = .str y := by
      cases e : ns[i]? with
      | none => rw [e] at hx; cases hx
      | some y => rw [e] at hx; cases hx; exact ⟨y, rfl, rfl⟩
    have hnmN := hns nm (List.mem_of_getElem? hnm)
    have hin : i < ns.length := (List.getElem?_eq_some_iff.mp hnm).1
    clear hFr hFd R9 hfree
    -- ranks
    refine Sw.gn_some (K := K) (b := b) (mu := mu) (H0 := H2) (D := fun d => ∃ j : Int, d = .int j ∧ 0 ≤ j ∧ j ≤ 6) (n := 7) hmu rfl (gnA_cons hmu (Sw.ge_int.gn ⟨1, rfl, by decide, by decide⟩) (gnA_cons hmu (Sw.ge_int.gn ⟨2, rfl, by decide, by decide⟩) (gnA_cons hmu (Sw.ge_int.gn ⟨0, rfl, by decide, by decide⟩) (gnA_cons hmu (Sw.ge_int.gn ⟨3, rfl, by decide, by decide⟩) (gnA_cons hmu (Sw.ge_int.gn ⟨2, rfl, by decide, by decide⟩) (gnA_cons hmu (Sw.ge_int.gn ⟨1, rfl, by decide, by decide⟩) (gnA_cons hmu (Sw.ge_int.gn ⟨6, rfl, by decide, by decide⟩) gnA_nil))))))) (by decide) (by decide) H2 (.refl R1.bag) (hM.rel (R0.trans R1)) _ fun vr H3 dr hdr R3 hvr => ?_
    obtain ⟨r, rfl, r0, r6⟩ := hdr
    cases hvr
    have R13 := R1.trans R3
    -- the founder
    refine ⟨_, rfl, _, rfl, b, Pp, _, rfl, R3.bag, PpB, R13.keep _ _ PpB hPp0, by rw [List.length_map]; omega, by rw [List.length_map]; omega, fun jp vp H4 hvp R4 => ?_⟩
    obtain ⟨h0, hh0, rfl⟩ : ∃ h0, h0 ∈ ps ∧ vp = .str h0 := by
      have := List.mem_of_getElem? hvp
      obtain ⟨x, hx, e⟩ := List.mem_map.mp this
      exact ⟨x, hx, e.symm⟩
    have R14 := R13.trans R4
    refine ⟨_, rfl, 4, by decide, by decide, b, mu, rfl, hmu, R14.bag, hM.rel (R0.trans R14), fun vn H5 dn hdn R5 hvn _ => ⟨sz8 (by simp), fun t1 nt1 => ⟨sz8 (by simp), fun t2 nt2 => ⟨sz8 (by simp), fun t3 nt3 => ⟨sz8 (by simp), fun Hg nHg => ?_⟩⟩⟩⟩⟩
    have R15 := R14.trans R5
    have e1 := same_upd (o := .tup [.str "shares", vn]) nt1
    have e2 := same_upd (o := .tup [.ref t1]) nt2
    have e3 := same_upd (o := .tup [.str h0, .ref t2]) nt3
    have e4 := same_upd (o := .lst [.ref t3]) nHg
    have e14 := ((e1.trans e2).trans e3).trans e4
    have dh : Dt K mT (upd (upd (upd H5 t1 (.tup [.str "shares", vn])) t2 (.tup [.ref t1])) t3 (.tup [.str h0, .ref t2])) (.ref t3) (.tuple [.str h0, .tuple [.tuple [.str "shares", dn]]]) :=
      tup_new nt3 (.cons (.str h0) (.cons (tup_new nt2 (.cons (tup_new nt1 (.cons (.str "shares") (.cons (Dt.pure (sd_num hdn).1.ok hvn) .nil))) .nil)) .nil))
    have hHg := upd_same (H := upd (upd (upd H5 t1 (.tup [.str "shares", vn])) t2 (.tup [.ref t1])) t3 (.tup [.str h0, .ref t2])) (a := Hg) (o := .lst [.ref t3])
    have dh2 := dh.fut (.of_same e4)
    have R16 := R15.same e14
    have FdH : H5 Fd = some (.lst xs) := (R3.trans (R4.trans R5)).keep _ _ FdB hFd1
    have FrH : H5 Fr = some (.dK kvs) := (R3.trans (R4.trans R5)).keep _ _ FrB hFr1
    have hFd6 := e14 _ _ FdH
    have hFr6 := e14 _ _ FrH
    have HgFd : Hg ≠ Fd := (ne_of_none ((((e1.trans e2).trans e3)) _ _ FdH) nHg).symm
    have HgFr : Hg ≠ Fr := (ne_of_none ((((e1.trans e2).trans e3)) _ _ FrH) nHg).symm
    have HgG : G0 Hg = none := (R15.same ((e1.trans e2).trans e3)).some nHg
    have HgB := bag_ne hb0 HgG
    have hA6 := (hA1.fut (Rel.futT (R3.trans (R4.trans R5)) R1.bag)).fut (.of_same e14)
    revert hHg dh2 R16 hFd6 hFr6 hA6
    generalize upd (upd (upd (upd H5 t1 (.tup [.str "shares", vn])) t2 (.tup [.ref t1])) t3 (.tup [.str h0, .ref t2])) Hg (.lst [.ref t3]) = H6
    intro hHg dh2 R16 hFd6 hFr6 hA6
    clear e1 e2 e3 e4 e14 dh FdH FrH nt1 nt2 nt3 nHg R15 hvn R5 R14 R4 hvp R13 R3 R1 hFr1 hFd1 hA1
    have hsd := SdA.cons (p := 1) (w1 := 6) (w2 := 44) (w := 95) (sd_str (x := "shares") (by decide +kernel) (by decide +kernel)) (.cons (w1 := 43) (w2 := 0) (sd_num hdn).1 .nil (by decide)) (by decide)
    have hop0 : OpF r [.tuple [.str "shares", dn]] := ⟨by simp, by simp only [clmA, clm_shares (sd_num hdn).2, Bool.and_self], by simp only [smA, hsd.tup.ok, Bool.and_self], fun e he => by rw [List.mem_singleton.mp he]; exact Nat.le_trans hsd.tup.dp (by decide)⟩
    have hw0 : PyData.weightAll [.tuple [.str "shares", dn]] ≤ 52 := by
      have h1 := (sd_num hdn).1.wt
      have h2 : ("shares" : Str).cps.size = 6 := by decide +kernel
      simp only [PyData.weightAll, PyData.weight, h2]
      omega
    have ho0 := hold_ok (name := nm) (p := h0) (r := r) (List.mem_append_right _ (hps h0 hh0)) (nn_pn nm hnmN h0 (hps h0 hh0)) hop0
    refine ⟨_, rfl, _, rfl, _, _, rfl, rfl, b, _, rfl, R16.bag, by omega, by omega, fun cnt H7 c0 c1 R7 => ⟨cnt, rfl, by omega, by omega, for_it (walk_range (lo := 0) (n := cnt.toNat)) (fun j σ H' => ∃ (p : Int) (o13 o14 o15 o16 : Option V) (kvs : List (Key × V)) (ys : List V) (hs : List PyData), σ = [some (.ref b), some (.int n), some (.int mo), some (.ref Nm), some (.ref Pp), some (.ref Or), some (.ref Fr), some (.ref Fd), some (.int p), none, some (.str nm), some (.int r), some (.ref Hg), o13, o14, o15, o16] ∧ 0 ≤ p ∧ p ≤ p0 ∧ Wv K b G0 Fr Fd Hg kvs xs ys fs hs H' ∧ FreeOk kvs ps ∧ HsF nm r hs ∧ hs.length = j + 1 ∧ (PyData.weightAll hs : Int) ≤ 58 * (j + 1) + 199 * (p0 - p))
      ⟨p0, _, _, _, _, kvs, _, [_], rfl, q0, by omega, (Wv.mk R16 hFr6 hFd6 hA6 hHg (.cons dh2 .nil)).go R7 FrB FdB HgB, hfr1, ⟨by rw [List.all_cons, ho0.1]; rfl, by simp only [smA, ho0.2.1, Bool.and_self], fun x hx => by rw [List.mem_singleton.mp hx]; exact ho0.2.2.1⟩, rfl, ?_⟩ (fun _ _ _ _ _ => trivial) (fun j x σ Ha Hb hj h y => ?_) fun σ Ha h => ?_⟩⟩
    · have := ho0.2.2.2
      simp only [PyData.weightAll] at hw0 this ⊢
      omega
    · obtain ⟨p, o13, o14, o15, o16, kvs1, ys, hs, rfl, pq0, pq1, wv, hfr2, hHs, hHl, hHw⟩ := h
      obtain ⟨rfl, -⟩ := y
      -- others
      refine ⟨_, rfl, Nm, rfl, ⟨_, .inl (.inl (wv.rel.keep _ _ NmB hNm0))⟩, fun Ot nOt => ?_⟩
      have hNmA := wv.rel.keep _ _ NmB hNm0
      refine lc_it (walk_list (K := K) (a := Nm) (xs := ns.map V.str)) (fun i' H' => Same Hb H' ∧ H' Ot = some (.lst (((ns.take i').filter fun y => decide (y ≠ nm)).map V.str))) ⟨same_upd nOt, by rw [upd_same]; rfl⟩ (fun i' H' _ h => .inl (.inl (h.1 _ _ hNmA))) ?_ ?_
      · rintro i' x' H8 H9 hi' ⟨s8, hO⟩ ⟨rfl, hx'⟩
        rw [List.getElem?_map] at hx'
        obtain ⟨y, hy, rfl⟩ : ∃ y, ns[i']? = some y ∧ x' = .str y := by
          cases e : ns[i']? with
          | none => rw [e] at hx'; cases hx'
          | some y => rw [e] at hx'; cases hx'; exact ⟨y, rfl, rfl⟩
        have ht : ns.take (i' + 1) = ns.take i' ++ [y] := by
          rw [List.take_add_one, hy]
          rfl
        refine ⟨rfl, _, rfl, _, rfl, rfl, _, rfl, iteN (fun hne => ?_) fun hne => ?_⟩
        · have hne : y ≠ nm := fun z => of_decide_eq_false hne (by rw [z])
          refine ⟨_, rfl, _, hO, by rw [List.length_map]; exact small1000 (Nat.le_trans (List.length_filter_le _ _) (by rw [List.length_take]; omega)), fun z o e => ?_, ?_⟩
          · rw [upd_ne (ne_of_none e nOt)]
            exact s8 _ _ e
          · rw [upd_same, ht, List.filter_append, List.map_append, show List.filter (fun y => decide (y ≠ nm)) [y] = [y] by simp [hne]]
            rfl
        · have hne : y = nm := V.str.inj (of_decide_eq_true hne)
          refine ⟨s8, ?_⟩
          rw [hO, ht, List.filter_append, show List.filter (fun y => decide (y ≠ nm)) [y] = [] by simp [hne], List.append_nil]
      rintro H8 ⟨s8, hO⟩
      rw [show List.take (ns.map V.str).length ns = ns from List.take_of_length_le (by rw [List.length_map]; exact Nat.le_refl _)] at hO
      have hot : ∀ y ∈ ns.filter (fun y => decide (y ≠ nm)), y ∈ ns ∧ y ≠ nm := fun y hy => by
        have := List.mem_filter.mp hy
        exact ⟨this.1, of_decide_eq_true this.2⟩
      have hol : (ns.filter fun y => decide (y ≠ nm)).length ≤ 4 := Nat.le_trans (List.length_filter_le _ _) (by omega)
      revert hO hot hol
      generalize (ns.filter fun y => decide (y ≠ nm)) = ots
      intro hO hot hol
      have wv8 := wv.same s8
      have hPp8 := wv8.rel.keep _ _ PpB hPp0
      -- the holder
      refine ⟨_, rfl, _, rfl, _, rfl, Pp, Ot, _, _, rfl, rfl, hPp8, hO, Nat.le_of_lt (small1000 (by rw [List.length_map, List.length_map]; omega)), fun c1 nc1 => ⟨_, rfl, c1, Ot, _, _, rfl, rfl, upd_same, same_upd nc1 _ _ hO, Nat.le_of_lt (small1000 (by rw [List.length_append, List.length_map, List.length_map]; omega)), fun c2 nc2 => ?_⟩⟩
      have s10 := (same_upd (o := .lst (ps.map V.str ++ ots.map V.str)) nc1).trans (same_upd (o := .lst (ps.map V.str ++ ots.map V.str ++ ots.map V.str)) nc2)
      have wv10 := wv8.same s10
      refine ⟨b, c2, _, rfl, wv10.rel.bag, bag_ne (wv8.same (same_upd nc1)).rel.bag nc2, upd_same, by simp only [List.length_append, List.length_map]; omega, by simp only [List.length_append, List.length_map]; omega, fun jh vh H11 hvh R11 => ?_⟩
      obtain ⟨hd, hhd, rfl⟩ : ∃ hd, (hd ∈ ps ∨ (hd ∈ ns ∧ hd ≠ nm)) ∧ vh = .str hd := by
        have := List.mem_of_getElem? hvh
        simp only [List.mem_append, List.mem_map] at this
        rcases this with (⟨y, hy, rfl⟩ | ⟨y, hy, rfl⟩) | ⟨y, hy, rfl⟩
        · exact ⟨y, .inl hy, rfl⟩
        · exact ⟨y, .inr (hot y hy), rfl⟩
        · exact ⟨y, .inr (hot y hy), rfl⟩
      have wv11 := wv10.go R11 FrB FdB HgB
      have hdN : hd ∈ NN ++ PN := by
        rcases hhd with h | h
        · exact List.mem_append_right _ (hps _ h)
        · exact List.mem_append_left _ (hns _ h.1)
      have hdne : hd ≠ nm := by
        rcases hhd with h | h
        · exact nn_pn nm hnmN hd (hps _ h)
        · exact h.2
      revert wv11
      clear hvh R11 wv10 s10 hO wv8 s8 wv nOt hNmA hPp8
      generalize H11 = H11
      intro wv11
      have inP : ∀ {H' : Hp} {Q' : VK}, H' Pp = some (.lst (ps.map V.str)) → Q' (.bl (decide (hd ∈ ps))) H' → rIn K false (.str hd) (.ref Pp) H' Q' := fun h q =>
        ⟨Pp, _, rfl, .inl (.inl (.inl h)), rfl, flat_strs, by rw [inV_str]; exact q⟩
      refine ⟨fun σ' H' => ∃ (a : Addr) (xs' : List V) (ds : List PyData), σ' = [some (.ref b), some (.int n), some (.int mo), some (.ref Nm), some (.ref Pp), some (.ref Or), some (.ref Fr), some (.ref Fd), some (.int p), none, some (.str nm), some (.int r), some (.ref Hg), some x, some (.ref Ot), some (.str hd), some (.ref a)] ∧ Wv K b G0 Fr Fd Hg kvs1 xs ys fs hs H' ∧ SqT K H' a xs' ∧ DtA K mT H' xs' ds ∧ 1 ≤ ds.length ∧ ds.length ≤ 4 ∧ ∀ d ∈ ds, Cl r 2 d, ?_, ?_⟩
      · have Mx := hM.rel (R0.trans wv11.rel)
        have fin : ∀ (a : Addr) (xs' : List V) (ds : List PyData) (H' : Hp), Wv K b G0 Fr Fd Hg kvs1 xs ys fs hs H' → SqT K H' a xs' → DtA K mT H' xs' ds → 1 ≤ ds.length → ds.length ≤ 4 → (∀ d ∈ ds, Cl r 2 d) → ∃ (a' : Addr) (xs' : List V) (ds : List PyData), [some (.ref b), some (.int n), some (.int mo), some (.ref Nm), some (.ref Pp), some (.ref Or), some (.ref Fr), some (.ref Fd), some (.int p), none, some (.str nm), some (.int r), some (.ref Hg), some x, some (.ref Ot), some (.str hd), some (V.ref a)] = [some (.ref b), some (.int n), some (.int mo), some (.ref Nm), some (.ref Pp), some (.ref Or), some (.ref Fr), some (.ref Fd), some (.int p), none, some (.str nm), some (.int r), some (.ref Hg), some x, some (.ref Ot), some (.str hd), some (.ref a')] ∧ Wv K b G0 Fr Fd Hg kvs1 xs ys fs hs H' ∧ SqT K H' a' xs' ∧ DtA K mT H' xs' ds ∧ 1 ≤ ds.length ∧ ds.length ≤ 4 ∧ ∀ d ∈ ds, Cl r 2 d := fun a xs' ds H' w h1 h2 h3 h4 h5 => ⟨a, xs', ds, rfl, w, h1, h2, h3, h4, h5⟩
        refine ⟨_, rfl, _, rfl, inP (wv11.rel.keep _ _ PpB hPp0) ⟨_, rfl, iteP (fun hin => ?_) fun hin => ?_⟩⟩
        · exact ⟨_, rfl, _, rfl, b, mu, r, _, rfl, r0, r6, hmu, wv11.rel.bag, Mx, fun a xs' ds H' l1 l2 hcl R hS hA => fin a xs' ds H' (wv11.go R FrB FdB HgB) hS (DtA.pure (smA_iff.mpr fun d hd => (hcl d hd).sd.ok) hA) l1 l2 hcl⟩
        · have hdo : hd ∈ os := hos.mem_iff.mpr (by
            rcases hhd with h | h
            · exact absurd h hin
            · exact h.1)
          have hno : nm ∈ os := hos.mem_iff.mpr (List.mem_of_getElem? hnm)
          obtain ⟨j1, z1, a1, a2, a3⟩ := idx_str hdo
          obtain ⟨j2, z2, b1, b2, b3⟩ := idx_str hno
          have hOr1 := wv11.rel.keep _ _ OrB hOr
          exact ⟨_, rfl, _, rfl, _, rfl, .inl ⟨rfl, _, .inl (.inl hOr1)⟩, _, rfl, Or, _, .str hd, j1, z1, rfl, rfl, .inl (.inl hOr1), rfl, flat_strs, a1, a2, a3, _, rfl, .inl ⟨rfl, _, .inl (.inl hOr1)⟩, _, rfl, Or, _, .str nm, j2, z2, rfl, rfl, .inl (.inl hOr1), rfl, flat_strs, b1, b2, b3, _, _, rfl, rfl, b, mu, r, _, rfl, r0, r6, hmu, wv11.rel.bag, Mx, fun a xs' ds H' l1 l2 hcl R hS hA => fin a xs' ds H' (wv11.go R FrB FdB HgB) hS (DtA.pure (smA_iff.mpr fun d hd => (hcl d hd).sd.ok) hA) l1 l2 hcl⟩
      · rintro σ' H12 ⟨a, xs', ds, rfl, wv12, hS12, hA12, dl1, dl4, hcl⟩
        -- within
        refine ⟨_, rfl, _, rfl, 10, p, rfl, a, xs', ds, mT, r, _, 2, rfl, by split <;> omega, hS12, hA12, hcl, by decide, dl4, fun a2 zs es H13 s13 hS13 hA13 hel hes hkept => ?_⟩
        obtain ⟨lf, rl, k1, k2, k3, k4, k5⟩ := hkept
        have wv13 := wv12.same s13
        have hes' : ∀ e ∈ es, Cl r 2 e := fun e he => by
          rcases hes e he with h | rfl
          · exact hcl e h
          · exact cl_sh11
        have hzl := hA13.length
        have hwp : rl ≤ p := by
          have : (if p < 10 then p else 10) ≤ p := by split <;> omega
          omega
        -- the purse
        refine ⟨_, rfl, _, rfl, a2, rfl, ⟨zs, hS13⟩, fun D2 nD2 => ?_⟩
        refine lc_it (walk_tup (K := K) (a := a2) (xs := zs)) (fun i' H' => Same H13 H' ∧ H' D2 = some (.lst (((es.take i').map leavesD).map V.int))) ⟨same_upd nD2, by rw [upd_same]; rfl⟩ (fun i' H' _ h => h.1.seqT hS13) ?_ ?_
        · rintro i' x' H8 H9 hi' ⟨s8, hD2⟩ ⟨rfl, hx'⟩
          obtain ⟨e, he, hxe⟩ := hA13.get hx'
          have hem := List.mem_of_getElem? he
          have ce := hes' e hem
          refine ⟨rfl, _, rfl, r, x', mT, e, rfl, hxe.fut (.of_same s8), ce.clm, ce.isOk (by decide), Nat.le_trans ce.sd.dp (by decide), fun H14 s14 => ⟨_, s14 _ _ hD2, ?_, fun z o q => ?_, ?_⟩⟩
          · rw [List.length_map, List.length_map, List.length_take]
            exact small1000 (by omega)
          · rw [upd_ne (ne_of_none q nD2)]
            exact s14 _ _ (s8 _ _ q)
          · rw [upd_same, List.take_add_one, he, List.map_append, List.map_append]
            rfl
        rintro H14 ⟨s14, hD2⟩
        rw [List.take_of_length_le (by omega), ] at hD2
        have wv14 := wv13.same s14
        have hS14 := s14.seqT hS13
        have hA14 := hA13.fut (.of_same s14)
        refine ⟨D2, es.map leavesD, rfl, .inl (.inl hD2), _, _, rfl, rfl, _, _, rfl, ?_⟩
        rw [← leavesA_sum]
        have hL : ∃ p' : Int, p' = (if p - leavesA es > 0 then p - leavesA es else 0) ∧ 0 ≤ p' ∧ p' ≤ p - rl := ⟨_, rfl, by split <;> omega, by split <;> omega⟩
        obtain ⟨p', ep, hp0, hp1⟩ := hL
        rw [← ep]
        clear ep hD2 s14 hA13 hS13 wv13 s13
        have hop : OpF r es := opF_of hcl hes (fun z => by rw [z] at hel; simp at hel; omega)
        have hwt : (PyData.weightAll es : Int) ≤ 199 * rl + 52 := by
          have : ((95 + 52 * ((2 : Nat) : Int)) * rl) = 199 * rl := by omega
          rw [this] at k5
          omega
        refine ⟨fun σ' H' => ∃ (a3 : Addr) (zs' : List V) (es' : List PyData) (kvs' : List (Key × V)), σ' = [some (.ref b), some (.int n), some (.int mo), some (.ref Nm), some (.ref Pp), some (.ref Or), some (.ref Fr), some (.ref Fd), some (.int p'), none, some (.str nm), some (.int r), some (.ref Hg), some x, some (.ref Ot), some (.str hd), some (.ref a3)] ∧ Wv K b G0 Fr Fd Hg kvs' xs ys fs hs H' ∧ FreeOk kvs' ps ∧ SqT K H' a3 zs' ∧ DtA K mT H' zs' es' ∧ OpF r es' ∧ (PyData.weightAll es' : Int) ≤ 199 * rl + 52, ?_, ?_⟩
        · have stay : ∃ (a3 : Addr) (zs' : List V) (es' : List PyData) (kvs' : List (Key × V)), [some (.ref b), some (.int n), some (.int mo), some (.ref Nm), some (.ref Pp), some (.ref Or), some (.ref Fr), some (.ref Fd), some (.int p'), none, some (.str nm), some (.int r), some (.ref Hg), some x, some (.ref Ot), some (.str hd), some (V.ref a2)] = [some (.ref b), some (.int n), some (.int mo), some (.ref Nm), some (.ref Pp), some (.ref Or), some (.ref Fr), some (.ref Fd), some (.int p'), none, some (.str nm), some (.int r), some (.ref Hg), some x, some (.ref Ot), some (.str hd), some (.ref a3)] ∧ Wv K b G0 Fr Fd Hg kvs' xs ys fs hs H14 ∧ FreeOk kvs' ps ∧ SqT K H14 a3 zs' ∧ DtA K mT H14 zs' es' ∧ OpF r es' ∧ (PyData.weightAll es' : Int) ≤ 199 * rl + 52 := ⟨a2, zs, es, kvs1, rfl, wv14, hfr2, hS14, hA14, hop, hwt⟩
          refine ⟨_, rfl, _, rfl, inP (wv14.rel.keep _ _ PpB hPp0) ⟨_, rfl, iteP (fun hin => ?_) fun _ => stay⟩⟩
          refine ⟨_, rfl, _, _, rfl, .inr ⟨_, hS14, rfl⟩, _, _, rfl, rfl, _, rfl, iteP (fun hl1 => ?_) fun _ => stay⟩
          obtain ⟨iv, hiv⟩ := hfr2.get hin
          refine ⟨_, rfl, _, rfl, Fr, .int iv, rfl, ?_, _, _, rfl, rfl, _, rfl, iteP (fun _ => ⟨_, rfl, ?_⟩) fun _ => ⟨_, rfl, nopart ⟨1, rfl, sl_use hS14 fun a3 H15 s15 hS15 => ?_⟩⟩⟩
          · rw [← hiv]
            exact DGet.k (k := .inr hd) wv14.fr
          · refine ⟨_, rfl, _, rfl, Fr, .int iv, rfl, ?_, _, rfl, _, _, rfl, .inr ⟨_, hS14, rfl⟩, _, _, rfl, rfl, .inr ⟨_, rfl, _, _, rfl, rfl, Fr, _, rfl, DPut.k (k := .inr hd) wv14.fr (Nat.lt_of_le_of_lt hfr2.few (small1000 (by decide))), ?_⟩⟩
            · rw [← hiv]
              exact DGet.k (k := .inr hd) wv14.fr
            · exact ⟨a2, zs, es, _, rfl, wv14.setFr hb0 FrG FrFd.symm HgFr _, hfr2.put hin _, sq_fut hS14 (futT_dct wv14.fr), hA14.fut (futT_dct wv14.fr), hop, hwt⟩
          · have wv15 := wv14.same s15
            rw [show (1 : Int) = ((1 : Nat) : Int) from rfl, cutV_upto] at hS15
            have hwt1 : (PyData.weightAll (es.take 1) : Int) ≤ 199 * rl + 52 := by
              have := wtA_take es 1
              omega
            refine ⟨_, rfl, _, rfl, Fr, .int iv, rfl, ?_, _, rfl, _, _, rfl, .inr ⟨_, hS15, rfl⟩, _, _, rfl, rfl, .inr ⟨_, rfl, _, _, rfl, rfl, Fr, _, rfl, DPut.k (k := .inr hd) wv15.fr (Nat.lt_of_le_of_lt hfr2.few (small1000 (by decide))), ?_⟩⟩
            · rw [← hiv]
              exact DGet.k (k := .inr hd) wv15.fr
            · exact ⟨a3, zs.take 1, es.take 1, _, rfl, wv15.setFr hb0 FrG FrFd.symm HgFr _, hfr2.put hin _, sq_fut hS15 (futT_dct wv15.fr), ((hA14.take 1).fut (.of_same s15)).fut (futT_dct wv15.fr), hop.take, hwt1⟩
        · rintro σ' H15 ⟨a3, zs', es', kvs', rfl, wv15, hfr3, hS15, hA15, hop', hwt'⟩
          -- one holding more
          have hyl := wv15.dhs.length
          refine ⟨_, rfl, .inl ⟨rfl, _, .inl (.inl wv15.hg)⟩, _, rfl, _, rfl, _, _, rfl, .inl ⟨_, .inl (.inl wv15.hg), rfl⟩, _, _, rfl, rfl, b, _, rfl, wv15.rel.bag, by omega, by omega, fun c H16 c0' c1' R16' => ⟨_, rfl, _, rfl, sz8 (by simp), fun t4 nt4 => ?_⟩⟩
          have s17 := same_upd (o := .tup [.str hd, .ref a3]) nt4
          have wv16 := wv15.go R16' FrB FdB HgB
          have wv17 := wv16.same s17
          obtain ⟨cn, rfl⟩ : ∃ cn : Nat, c = (cn : Int) := ⟨c.toNat, by omega⟩
          have dt17 : Dt K mT (upd H16 t4 (.tup [.str hd, .ref a3])) (.ref t4) (.tuple [.str hd, .tuple es']) := tup_new nt4 (.cons (.str hd) (.cons ((dt_tupS hS15 hA15).fut (Rel.futT R16' wv15.rel.bag)) .nil))
          obtain ⟨g1, g2, g3, g4⟩ := hold_ok (name := nm) (r := r) hdN hdne hop'
          have w18 := wv17.setHg hb0 HgG HgFd.symm HgFr.symm (((wv17.dhs.take cn).append (.cons dt17 .nil)).append (wv17.dhs.drop cn))
          refine ⟨Hg, ys, _, _, rfl, rfl, wv17.hg, small1000 (by omega), by omega, by omega, ?_⟩
          rw [Int.toNat_natCast]
          refine ⟨p', _, _, _, _, kvs', _, _, rfl, hp0, by omega, w18, hfr3, hHs.insert cn g1 g2 g3, by simp only [List.length_append, List.length_take, List.length_drop, List.length_cons, List.length_nil]; omega, ?_⟩
          rw [wtA_insert]
          omega
    · obtain ⟨p, o13, o14, o15, o16, kvs1, ys, hs, rfl, pq0, pq1, wv, hfr2, hHs, hHl, hHw⟩ := h
      have hyl := wv.dhs.length
      refine ⟨_, rfl, .inl ⟨rfl, _, .inl (.inl wv.fd)⟩, _, rfl, _, rfl, _, rfl, Hg, ys, rfl, .inl ⟨.inl (.inl wv.hg), fun l nl => ⟨sz8 (by simp), fun t5 nt5 => ?_⟩⟩⟩
      have sl := same_upd (o := .tup ys) nl
      have s5 := same_upd (o := .tup [.str nm, .int r, .ref l]) nt5
      have w5 := (wv.same sl).same s5
      have dt5 : Dt K mT (upd (upd Ha l (.tup ys)) t5 (.tup [.str nm, .int r, .ref l])) (.ref t5) (.tuple [.str nm, .int r, .tuple hs]) := tup_new nt5 (.cons (.str nm) (.cons (.int r) (.cons (tup_new nl wv.dhs) .nil)))
      have hxl := w5.dfs.length
      have hfl : fs.length = i := by
        have := congrArg List.length hF1.nm
        rw [List.length_map, List.length_take] at this
        omega
      refine ⟨Fd, xs, _, rfl, rfl, w5.fd, small1000 (by omega), ?_⟩
      have hfw := firm_wt (hs := hs) hnmN r0 r6
      refine ⟨p, _, _, _, _, _, _, _, kvs1, _, _, rfl, pq0, by omega, w5.rel.at hb0 FdG, by rw [upd_ne FrFd]; exact w5.fr, hfr2, upd_same, (w5.dfs.fut (futT_lst w5.fd)).append (.cons (dt5.fut (futT_lst w5.fd)) .nil), ?_, ?_⟩
      · rw [List.take_add_one, hnm]
        exact hF1.snoc hnmN r0 r6 hHs
      · rw [wt_one]
        omega
  · obtain ⟨p, o10, o11, o12, o13, o14, o15, o16, kvs, xs, fs, rfl, q0, q40, R1, hFr1, hfr1, hFd1, hA1, hF1, hW1⟩ := h
    rw [List.length_map] at hF1 hW1
    rw [List.take_length] at hF1
    refine ⟨_, rfl, Fd, xs, rfl, .inl ⟨.inl (.inl hFd1), fun l nl => ?_⟩⟩
    have sl := same_upd (o := .tup xs) nl
    refine k _ _ (.tuple fs) ⟨⟨by simp only [smD]; exact hF1.sm, by simp only [PyData.hasDict]; exact smA_nd hF1.sm, ?_, ?_⟩, ?_, fs, rfl, ?_⟩ ((R0.trans R1).same sl) (Dt.pure (by simp only [smD]; exact hF1.sm) (tup_new (mu := mT) nl hA1))
    · have := dpA_le.mpr hF1.dp
      simp only [PyData.depth]
      omega
    · simp only [PyData.weight]
      omega
    · show (fs.all firmD && ascS (fs.map nmS)) = true
      rw [hF1.all, hF1.nm, hasc]
      rfl
    · have := congrArg List.length hF1.nm
      rw [List.length_map] at this
      omega
end
end K34
namespace K34
open PySem PySem.Spec PyProof.Rows L2 Sw StX RZ
mutual
/-- a claim in which something is due -/
def dueD : PyData → Bool
  | .tuple (.str w :: ps) => decide (w = "due") || dueW w ps
  | _ => false
def dueW (w : Str) : List PyData → Bool
  | [p] => if w = "sum" then dueS p else false
  | [p, _] => if w = "capped" then dueD p else false
  | _ => false
def dueS : PyData → Bool
  | .tuple cs => dueA cs
  | _ => false
def dueA : List PyData → Bool
  | [] => false
  | c :: cs => dueD c || dueA cs
end
theorem dueA_any : ∀ cs : List PyData, dueA cs = cs.any dueD
  | [] => rfl
  | c :: cs => by
    rw [List.any_cons, ← dueA_any cs]
    rfl
def headDue : PyData → Bool
  | .tuple (.str w :: _) => decide (w = "due")
  | _ => false
theorem due_sub (w : Str) (ps : List PyData) : dueD (.tuple (.str w :: ps)) = (headDue (.tuple (.str w :: ps)) || (sub (.tuple (.str w :: ps))).any dueD) := by
  show (decide (w = "due") || dueW w ps) = (decide (w = "due") || _)
  congr 1
  match ps with
  | [] => rfl
  | [p] =>
    show (if w = "sum" then dueS p else false) = _
    by_cases e : w = "sum"
    · subst e
      rw [if_pos rfl]
      cases p <;> first | (simp [sub, dueS]; done) | (simp [sub, dueS, dueA_any])
    · rw [if_neg e]
      simp [sub, e]
  | [p, q] =>
    show (if w = "capped" then dueD p else false) = _
    by_cases e : w = "capped"
    · subst e
      rw [if_pos rfl]
      simp [sub]
    · rw [if_neg e]
      simp [sub, e]
  | _ :: _ :: _ :: _ => rfl
theorem sub_sm {d : PyData} (h : smD d = true) : smA (sub d) = true := by
  unfold sub
  split
  · split
    · split
      · simp only [smD, smA, Bool.and_true, Bool.and_eq_true] at h
        exact h.2
      · rfl
    · rfl
  · split
    · simp only [smD, smA, Bool.and_true, Bool.and_eq_true] at h ⊢
      exact h.2.1
    · rfl
  · rfl
theorem any_rev {p : PyData → Bool} (l : List PyData) : l.reverse.any p = l.any p := by
  rw [Bool.eq_iff_iff, List.any_eq_true, List.any_eq_true]
  exact ⟨fun ⟨x, h1, h2⟩ => ⟨x, List.mem_reverse.mp h1, h2⟩, fun ⟨x, h1, h2⟩ => ⟨x, List.mem_reverse.mpr h1, h2⟩⟩
section
variable {P : Program} {w : World} {K : PySem.W.Frag} {mg : Str → Option Value} {base : Heap}
/-- a claim, well kept -/
structure Cm (r : Int) (d : PyData) : Prop where
  clm : clm r d = true
  sm : smD d = true
  ok : Ok d
def spInside (K : PySem.W.Frag) : Sp := fun vs H Q _ => ∃ (r : Int) (v : V) (d : PyData), vs = [v] ∧ Dt K mT H v d ∧ Cm r d ∧ ∀ p xs ds H', Same H H' → H' p = some (.lst xs) → DtA K mT H' xs ds → (∀ e ∈ ds, ∃ w ps, e = .tuple (.str w :: ps)) → ds.any headDue = dueD d → ds.length ≤ 30000 → Q (.ref p) H'
abbrev sclaims_inside : Stmt := topS 3
theorem sc_claims_inside : FnScope ["claim", "found", "ahead", "part"] ["claim"] (defScope sclaims_inside) := ⟨rfl, rfl, rfl, by decide +kernel, rfl, by decide +kernel, by decide +kernel⟩
theorem ok_claims_inside {f : Addr} {fd : FuncData} (F : Fun K "claims_inside" "claims_inside" sclaims_inside f fd) (B : Bt mg) (c_claims_below : CalG P w K mg base 1 "claims_below" (spBelow K)) : FnG P w K mg base 2 f fd ["claim"] (spInside K) := by
  refine Fun.okG F sc_claims_inside (fun vs H Q E h => ?_) (fun cdv A outer s H vs Q E hg hr h => ?_)
  · obtain ⟨_, _, _, rfl, _⟩ := h
    rfl
  obtain ⟨r, v, d, rfl, hd, hc, k⟩ := h
  refine ⟨_, (pss_cons (ps_par (i := 1) (j := 2) rfl sc_claims_inside.nd rfl rfl (by decide) rfl rfl (pa_cons (pe_lst pa_nil) (pa_cons (pe_lst (pa_cons (pv 0) pa_nil)) pa_nil)) (by rfl))
    (pss_cons (ps_while PassesOwn.never (pt_truth (pv 2) (by intro _; rfl))
      (pss_cons (ps_set (i := 3) sc_claims_inside.nd rfl (Or.inl rfl) (pe_bm0 PySem.F.plainAttrs_list PySem.F.slot_list_pop PySem.F.type_list_pop mt_pop (pv 2)))
      (pss_cons (ps_expr (pe_bm PySem.F.plainAttrs_list PySem.F.slot_list_append PySem.F.type_list_append mt_append (pv 1) (pa_cons (pv 3) pa_nil)))
      (pss_one (ps_expr (pe_bm PySem.F.plainAttrs_list PySem.F.slot_list_extend PySem.F.type_list_extend mt_extT (pv 2) (pa_cons (pe_revT (pc c_claims_below hg hr (by omega) (by rfl) (pa_cons (pv 3) pa_nil))) pa_nil)))))))
    (pss_one (ps_ret (pv 1))))), ?_⟩
  have hN : d.weight ≤ 27000 := hc.ok.wt
  refine ⟨Nat.zero_le _, fun Fd nF => ⟨_, rfl, sz (by simp), fun l nl => ⟨_, _, rfl, ?_⟩⟩⟩
  have s0 := (same_upd (o := .lst []) nF).trans (same_upd (o := .lst [v]) nl)
  have FdL : Fd ≠ l := fun z => by
    rw [← z, upd_same] at nl
    cases nl
  have nlH : H l = none := (same_upd (o := .lst []) nF).free nl
  refine ⟨fun m σ H' => ∃ o3 xs ds ws es, σ = [some v, some (.ref Fd), some (.ref l), o3] ∧ Same H H' ∧ H' Fd = some (.lst xs) ∧ DtA K mT H' xs ds ∧ (∀ e ∈ ds, ∃ w ps, e = .tuple (.str w :: ps)) ∧ H' l = some (.lst ws) ∧ DtA K mT H' ws es ∧ (∀ e ∈ es, Cm r e) ∧ (ds.any headDue || es.any dueD) = dueD d ∧ ds.length + PyData.weightAll es ≤ 27001 ∧ m = PyData.weightAll es,
    ⟨_, _, [], [], [v], [d], rfl, s0, same_upd nl _ _ upd_same, .nil, (fun _ h => nomatch h), upd_same, .cons (hd.fut (.of_same s0)) .nil, (fun e he => by rw [List.mem_singleton.mp he]; exact hc), by simp, by simp only [PyData.weightAll, List.length_nil]; omega, rfl⟩, ?_⟩
  rintro m σ H1 ⟨o3, xs, ds, ws, es, rfl, sm, hF, hX, hh, hl, hA, hcm, hdu, hw, rfl⟩
  refine ⟨_, rfl, !ws.isEmpty, .inl ⟨ws, .inl (.inl hl), rfl⟩, iteB (fun he => ?_) fun he => ?_⟩
  · have hne : ws ≠ [] := fun z => by
      rw [z] at he
      cases he
    have hlen := hA.length
    have hpos : 0 < ws.length := List.length_pos_iff.mpr hne
    obtain ⟨y, hy⟩ : ∃ y, ws[ws.length - 1]? = some y := ⟨_, List.getElem?_eq_getElem (by omega)⟩
    obtain ⟨e, he1, hye⟩ := hA.get hy
    have hA' := hA.take (ws.length - 1)
    rw [← List.dropLast_eq_take] at hA'
    have eds : es = es.take (ws.length - 1) ++ [e] := by
      have z : es.take (ws.length - 1 + 1) = es.take (ws.length - 1) ++ [e] := by
        rw [List.take_add_one, he1]
        rfl
      rw [← z]
      exact (List.take_of_length_le (by omega)).symm
    have ce : Cm r e := hcm e (List.mem_of_getElem? he1)
    have cm' : ∀ x ∈ es.take (ws.length - 1), Cm r x := fun x hx => hcm x (List.mem_of_mem_take hx)
    generalize es.take (ws.length - 1) = us at eds hA' cm'
    subst eds
    obtain ⟨w0, ps, rfl, _, _⟩ := clm_tup ce.clm
    have hloc := ce.clm
    rw [clm_loc, Bool.and_eq_true] at hloc
    have csub : ∀ x ∈ sub (.tuple (.str w0 :: ps)), Cm r x := fun x hx => by
      have h2 := hloc.2
      rw [clmA_all, List.all_eq_true] at h2
      exact ⟨h2 x hx, smA_iff.mp (sub_sm ce.sm) x hx, sub_ok ce.ok x hx⟩
    have w2 := sub_wt (.tuple (.str w0 :: ps))
    have lsub := len_wt (sub (.tuple (.str w0 :: ps)))
    have lus := len_wt us
    rw [wt_one] at hw
    refine ⟨fun σ' H' => ∃ o3 xs ds ws es', σ' = [some v, some (.ref Fd), some (.ref l), o3] ∧ Same H H' ∧ H' Fd = some (.lst xs) ∧ DtA K mT H' xs ds ∧ (∀ e ∈ ds, ∃ w ps, e = .tuple (.str w :: ps)) ∧ H' l = some (.lst ws) ∧ DtA K mT H' ws es' ∧ (∀ e ∈ es', Cm r e) ∧ (ds.any headDue || es'.any dueD) = dueD d ∧ ds.length + PyData.weightAll es' ≤ 27001 ∧ PyData.weightAll es' < PyData.weightAll (us ++ [.tuple (.str w0 :: ps)]),
      fun σ' H' ⟨o3, xs, ds, ws, es', a1, a2, a3, a4, a5, a6, a7, a8, a9, a10, a11⟩ => ⟨_, a11, o3, xs, ds, ws, es', a1, a2, a3, a4, a5, a6, a7, a8, a9, a10, rfl⟩, ?_⟩
    refine ⟨_, rfl, .inl ⟨rfl, _, .inl (.inl hl)⟩, l, ws, y, rfl, rfl, hl, hy, ?_⟩
    have fl : Fut mT H1 (upd H1 l (.lst ws.dropLast)) := futT_lst hl
    have sm2 : Same H (upd H1 l (.lst ws.dropLast)) := fun a o z => by
      rw [upd_ne (ne_of_none z nlH)]
      exact sm a o z
    have hF2 : (upd H1 l (.lst ws.dropLast)) Fd = some (.lst xs) := by rw [upd_ne FdL]; exact hF
    have hX2 := hX.fut fl
    have hy2 := hye.fut fl
    have hA2 := hA'.fut fl
    have hl2 : (upd H1 l (.lst ws.dropLast)) l = some (.lst ws.dropLast) := upd_same
    revert sm2 hF2 hX2 hy2 hA2 hl2
    generalize upd H1 l (.lst ws.dropLast) = H2
    intro sm2 hF2 hX2 hy2 hA2 hl2
    have hxl := hX2.length
    refine ⟨_, rfl, .inl ⟨rfl, _, .inl (.inl hF2)⟩, _, rfl, Fd, xs, y, rfl, rfl, hF2, by have := sizeLine_eq; omega, ?_⟩
    have fl3 : Fut mT H2 (upd H2 Fd (.lst (xs ++ [y]))) := futT_lst hF2
    have sm3 : Same H (upd H2 Fd (.lst (xs ++ [y]))) := fun a o z => by
      rw [upd_ne (ne_of_none z nF)]
      exact sm2 a o z
    have hF3 : (upd H2 Fd (.lst (xs ++ [y]))) Fd = some (.lst (xs ++ [y])) := upd_same
    have hX3 : DtA K mT (upd H2 Fd (.lst (xs ++ [y]))) (xs ++ [y]) (ds ++ [.tuple (.str w0 :: ps)]) := (hX2.fut fl3).append (.cons (hy2.fut fl3) .nil)
    have hy3 := hy2.fut fl3
    have hA3 := hA2.fut fl3
    have hl3 : (upd H2 Fd (.lst (xs ++ [y]))) l = some (.lst ws.dropLast) := by rw [upd_ne FdL.symm]; exact hl2
    revert sm3 hF3 hX3 hy3 hA3 hl3
    generalize upd H2 Fd (.lst (xs ++ [y])) = H3
    intro sm3 hF3 hX3 hy3 hA3 hl3
    refine ⟨_, rfl, .inl ⟨rfl, _, .inl (.inl hl3)⟩, _, rfl, y, mT, _, rfl, hy3, ⟨r, hloc.1⟩, fun p ys H4 s4 hp hys => ⟨p, ys, rfl, hp, fun p2 n2 => ?_⟩⟩
    have s5 := s4.trans (same_upd (o := .tup ys.reverse) n2)
    have l2 := hA3.length
    have l3 := hys.length
    have sl := sizeLine_eq
    refine ⟨l, p2, ws.dropLast, ys.reverse, rfl, rfl, s5 _ _ hl3, .of upd_same, by rw [List.length_reverse]; omega, ?_⟩
    have hl5 := s5 _ _ hl3
    have fl5 : Fut mT (upd H4 p2 (.tup ys.reverse)) (upd (upd H4 p2 (.tup ys.reverse)) l (.lst (ws.dropLast ++ ys.reverse))) := futT_lst hl5
    have hys2 := (dtA_revS hys).fut (.of_same (same_upd (o := .tup ys.reverse) n2))
    refine ⟨_, xs ++ [y], _, _, us ++ (sub (.tuple (.str w0 :: ps))).reverse, rfl, fun a o z => ?_, ?_, (hX3.fut (.of_same s5)).fut fl5, fun x hx => ?_, upd_same, ((hA3.fut (.of_same s5)).append hys2).fut fl5, fun x hx => ?_, ?_, ?_, ?_⟩
    · rw [upd_ne (ne_of_none z nlH)]
      exact s5 _ _ (sm3 a o z)
    · rw [upd_ne FdL]
      exact s5 _ _ hF3
    · rcases List.mem_append.mp hx with hx | hx
      · exact hh x hx
      · rw [List.mem_singleton.mp hx]
        exact ⟨_, _, rfl⟩
    · rcases List.mem_append.mp hx with hx | hx
      · exact cm' x hx
      · exact csub x (List.mem_reverse.mp hx)
    · rw [← hdu]
      simp only [List.any_append, any_rev, List.any_cons, List.any_nil, Bool.or_false]
      rw [due_sub w0 ps]
      cases ds.any headDue <;> cases us.any dueD <;> simp
    · rw [wtA_app, wtA_rev, List.length_append]
      show ds.length + 1 + _ ≤ _
      omega
    · rw [wtA_app, wtA_rev, wt_one]
      omega
  · have hnil : ws = [] := by
      cases ws with
      | nil => rfl
      | cons _ _ => cases he
    subst hnil
    cases hA
    refine ⟨_, rfl, k Fd xs ds H1 sm hF hX hh ?_ (by omega)⟩
    simpa using hdu
end
end K34
namespace K34
open PySem PySem.Spec PyProof.Rows L2 Sw StX RZ
theorem hold_shape {r : Int} {h : PyData} (q : holdD r h = true) : ∃ hn os, h = .tuple [.str hn, .tuple os] ∧ nameS hn = true ∧ os ≠ [] ∧ ∀ c ∈ os, clm r c = true := by
  unfold holdD at q
  split at q
  · rename_i a o
    rw [Bool.and_eq_true] at q
    obtain ⟨hn, rfl⟩ : ∃ hn, a = .str hn := by
      cases a <;> first | exact ⟨_, rfl⟩ | (simp [isNm] at q)
    obtain ⟨os, rfl⟩ : ∃ os, o = .tuple os := by
      cases o <;> first | exact ⟨_, rfl⟩ | (simp [optsD] at q)
    have q2 : (!os.isEmpty && clmA r os) = true := q.2
    rw [Bool.and_eq_true, clmA_all, List.all_eq_true] at q2
    refine ⟨hn, os, rfl, q.1, fun z => ?_, q2.2⟩
    rw [z] at q2
    exact absurd q2.1 (by decide)
  · cases q
theorem firm_shape2 {e : PyData} (h : firmD e = true) : ∃ n r hs, e = .tuple [.str n, .int r, .tuple hs] ∧ nameS n = true ∧ 0 ≤ r ∧ r ≤ 6 ∧ ∀ x ∈ hs, holdD r x = true ∧ headIs n x = false := by
  obtain ⟨n, r, hs, rfl, hn⟩ := firm_name h
  have h2 : (isNm (.str n) && (isIn 0 6 r && hldsD (.str n) r hs)) = true := h
  simp only [Bool.and_eq_true] at h2
  obtain ⟨_, h3, h4⟩ := h2
  obtain ⟨i, rfl⟩ : ∃ i, r = .int i := by
    cases r <;> first | exact ⟨_, rfl⟩ | (simp [isIn] at h3)
  obtain ⟨ts, rfl⟩ : ∃ ts, hs = .tuple ts := by
    cases hs <;> first | exact ⟨_, rfl⟩ | (simp [hldsD] at h4)
  have h5 : decide (0 ≤ i ∧ i ≤ 6) = true := h3
  have h6 : (ts.all fun h => holdD i h && !headIs n h) = true := h4
  rw [List.all_eq_true] at h6
  refine ⟨n, i, ts, rfl, hn, (of_decide_eq_true h5).1, (of_decide_eq_true h5).2, fun x hx => ?_⟩
  have := h6 x hx
  rw [Bool.and_eq_true, Bool.not_eq_true'] at this
  exact this
def hldL : PyData → List PyData
  | .tuple [_, _, .tuple hs] => hs
  | _ => []
def optL : PyData → List PyData
  | .tuple [_, .tuple os] => os
  | _ => []
/-- a web, well kept -/
structure Wg (fs : List PyData) : Prop where
  all : fs.all firmD = true
  asc : ascS (fs.map nmS) = true
  sm : smA fs = true
  ok : Ok (.tuple fs)
  few : fs.length ≤ 6
  lean : (fs.flatMap hldL).length ≤ 3500
/-- a firm's value, opened -/
structure FmV (K : PySem.W.Frag) (H : Hp) (x : V) (f : PyData) (n : Str) (r : Int) (a3 : Addr) (zs : List V) (hs : List PyData) : Prop where
  eq : f = .tuple [.str n, .int r, .tuple hs]
  val : ∃ a, x = .ref a ∧ SqT K H a [.str n, .int r, .ref a3]
  hsq : SqT K H a3 zs
  hdt : DtA K mT H zs hs
  r0 : 0 ≤ r
  r6 : r ≤ 6
  nok : nameS n = true
  hok : ∀ h ∈ hs, holdD r h = true ∧ headIs n h = false
  hsm : smA hs = true
  hoo : ∀ h ∈ hs, Ok h
theorem firm_open {K : PySem.W.Frag} {H : Hp} {x : V} {f : PyData} (h : Dt K mT H x f) (hf : firmD f = true) (hs : smD f = true) (ho : Ok f) : ∃ n r a3 zs hs, FmV K H x f n r a3 zs hs := by
  obtain ⟨n, r, ts, rfl, h1, h2, h3, h4⟩ := firm_shape2 hf
  obtain ⟨a, xs, rfl, hS, hA⟩ := h.tupAt
  obtain ⟨y1, y2, y3, _, _, _, rfl, ee, z1, z2, z3⟩ := hA.three rfl
  cases ee
  cases z1
  cases z2
  obtain ⟨a3, zs, rfl, hS3, hA3⟩ := z3.tupAt
  simp only [smD, smA, Bool.and_true, Bool.and_eq_true] at hs
  have o3 : Ok (.tuple ts) := ho.inT (by simp)
  exact ⟨n, r, a3, zs, ts, rfl, ⟨a, rfl, hS⟩, hS3, hA3, h2, h3, h1, h4, hs.2.2, fun h hh => o3.inT hh⟩
theorem Wg.open {K : PySem.W.Frag} {H : Hp} {fs : List PyData} (w : Wg fs) {xs : List V} (hA : DtA K mT H xs fs) {i : Nat} {x : V} (hx : xs[i]? = some x) : ∃ f n r a3 zs hs, fs[i]? = some f ∧ FmV K H x f n r a3 zs hs := by
  obtain ⟨f, hf, hxf⟩ := hA.get hx
  have hm := List.mem_of_getElem? hf
  obtain ⟨n, r, a3, zs, hs, h⟩ := firm_open hxf (List.all_eq_true.mp w.all f hm) (smA_iff.mp w.sm f hm) (w.ok.inT hm)
  exact ⟨f, n, r, a3, zs, hs, hf, h⟩
theorem FmV.fut {K : PySem.W.Frag} {H H' : Hp} {x : V} {f : PyData} {n : Str} {r : Int} {a3 : Addr} {zs : List V} {hs : List PyData} (h : FmV K H x f n r a3 zs hs) (s : Fut mT H H') : FmV K H' x f n r a3 zs hs := by
  obtain ⟨a, e, hS⟩ := h.val
  exact ⟨h.eq, ⟨a, e, sq_fut hS s⟩, sq_fut h.hsq s, h.hdt.fut s, h.r0, h.r6, h.nok, h.hok, h.hsm, h.hoo⟩
/-- a holding's value, opened -/
structure HdV (K : PySem.W.Frag) (H : Hp) (x : V) (h : PyData) (r : Int) (n : Str) (ao : Addr) (zs : List V) (os : List PyData) : Prop where
  eq : h = .tuple [.str n, .tuple os]
  val : ∃ a, x = .ref a ∧ SqT K H a [.str n, .ref ao]
  osq : SqT K H ao zs
  odt : DtA K mT H zs os
  nok : nameS n = true
  one : os ≠ []
  cm : ∀ c ∈ os, Cm r c
  few : os.length ≤ 27000
theorem hold_open {K : PySem.W.Frag} {H : Hp} {x : V} {h : PyData} {r : Int} (hd : Dt K mT H x h) (hh : holdD r h = true) (hs : smD h = true) (ho : Ok h) : ∃ n ao zs os, HdV K H x h r n ao zs os := by
  obtain ⟨n, os, rfl, h1, h2, h3⟩ := hold_shape hh
  obtain ⟨a, xs, rfl, hS, hA⟩ := hd.tupAt
  obtain ⟨y1, y2, _, _, rfl, ee, z1, z2⟩ := hA.two rfl
  cases ee
  cases z1
  obtain ⟨ao, zs, rfl, hS3, hA3⟩ := z2.tupAt
  simp only [smD, smA, Bool.and_true, Bool.and_eq_true] at hs
  have o3 : Ok (.tuple os) := ho.inT (by simp)
  exact ⟨n, ao, zs, os, rfl, ⟨a, rfl, hS⟩, hS3, hA3, h1, h2, fun c hc => ⟨h3 c hc, smA_iff.mp hs.2 c hc, o3.inT hc⟩, Nat.le_trans (len_wt os) o3.wt⟩
theorem FmV.hold {K : PySem.W.Frag} {H : Hp} {x : V} {f : PyData} {n : Str} {r : Int} {a3 : Addr} {zs : List V} {hs : List PyData} (h : FmV K H x f n r a3 zs hs) {i : Nat} {z : V} (hz : zs[i]? = some z) : ∃ e m ao ys os, hs[i]? = some e ∧ HdV K H z e r m ao ys os ∧ m ≠ n := by
  obtain ⟨e, he, hze⟩ := h.hdt.get hz
  have hm := List.mem_of_getElem? he
  obtain ⟨m, ao, ys, os, hv⟩ := hold_open hze (h.hok e hm).1 (smA_iff.mp h.hsm e hm) (h.hoo e hm)
  refine ⟨e, m, ao, ys, os, he, hv, fun q => ?_⟩
  have := (h.hok e hm).2
  rw [hv.eq, q] at this
  exact absurd (show headIs n (.tuple [.str n, .tuple os]) = true from decide_eq_true rfl) (by rw [this]; exact Bool.false_ne_true)
theorem HdV.fut {K : PySem.W.Frag} {H H' : Hp} {x : V} {h : PyData} {r : Int} {n : Str} {ao : Addr} {zs : List V} {os : List PyData} (q : HdV K H x h r n ao zs os) (s : Fut mT H H') : HdV K H' x h r n ao zs os := by
  obtain ⟨a, e, hS⟩ := q.val
  exact ⟨q.eq, ⟨a, e, sq_fut hS s⟩, sq_fut q.osq s, q.odt.fut s, q.nok, q.one, q.cm, q.few⟩
section
variable {P : Program} {w : World} {K : PySem.W.Frag} {mg : Str → Option Value} {base : Heap}
/-- tells p of a claim -/
def spCm (K : PySem.W.Frag) (p : PyData → Bool) : Sp := fun vs H Q _ => ∃ (r : Int) (v : V) (d : PyData), vs = [v] ∧ Dt K mT H v d ∧ Cm r d ∧ ∀ H', Same H H' → Q (.bl (p d)) H'
/-- one option alone, of shares -/
def fndO : List PyData → Bool
  | [.tuple (.str w :: _)] => decide (w = "shares")
  | _ => false
def spDueL (K : PySem.W.Frag) (n : Nat) : Sp := fun vs H Q _ => ∃ (r : Int) (v : V) (d : PyData), vs = [v] ∧ Dt K mT H v d ∧ Cm r d ∧ d.depth ≤ n ∧ ∀ H', Same H H' → Q (.bl (dueD d)) H'
abbrev shas_due : Stmt := topS 4
theorem sc_has_due : FnScope ["claim", "part"] ["claim"] (defScope shas_due) := ⟨rfl, rfl, rfl, by decide +kernel, rfl, by decide +kernel, by decide +kernel⟩
theorem ok_has_due {f : Addr} {fd : FuncData} (F : Fun K "has_due" "has_due" shas_due f fd) (B : Bt mg) (TY : mg "any" = none) (c_claims_inside : CalG P w K mg base 2 "claims_inside" (spInside K)) : FnG P w K mg base 3 f fd ["claim"] (spCm K dueD) := by
  refine Fun.okG F sc_has_due (fun vs H Q E h => ?_) (fun cdv A outer s H vs Q E hg hr h => ?_)
  · obtain ⟨_, _, _, rfl, _⟩ := h
    rfl
  obtain ⟨r, v, d, rfl, hd, hc, k⟩ := h
  refine ⟨_, (pss_one (ps_ret (pe_callB (cr_any rfl) (by rfl) TY bb_any (pa_cons (pe_lc (own := [("part", 1)]) rfl sc_has_due.nd (pi_list (pc c_claims_inside hg hr (by omega) (by rfl) (pa_cons (pv 0) pa_nil))) (blkOk_by (own := [("part", 1)]) (N := ["claim", "part"]) (sc := (defScope shas_due)) (by decide +kernel)) (fun _ _ _ _ _ => (pg_name (i := 1) sc_has_due.nd rfl (Or.inl rfl))) (fun _ _ _ _ _ => pts_nil) (fun _ _ _ _ _ => (pe_cmpR op_eq (pe_ix (ix_tupK (K := K) rfl) (pv 1) pe_int (fun _ _ => rfl)) pe_str (nomark _)))) pa_nil)))), ?_⟩
  refine ⟨_, rfl, r, v, d, rfl, hd, hc, fun p xs ds H1 s1 hp hX hh hdu hl => ⟨p, rfl, ⟨_, .inl (.inl hp)⟩, fun D nD => ?_⟩⟩
  have hxl := hX.length
  have sl := sizeLine_eq
  refine lc_it (walk_list (K := K) (a := p) (xs := xs)) (fun i H' => Same H1 H' ∧ H' D = some (.lst (((ds.take i).map headDue).map V.bl))) ⟨same_upd nD, by rw [upd_same]; rfl⟩ (fun i H' _ h => .inl (.inl (h.1 _ _ hp))) ?_ ?_
  · rintro i x H2 H3 hi ⟨s2, hD⟩ ⟨rfl, hx⟩
    obtain ⟨e, he, hxe⟩ := hX.get hx
    obtain ⟨w0, ps, rfl⟩ := hh e (List.mem_of_getElem? he)
    obtain ⟨a, ys, rfl, hS, hA⟩ := (hxe.fut (.of_same s2)).tupAt
    cases hA with
    | @cons y ys' _ _ hy hys =>
    cases hy
    refine ⟨rfl, _, rfl, a, _, 0, _, rfl, rfl, hS, atI_nat (j := 0) rfl, rfl, _, hD, by rw [List.length_map, List.length_map, List.length_take]; omega, fun z o q => ?_, ?_⟩
    · rw [upd_ne (ne_of_none q nD)]
      exact s2 _ _ q
    · rw [upd_same, List.take_add_one, he, List.map_append, List.map_append]
      refine congrArg (fun z => some (HO.lst (List.map V.bl (List.map headDue (List.take i ds)) ++ z))) ?_
      show [V.bl (decide (V.str w0 = V.str "due"))] = [V.bl (decide (w0 = "due"))]
      rw [show decide (V.str w0 = V.str "due") = decide (w0 = "due") by
        rw [decide_eq_decide]
        exact ⟨V.str.inj, fun z => by rw [z]⟩]
  rintro H2 ⟨s2, hD⟩
  rw [List.take_of_length_le (by omega)] at hD
  refine ⟨D, ds.map headDue, rfl, .inl (.inl hD), ?_⟩
  rw [List.any_map, show (id ∘ headDue) = headDue from rfl, hdu]
  exact k H2 (s1.trans s2)
abbrev s_law_has_due : Stmt := topS 29
theorem sc__law_has_due : FnScope ["claim", "one"] ["claim"] (defScope s_law_has_due) := ⟨rfl, rfl, rfl, by decide +kernel, rfl, by decide +kernel, by decide +kernel⟩
theorem ok__law_has_due {f : Addr} {fd : FuncData} {j N : Nat} {sp : Sp} (hsp : N = 0 ∨ ∃ m, N = m + 1 ∧ sp = spDueL K m) (F : Fun K "_law_has_due" "_law_has_due" s_law_has_due f fd) (B : Bt mg) (c__law_has_due : CalG P w K mg base j "_law_has_due" sp) : FnG P w K mg base (j + 1) f fd ["claim"] (spDueL K N) := by
  refine Fun.okG F sc__law_has_due (fun vs H Q E h => ?_) (fun cdv A outer s H vs Q E hg hr h => ?_)
  · obtain ⟨_, _, _, rfl, _⟩ := h
    rfl
  obtain ⟨r, v, d, rfl, hd, hc, hdp, k⟩ := h
  have hu := Room.u64 hr
  refine ⟨_, (pss_cons (ps_if (pt_cmpR op_eq (pe_ix ix_tup (pv 0) pe_int (fun _ _ => rfl)) pe_str (nomark _))
      (pss_one (ps_ret pe_bl))
      pss_nil)
    (pss_cons (ps_if (pt_cmpR op_eq (pe_ix ix_tup (pv 0) pe_int (fun _ _ => rfl)) pe_str (nomark _))
      (pss_one (ps_ret (pc c__law_has_due hg hr (by omega) (by rfl) (pa_cons (pe_ix ix_tup (pv 0) pe_int (fun _ _ => rfl)) pa_nil))))
      pss_nil)
    (pss_one (ps_ret (pe_and (pe_cmpR op_eq (pe_ix ix_tup (pv 0) pe_int (fun _ _ => rfl)) pe_str (nomark _)) (pe_one (pe_cmpR (op_neNil (K := K) rfl hu) (pe_lc (own := [("one", 1)]) rfl sc__law_has_due.nd (pi_tup (pe_ix ix_tup (pv 0) pe_int (fun _ _ => rfl))) (blkOk_by (own := [("one", 1)]) (N := ["claim", "one"]) (sc := (defScope s_law_has_due)) (by decide +kernel)) (fun _ _ _ _ _ => (pg_name (i := 1) sc__law_has_due.nd rfl (Or.inl rfl))) (fun _ _ _ _ _ => (pts_one (pt_val (pc c__law_has_due hg hr (by omega) (by rfl) (pa_cons (pv 1) pa_nil))))) (fun _ _ _ _ _ => (pv 1))) (pe_lst pa_nil) (nomark _)))))))), ?_⟩
  obtain ⟨w0, ps, rfl, h1, h2⟩ := clm_tup hc.clm
  obtain ⟨a, xs, rfl, hS, hA⟩ := hd.tupAt
  have hl := hA.length
  have ddp : PyData.depthAll (.str w0 :: ps) + 1 ≤ N := by
    have e : (PyData.tuple (.str w0 :: ps)).depth = PyData.depthAll (.str w0 :: ps) + 1 := by simp [PyData.depth]
    omega
  obtain ⟨n, rfl, rfl⟩ : ∃ n, N = n + 1 ∧ sp = spDueL K n := by
    rcases hsp with z | z
    · omega
    · exact z
  cases hA with
  | @cons x xs' dw _ hx hxs =>
  cases hx
  have csub : ∀ x ∈ sub (.tuple (.str w0 :: ps)), Cm r x := fun x hx => by
    have h2 := hc.clm
    rw [clm_loc, Bool.and_eq_true, clmA_all, List.all_eq_true] at h2
    exact ⟨h2.2 x hx, smA_iff.mp (sub_sm hc.sm) x hx, sub_ok hc.ok x hx⟩
  have ed : dueD (.tuple (.str w0 :: ps)) = (decide (w0 = "due") || (sub (.tuple (.str w0 :: ps))).any dueD) := due_sub w0 ps
  rw [ed] at k
  refine ⟨_, rfl, a, _, 0, _, rfl, rfl, hS, atI_nat (j := 0) rfl, rfl, _, rfl, iteP (fun e => ?_) fun e0 => ?_⟩
  · cases e
    have := k H (.refl H)
    rw [decide_eq_true rfl, Bool.true_or] at this
    exact this
  have n0 : w0 ≠ "due" := fun z => e0 (by rw [z])
  rw [decide_eq_false n0, Bool.false_or] at k
  refine ⟨_, rfl, a, _, 0, _, rfl, rfl, hS, atI_nat (j := 0) rfl, rfl, _, rfl, iteP (fun e => ?_) fun e1 => ?_⟩
  · cases e
    obtain ⟨p, q, rfl, hp⟩ := h1 rfl
    obtain ⟨y, z, _, _, rfl, ee, r1, r2⟩ := hxs.two (by have := hxs.length; simpa using this)
    cases ee
    have dd : p.depth ≤ n := by
      have := depth_mem (d := p) (ds := [PyData.str "capped", p, q]) (by simp)
      omega
    rw [sub_capped] at k csub
    have ea : [p].any dueD = dueD p := by simp
    rw [ea] at k
    exact ⟨_, rfl, a, _, 1, y, rfl, rfl, hS, atI_nat (j := 1) rfl, r, y, p, rfl, r1, csub p (by simp), dd, k⟩
  have n1 : w0 ≠ "capped" := fun z => e1 (by rw [z])
  refine ⟨_, rfl, a, _, 0, _, rfl, rfl, hS, atI_nat (j := 0) rfl, rfl, _, rfl, ?_⟩
  refine iteP (fun e => ?_) fun e2 => ?_
  · cases e
    obtain ⟨cs, rfl, hcs⟩ := h2 rfl
    obtain ⟨y, _, rfl, ee, r1⟩ := hxs.one (by have := hxs.length; simpa using this)
    cases ee
    obtain ⟨a2, ys, rfl, hS2, hA2⟩ := r1.tupAt
    have hl2 := hA2.length
    have oc : Ok (.tuple cs) := hc.ok.inT (by simp)
    have hw := len_wt cs
    have hw2 : PyData.weightAll cs ≤ 27000 := oc.wt
    have sl := sizeLine_eq
    rw [sub_sum] at k csub
    refine ⟨_, rfl, a, _, 1, _, rfl, rfl, hS, atI_nat (j := 1) rfl, a2, rfl, ⟨ys, hS2⟩, fun D nD => lc_it (walk_tup (K := K) (xs := ys) (a := a2)) (fun i H' => Same H H' ∧ ∃ ws, H' D = some (.lst ws) ∧ ws.length ≤ i ∧ (ws = [] ↔ (cs.take i).any dueD = false)) ?_ (fun i H' _ h => h.1.seqT hS2) ?_ ?_⟩
    · exact ⟨same_upd nD, [], upd_same, Nat.le_refl _, by simp⟩
    · rintro i x H2 H3 hi ⟨sm, ws, hD, hwl, hall⟩ ⟨rfl, hx2⟩
      obtain ⟨e, he2, hxe⟩ := hA2.get hx2
      have hem := List.mem_of_getElem? he2
      have ed : e.depth ≤ n := by
        have q1 := depth_mem hem
        have q2 := depth_mem (d := PyData.tuple cs) (ds := [PyData.str "sum", PyData.tuple cs]) (by simp)
        have q3 : (PyData.tuple cs).depth = PyData.depthAll cs + 1 := by simp [PyData.depth]
        omega
      have ht : cs.take (i + 1) = cs.take i ++ [e] := by
        rw [List.take_add_one, he2]
        rfl
      refine ⟨rfl, _, rfl, r, x, e, rfl, hxe.fut (.of_same sm), csub e hem, ed, fun H4 s4 => ⟨_, rfl, iteB (fun hd1 => ?_) fun hd1 => ?_⟩⟩
      · refine ⟨_, rfl, ws, s4 _ _ hD, by omega, fun b o z => ?_, ws ++ [x], upd_same, by rw [List.length_append]; show ws.length + 1 ≤ i + 1; omega, ?_⟩
        · rw [upd_ne (ne_of_none z nD)]
          exact s4 _ _ (sm b o z)
        · rw [ht, List.any_append, List.any_cons, hd1]
          constructor
          · intro q
            simp at q
          · intro q
            simp at q
      · refine ⟨sm.trans s4, ws, s4 _ _ hD, by omega, ?_⟩
        rw [ht, List.any_append, List.any_cons, hd1, List.any_nil, Bool.or_false, Bool.or_false]
        exact hall
    rintro H3 ⟨sm, ws, hD, hwl, hall⟩
    rw [List.take_of_length_le (by omega)] at hall
    refine ⟨Nat.zero_le _, fun q2 nq2 => ?_⟩
    have s5 := same_upd (o := .lst []) nq2
    refine ⟨D, q2, ws, rfl, rfl, .inl (.inl (s5 _ _ hD)), .inl (.inl upd_same), ?_⟩
    have kk := k _ (sm.trans s5)
    rw [show (!decide (ws = [])) = cs.any dueD by
      cases hq : cs.any dueD with
      | true => rw [decide_eq_false fun z => by rw [hall.mp z] at hq; cases hq]; rfl
      | false => rw [decide_eq_true (hall.mpr hq)]; rfl]
    exact kk
  · have n2 : w0 ≠ "sum" := fun z => e2 (by rw [z])
    have := k H (.refl H)
    rw [sub_other n1 n2] at this
    exact this
def spFounding (K : PySem.W.Frag) : Sp := fun vs H Q _ => ∃ (r : Int) (a : Addr) (zs : List V) (os : List PyData), vs = [.ref a] ∧ SqT K H a zs ∧ DtA K mT H zs os ∧ os ≠ [] ∧ os.length ≤ 27000 ∧ (∀ c ∈ os, Cm r c) ∧ Q (.bl (fndO os)) H
abbrev sis_founding : Stmt := topS 9
theorem sc_is_founding : FnScope ["options"] ["options"] (defScope sis_founding) := ⟨rfl, rfl, rfl, by decide +kernel, rfl, by decide +kernel, by decide +kernel⟩
theorem ok_is_founding {f : Addr} {fd : FuncData} (F : Fun K "is_founding" "is_founding" sis_founding f fd) (B : Bt mg) : FnG P w K mg base 1 f fd ["options"] (spFounding K) := by
  refine Fun.okG F sc_is_founding (fun vs H Q E h => ?_) (fun cdv A outer s H vs Q E hg hr h => ?_)
  · obtain ⟨_, _, _, _, rfl, _⟩ := h
    rfl
  obtain ⟨r, a, zs, os, rfl, hS, hA, hne, hl, hcm, k⟩ := h
  refine ⟨_, (pss_one (ps_ret (pe_and (pe_cmpR op_eq (pe_callB call_lenA (by rfl) B.len boot_len (pa_cons (pv 0) pa_nil)) pe_int (nomark _)) (pe_one (pe_cmpR op_eq (pe_ix ix_tup (pe_ix ix_tup (pv 0) pe_int (fun _ _ => rfl)) pe_int (fun _ _ => rfl)) pe_str (nomark _)))))), ?_⟩
  have hzl := hA.length
  obtain ⟨c, cs, rfl⟩ : ∃ c cs, os = c :: cs := by
    cases os with
    | nil => exact absurd rfl hne
    | cons c cs => exact ⟨_, _, rfl⟩
  obtain ⟨w0, ps, rfl, _, _⟩ := clm_tup (hcm c List.mem_cons_self).clm
  refine ⟨_, rfl, _, zs.length, rfl, .inr ⟨_, hS, rfl⟩, rfl, _, rfl, iteEq (fun h1 => ?_) fun h1 => ?_⟩
  · have h1' : cs = [] := by
      have : (cs.length + 1 : Nat) = 1 := by
        rw [← List.length_cons (a := PyData.tuple (.str w0 :: ps)), ← hzl]
        omega
      exact List.eq_nil_of_length_eq_zero (by omega)
    subst h1'
    obtain ⟨y, _, rfl, ee, r1⟩ := hA.one rfl
    cases ee
    obtain ⟨a2, ys, rfl, hS2, hA2⟩ := r1.tupAt
    cases hA2 with
    | @cons y ys' _ _ hy hys =>
    cases hy
    refine ⟨_, rfl, a, _, 0, _, rfl, rfl, hS, atI_nat (j := 0) rfl, a2, _, 0, _, rfl, rfl, hS2, atI_nat (j := 0) rfl, rfl, ?_⟩
    show Q (.bl (decide (V.str w0 = V.str "shares"))) H
    rw [show decide (V.str w0 = V.str "shares") = decide (w0 = "shares") by
      rw [decide_eq_decide]
      exact ⟨V.str.inj, fun z => by rw [z]⟩]
    exact k
  · have e : fndO (.tuple (.str w0 :: ps) :: cs) = false := by
      cases cs with
      | nil => exact absurd (by rw [hzl]; rfl) h1
      | cons _ _ => rfl
    rw [e] at k
    exact k
def spNames (K : PySem.W.Frag) : Sp := fun vs H Q _ => ∃ (a : Addr) (xs : List V) (fs : List PyData), vs = [.ref a] ∧ SqT K H a xs ∧ DtA K mT H xs fs ∧ Wg fs ∧ ∀ p H', Same H H' → H p = none → H' p = some (.lst ((fs.map nmS).map V.str)) → Q (.ref p) H'
abbrev sfirm_names : Stmt := topS 6
theorem sc_firm_names : FnScope ["web", "name", "_"] ["web"] (defScope sfirm_names) := ⟨rfl, rfl, rfl, by decide +kernel, rfl, by decide +kernel, by decide +kernel⟩
theorem ok_firm_names {f : Addr} {fd : FuncData} (F : Fun K "firm_names" "firm_names" sfirm_names f fd) (B : Bt mg) : FnG P w K mg base 1 f fd ["web"] (spNames K) := by
  refine Fun.okG F sc_firm_names (fun vs H Q E h => ?_) (fun cdv A outer s H vs Q E hg hr h => ?_)
  · obtain ⟨_, _, _, rfl, _⟩ := h
    rfl
  obtain ⟨a, xs, fs, rfl, hS, hA, hw, k⟩ := h
  refine ⟨_, (pss_one (ps_ret (pe_lc (own := [("name", 1), ("_", 2)]) rfl sc_firm_names.nd (pi_tup (pv 0)) (blkOk_by (own := [("name", 1), ("_", 2)]) (N := ["web", "name", "_"]) (sc := (defScope sfirm_names)) (by decide +kernel)) (fun _ _ _ _ _ => (pg_tupK (K := K) (hK := rfl) (n := 3) rfl (pgs_cons (pg_name (i := 1) sc_firm_names.nd rfl (Or.inl rfl)) (pgs_cons (pg_name (i := 2) sc_firm_names.nd rfl (Or.inl rfl)) (pgs_cons (pg_name (i := 2) sc_firm_names.nd rfl (Or.inl rfl)) pgs_nil))))) (fun _ _ _ _ _ => pts_nil) (fun _ _ _ _ _ => (pv 1))))), ?_⟩
  have hxl := hA.length
  have hfew := hw.few
  refine ⟨_, rfl, a, rfl, ⟨xs, hS⟩, fun D nD => lc_it (walk_tup (K := K) (xs := xs) (a := a)) (fun i H' => Same H H' ∧ H' D = some (.lst (((fs.take i).map nmS).map V.str))) ?_ (fun i H' _ h => h.1.seqT hS) ?_ ?_⟩
  · exact ⟨same_upd nD, by rw [upd_same]; rfl⟩
  · rintro i x H2 H3 hi ⟨s2, hD⟩ ⟨rfl, hx⟩
    obtain ⟨f1, n, r, a3, zs, hs, hf, fm⟩ := hw.open (hA.fut (.of_same s2)) hx
    obtain ⟨af, rfl, hSf⟩ := fm.val
    refine ⟨af, _, rfl, hSf, rfl, _, _, rfl, _, _, rfl, _, _, rfl, rfl, rfl, _, rfl, _, hD, by rw [List.length_map, List.length_map, List.length_take]; exact small1000 (by omega), fun z o q => ?_, ?_⟩
    · rw [upd_ne (ne_of_none q nD)]
      exact s2 _ _ q
    · rw [upd_same, List.take_add_one, hf, List.map_append, List.map_append, fm.eq]
      rfl
  · rintro H2 ⟨s2, hD⟩
    rw [List.take_of_length_le (by omega)] at hD
    exact k D H2 s2 nD hD
end
end K34
namespace K34
open PySem PySem.Spec PyProof.Rows L2 Sw StX RZ
theorem ty_lst {K : PySem.W.Frag} {H : Hp} {p : Addr} {xs : List V} (h : H p = some (.lst xs)) : tyV K "list" (.ref p) H := Or.inl ⟨rfl, xs, .inl (.inl h)⟩
/-- a holding of h's with a due -/
def hdDue (h : Str) : PyData → Bool
  | .tuple [.str n, .tuple os] => decide (n = h) && os.any dueD
  | _ => false
/-- who owes h, of the firms -/
def owers (fs : List PyData) (h : Str) : List Str := (fs.filter fun f => (hldL f).any (hdDue h)).map nmS
theorem owers_sub {fs : List PyData} {h p : Str} (q : p ∈ owers fs h) : p ∈ fs.map nmS := by
  obtain ⟨f, hf, rfl⟩ := List.mem_map.mp q
  exact List.mem_map_of_mem (List.mem_filter.mp hf).1
theorem owers_len (fs : List PyData) (h : Str) : (owers fs h).length ≤ fs.length := by
  unfold owers
  rw [List.length_map]
  exact List.length_filter_le _ _
/-- the list of each name stands in the dict -/
structure AhB (H0 H : Hp) (d : Addr) (ns : List Str) (kvs : List (Key × V)) (G : Str → List Str) : Prop where
  same : Same H0 H
  dk : H d = some (.dK kvs)
  nd : H0 d = none
  keys : kvs.map (·.1) = ns.map Sum.inr
  val : ∀ h ∈ ns, ∃ a, valV kvs (.inr h) = some (.ref a) ∧ H a = some (.lst ((G h).map V.str)) ∧ H0 a = none ∧ a ≠ d
  inj : ∀ h h' a, valV kvs (.inr h) = some (.ref a) → valV kvs (.inr h') = some (.ref a) → h = h'
theorem val_out {kvs : List (Key × V)} {ns : List Str} {h : Str} (k : kvs.map (·.1) = ns.map Sum.inr) (hn : h ∉ ns) : valV kvs (.inr h) = none := by
  have e := valV_any (.inr h) kvs
  cases q : valV kvs (.inr h) with
  | none => rfl
  | some v =>
    rw [q] at e
    obtain ⟨x, hx, hxe⟩ := List.any_eq_true.mp e
    have hm : (Sum.inr h : Key) ∈ kvs.map (·.1) := by
      rw [← of_decide_eq_true hxe]
      exact List.mem_map_of_mem hx
    rw [k] at hm
    obtain ⟨y, hy, e2⟩ := List.mem_map.mp hm
    cases e2
    exact absurd hy hn
theorem val_in {kvs : List (Key × V)} {ns : List Str} {h : Str} (k : kvs.map (·.1) = ns.map Sum.inr) : (valV kvs (.inr h)).isSome = decide (h ∈ ns) := by
  by_cases q : h ∈ ns
  · rw [decide_eq_true q, ← valV_any]
    have hm : (Sum.inr h : Key) ∈ kvs.map (·.1) := by
      rw [k]
      exact List.mem_map_of_mem q
    obtain ⟨x, hx, e⟩ := List.mem_map.mp hm
    exact List.any_eq_true.mpr ⟨x, hx, decide_eq_true e⟩
  · rw [val_out k q, decide_eq_false q]
    rfl
theorem AhB.fut {H0 H H' : Hp} {d : Addr} {ns : List Str} {kvs : List (Key × V)} {G : Str → List Str} (b : AhB H0 H d ns kvs G) (s : Same H H') : AhB H0 H' d ns kvs G :=
  ⟨b.same.trans s, s _ _ b.dk, b.nd, b.keys, fun h hh => let ⟨a, h1, h2, h3⟩ := b.val h hh; ⟨a, h1, s _ _ h2, h3⟩, b.inj⟩
theorem AhB.congr {H0 H : Hp} {d : Addr} {ns : List Str} {kvs : List (Key × V)} {G G' : Str → List Str} (b : AhB H0 H d ns kvs G) (e : ∀ h ∈ ns, G h = G' h) : AhB H0 H d ns kvs G' :=
  ⟨b.same, b.dk, b.nd, b.keys, fun h hh => by rw [← e h hh]; exact b.val h hh, b.inj⟩
theorem AhB.add {H0 H : Hp} {d a : Addr} {ns : List Str} {kvs : List (Key × V)} {n : Str} (b : AhB H0 H d ns kvs fun _ => []) (hn : n ∉ ns) (ha : H a = none) :
    AhB H0 (upd (upd H a (.lst [])) d (.dK (putK kvs (.inr n) (.ref a)))) d (ns ++ [n]) (putK kvs (.inr n) (.ref a)) fun _ => [] := by
  have ad : a ≠ d := fun z => by rw [z, b.dk] at ha; cases ha
  have a0 : H0 a = none := by
    cases q : H0 a with
    | none => rfl
    | some o => rw [b.same _ _ q] at ha; cases ha
  have hv := val_out b.keys hn
  rw [putK_new _ hv]
  refine ⟨fun z o q => ?_, upd_same, b.nd, by rw [List.map_append, List.map_append, b.keys]; rfl, fun h hh => ?_, fun h h' z => ?_⟩
  · rw [upd_ne (fun e => by rw [e, b.nd] at q; cases q), upd_ne (fun e => by rw [e, a0] at q; cases q)]
    exact b.same _ _ q
  · rw [valV_snoc _ _ _ _ hv]
    by_cases e : h = n
    · subst e
      exact ⟨a, if_pos rfl, by rw [upd_ne ad, upd_same]; rfl, a0, ad⟩
    · rcases List.mem_append.mp hh with q | q
      · obtain ⟨z, h1, h2, h3, h4⟩ := b.val h q
        refine ⟨z, by rw [if_neg (fun t => e (Sum.inr.inj t))]; exact h1, ?_, h3, h4⟩
        rw [upd_ne h4, upd_ne (fun t => by rw [t, ha] at h2; cases h2)]
        exact h2
      · exact absurd (List.mem_singleton.mp q) e
  · rw [valV_snoc _ _ _ _ hv, valV_snoc _ _ _ _ hv]
    have old : ∀ h z, valV kvs (.inr h) = some (.ref z) → z ≠ a := fun h z q t => by
      by_cases m : h ∈ ns
      · obtain ⟨y, h1, h2, _, _⟩ := b.val h m
        rw [q] at h1
        cases h1
        rw [t, ha] at h2
        cases h2
      · rw [val_out b.keys m] at q
        cases q
    by_cases e : h = n <;> by_cases e' : h' = n
    · intro _ _
      rw [e, e']
    · rw [if_pos (by rw [e]), if_neg (fun t => e' (Sum.inr.inj t))]
      intro p q
      cases p
      exact absurd rfl (old _ _ q)
    · rw [if_neg (fun t => e (Sum.inr.inj t)), if_pos (by rw [e'])]
      intro p q
      cases q
      exact absurd rfl (old _ _ p)
    · rw [if_neg (fun t => e (Sum.inr.inj t)), if_neg (fun t => e' (Sum.inr.inj t))]
      exact b.inj h h' z
theorem AhB.app {H0 H : Hp} {d a : Addr} {ns : List Str} {kvs : List (Key × V)} {G : Str → List Str} {h n : Str} (b : AhB H0 H d ns kvs G) (hh : h ∈ ns) (hv : valV kvs (.inr h) = some (.ref a)) :
    AhB H0 (upd H a (.lst ((G h ++ [n]).map V.str))) d ns kvs fun x => if x = h then G h ++ [n] else G x := by
  obtain ⟨a', h1, h2, h3, h4⟩ := b.val h hh
  rw [hv] at h1
  cases h1
  refine ⟨fun z o q => ?_, by rw [upd_ne h4.symm]; exact b.dk, b.nd, b.keys, fun x hx => ?_, b.inj⟩
  · rw [upd_ne (fun e => by rw [e, h3] at q; cases q)]
    exact b.same _ _ q
  · obtain ⟨z, q1, q2, q3, q4⟩ := b.val x hx
    by_cases e : x = h
    · subst e
      rw [hv] at q1
      cases q1
      exact ⟨a, hv, by rw [upd_same, if_pos rfl], q3, q4⟩
    · refine ⟨z, q1, ?_, q3, q4⟩
      rw [if_neg e, upd_ne (fun t => e (b.inj _ _ _ q1 (by rw [t]; exact hv)))]
      exact q2
/-- the dict of those ahead, made -/
structure AhA (H : Hp) (d : Addr) (ns : List Str) (G : Str → List Str) (kvs : List (Key × V)) : Prop where
  dk : H d = some (.dK kvs)
  keys : kvs.map (·.1) = ns.map Sum.inr
  val : ∀ h ∈ ns, ∃ a, valV kvs (.inr h) = some (.ref a) ∧ H a = some (.lst ((G h).map V.str))
theorem AhA.fut {H H' : Hp} {d : Addr} {ns : List Str} {kvs : List (Key × V)} {G : Str → List Str} (b : AhA H d ns G kvs) (s : Same H H') : AhA H' d ns G kvs :=
  ⟨s _ _ b.dk, b.keys, fun h hh => let ⟨a, h1, h2⟩ := b.val h hh; ⟨a, h1, s _ _ h2⟩⟩
/-- while a firm's holdings are read -/
def gF (fs : List PyData) (i : Nat) (hs : List PyData) (n : Str) (j : Nat) (h : Str) : List Str := owers (fs.take i) h ++ if (hs.take j).any (hdDue h) then [n] else []
theorem gF_0 {fs : List PyData} {i : Nat} {hs : List PyData} {n : Str} (h : Str) : gF fs i hs n 0 h = owers (fs.take i) h := by
  unfold gF
  rw [List.take_zero, List.any_nil, if_neg Bool.false_ne_true, List.append_nil]
theorem gF_end {fs : List PyData} {i : Nat} {f : PyData} (hf : fs[i]? = some f) (h : Str) : gF fs i (hldL f) (nmS f) (hldL f).length h = owers (fs.take (i + 1)) h := by
  unfold gF owers
  rw [List.take_length, List.take_add_one, hf]
  simp only [Option.toList_some, List.filter_append, List.map_append, List.filter_cons, List.filter_nil]
  split <;> simp_all
theorem owers_self {fs : List PyData} (nd : (fs.map nmS).Nodup) {i : Nat} {f : PyData} (hf : fs[i]? = some f) (h : Str) : nmS f ∉ owers (fs.take i) h := fun q => by
  have q2 := owers_sub q
  have hl := (List.getElem?_eq_some_iff.mp hf).1
  rw [← List.take_append_drop i fs, List.map_append, List.nodup_append] at nd
  refine nd.2.2 _ q2 _ ?_ rfl
  refine List.mem_map_of_mem ?_
  rw [List.drop_eq_getElem_cons hl]
  rw [List.getElem?_eq_getElem hl] at hf
  cases hf
  exact List.mem_cons_self
theorem asc_nodup {ns : List Str} (h : ascS ns = true) : ns.Nodup := ((asc_pair ns).mp h).imp fun q => q.2
section
variable {P : Program} {w : World} {K : PySem.W.Frag} {mg : Str → Option Value} {base : Heap}
def spAhead (K : PySem.W.Frag) : Sp := fun vs H Q _ => ∃ (a : Addr) (xs : List V) (fs : List PyData), vs = [.ref a] ∧ SqT K H a xs ∧ DtA K mT H xs fs ∧ Wg fs ∧ ∀ d H' kvs, Same H H' → H d = none → AhA H' d (fs.map nmS) (owers fs) kvs → Q (.ref d) H'
abbrev sdues_ahead : Stmt := topS 11
theorem sc_dues_ahead : FnScope ["web", "ahead", "name", "_", "holdings", "holder", "options", "option"] ["web"] (defScope sdues_ahead) := ⟨rfl, rfl, rfl, by decide +kernel, rfl, by decide +kernel, by decide +kernel⟩
theorem ok_dues_ahead {f : Addr} {fd : FuncData} (F : Fun K "dues_ahead" "dues_ahead" sdues_ahead f fd) (B : Bt mg) (TY : mg "any" = none) (c_firm_names : CalG P w K mg base 1 "firm_names" (spNames K)) (c_has_due : CalG P w K mg base 3 "has_due" (spCm K dueD)) : FnG P w K mg base 4 f fd ["web"] (spAhead K) := by
  refine Fun.okG F sc_dues_ahead (fun vs H Q E h => ?_) (fun cdv A outer s H vs Q E hg hr h => ?_)
  · obtain ⟨_, _, _, rfl, _⟩ := h
    rfl
  obtain ⟨a, xs, fs, rfl, hS, hA, hw, k⟩ := h
  have hu1 : (A.deeper (envOfC "dues_ahead" (defScope sdues_ahead) s.heap.objs.size f cdv)).units + 1 < cLine := by
    have := Room.u64 hr
    omega
  refine ⟨_, (pss_cons (ps_setDc (i := 1) (own := [("name", 2)]) rfl sc_dues_ahead.nd rfl rfl (sw_dict rfl rfl rfl (by decide +kernel)) (pi_list (pc c_firm_names hg hr (by omega) (by rfl) (pa_cons (pv 0) pa_nil))) (blkOk_by (own := [("name", 2)]) (N := ["web", "ahead", "name", "_", "holdings", "holder", "options", "option"]) (sc := (defScope sdues_ahead)) (by decide +kernel)) (fun _ _ _ _ _ => (pg_name (i := 2) sc_dues_ahead.nd rfl (Or.inl rfl))) (fun _ _ _ _ _ => pts_nil) (fun _ _ _ _ _ => (pv 2)) (fun _ _ _ _ _ => (pe_lst pa_nil)))
    (pss_cons (ps_for PassesOwn.never rfl (pi_tup (pv 0)) (pg_tup (n := 3) rfl (pgs_cons (pg_name (i := 2) sc_dues_ahead.nd rfl (Or.inl rfl)) (pgs_cons (pg_name (i := 3) sc_dues_ahead.nd rfl (Or.inl rfl)) (pgs_cons (pg_name (i := 4) sc_dues_ahead.nd rfl (Or.inl rfl)) pgs_nil))))
      (pss_one (ps_for PassesOwn.never rfl (pi_tup (pv 4)) (pg_tup (n := 2) rfl (pgs_cons (pg_name (i := 5) sc_dues_ahead.nd rfl (Or.inl rfl)) (pgs_cons (pg_name (i := 6) sc_dues_ahead.nd rfl (Or.inl rfl)) pgs_nil)))
        (pss_one (ps_if (PW.pt (pw_and (pt_cmp (pc_din hu1 (pv 5) (pv 1))) (pw_and (pt_cmpR (op_niT (K := K) rfl) (pv 2) (pe_dget hu1 (pv 1) (pv 5) (fun _ _ => rfl)) (by rfl)) (pw_and1 (pt_val (pe_callB (cr_any rfl) (by rfl) TY bb_any (pa_cons (pe_lc (own := [("option", 7)]) rfl sc_dues_ahead.nd (pi_tup (pv 6)) (blkOk_by (own := [("option", 7)]) (N := ["web", "ahead", "name", "_", "holdings", "holder", "options", "option"]) (sc := (defScope sdues_ahead)) (by decide +kernel)) (fun _ _ _ _ _ => (pg_name (i := 7) sc_dues_ahead.nd rfl (Or.inl rfl))) (fun _ _ _ _ _ => pts_nil) (fun _ _ _ _ _ => (pc c_has_due hg hr (by omega) (by rfl) (pa_cons (pv 7) pa_nil)))) pa_nil)))))))
          (pss_one (ps_expr (pe_bm PySem.F.plainAttrs_list PySem.F.slot_list_append PySem.F.type_list_append mt_append (pe_dget hu1 (pv 1) (pv 5) (fun _ _ => rfl)) (pa_cons (pv 2) pa_nil))))
          pss_nil)))))
    (pss_one (ps_ret (pv 1))))), ?_⟩
  have hxl := hA.length
  have hfew := hw.few
  refine ⟨_, rfl, a, xs, fs, rfl, hS, hA, hw, fun p H1 s1 np hp => ⟨p, rfl, ⟨_, .inl (.inl hp)⟩, fun D nD => ?_⟩⟩
  have nsd := asc_nodup hw.asc
  have hnl : ((fs.map nmS).map V.str).length = fs.length := by rw [List.length_map, List.length_map]
  refine oc_it (walk_list (K := K) (a := p) (xs := (fs.map nmS).map V.str)) (fun i H' => ∃ kvs, AhB H1 H' D ((fs.map nmS).take i) kvs (fun _ => []) ∧ kvs.length ≤ i) ?_ ?_ ?_ ?_
  · exact ⟨[], ⟨same_upd nD, upd_same, nD, rfl, fun h q => absurd q List.not_mem_nil, fun h h' a q => by cases q⟩, Nat.le_refl _⟩
  · rintro i H' _ ⟨kvs, b, _⟩
    exact .inl (.inl (b.same _ _ hp))
  · rintro i x H2 H3 hi ⟨kvs, b, bl⟩ ⟨rfl, hx⟩
    obtain ⟨n, hn, rfl⟩ : ∃ n, (fs.map nmS)[i]? = some n ∧ x = .str n := by
      rw [List.getElem?_map] at hx
      cases q : (fs.map nmS)[i]? with
      | none => rw [q] at hx; cases hx
      | some n =>
        rw [q] at hx
        cases hx
        exact ⟨n, rfl, rfl⟩
    have ht : (fs.map nmS).take (i + 1) = (fs.map nmS).take i ++ [n] := by
      rw [List.take_add_one, hn]
      rfl
    have nin : n ∉ (fs.map nmS).take i := fun q => by
      have hd := nsd
      rw [← List.take_append_drop i (fs.map nmS), List.nodup_append] at hd
      refine hd.2.2 _ q _ ?_ rfl
      obtain ⟨hl, e⟩ := List.getElem?_eq_some_iff.mp hn
      rw [List.drop_eq_getElem_cons hl, e]
      exact List.mem_cons_self
    refine ⟨rfl, _, rfl, Nat.zero_le _, fun a' na => ⟨kvs, .inr n, rfl, ?_, small1000 (by rw [hnl] at hi; omega), ?_⟩⟩
    · rw [upd_ne (fun z => by rw [z] at b; rw [b.dk] at na; cases na)]
      exact b.dk
    · rw [ht]
      exact ⟨_, b.add nin na, Nat.le_trans (length_putK _ _ _) (Nat.succ_le_succ bl)⟩
  rintro H2 ⟨kvs, b, bl⟩
  rw [hnl, ← List.length_map (f := nmS), List.take_length] at b
  have D0 : H D = none := by
    cases q : H D with
    | none => rfl
    | some o => rw [s1 _ _ q] at nD; cases nD
  have b0 : AhB H1 H2 D (fs.map nmS) kvs (owers (fs.take 0)) := b
  refine ⟨_, rfl, a, rfl, ⟨xs, (s1.trans b.same).seqT hS⟩, for_it (walk_tup (K := K) (xs := xs) (a := a)) (fun i σ H' => ∃ (o2 o3 o4 o5 o6 : Option V), σ = [some (.ref a), some (.ref D), o2, o3, o4, o5, o6, none] ∧ AhB H1 H' D (fs.map nmS) kvs (owers (fs.take i))) ⟨_, _, _, _, _, rfl, b0⟩ (fun i σ H' _ h => ?_) (fun i x σ H3 H4 hi h y => ?_) fun σ H3 h => ?_⟩
  · obtain ⟨_, _, _, _, _, _, h⟩ := h
    exact (s1.trans h.same).seqT hS
  · obtain ⟨o2, o3, o4, o5, o6, rfl, b1⟩ := h
    obtain ⟨rfl, hx⟩ := y
    obtain ⟨f1, n, r, a3, zs, hs, hf, fm⟩ := hw.open (hA.fut (.of_same s1)) hx
    obtain ⟨af, rfl, hSf⟩ := fm.val
    have hzl := fm.hdt.length
    have efh : hldL f1 = hs := by rw [fm.eq]; rfl
    have efn : nmS f1 = n := by rw [fm.eq]; rfl
    have b2 : AhB H1 H4 D (fs.map nmS) kvs (gF fs i hs n 0) := b1.congr fun h _ => (gF_0 h).symm
    refine ⟨af, _, rfl, b1.same.seqT hSf, rfl, _, _, rfl, _, _, rfl, _, _, rfl, rfl, _, rfl, a3, rfl, ⟨zs, b1.same.seqT fm.hsq⟩, for_it (walk_tup (K := K) (xs := zs) (a := a3)) (fun j σ H' => ∃ (o5 o6 : Option V), σ = [some (.ref a), some (.ref D), some (.str n), some (.int r), some (.ref a3), o5, o6, none] ∧ AhB H1 H' D (fs.map nmS) kvs (gF fs i hs n j)) ⟨_, _, rfl, b2⟩ (fun j σ H' _ h => ?_) (fun j x σ H5 H6 hj h y => ?_) fun σ H5 h => ?_⟩
    · obtain ⟨_, _, _, h⟩ := h
      exact h.same.seqT fm.hsq
    · obtain ⟨o5, o6, rfl, b3⟩ := h
      obtain ⟨rfl, hx2⟩ := y
      obtain ⟨e, m, ao, ys, os, he, hv, hmn⟩ := fm.hold hx2
      obtain ⟨ah, rfl, hSh⟩ := hv.val
      have ht : hs.take (j + 1) = hs.take j ++ [e] := by
        rw [List.take_add_one, he]
        rfl
      have hdd : ∀ h, hdDue h e = (decide (m = h) && os.any dueD) := fun h => by rw [hv.eq]; rfl
      refine ⟨ah, _, rfl, b3.same.seqT hSh, rfl, _, _, rfl, _, _, rfl, rfl, _, rfl, _, rfl, D, _, rfl, DGet.k (k := .inr m) b3.dk, _, rfl, iteB (fun hm => ?_) fun hm => ?_⟩
      · have hm2 : m ∈ fs.map nmS := by
          rw [val_in b3.keys] at hm
          exact of_decide_eq_true hm
        obtain ⟨la, hv1, hv2, hv3, hv4⟩ := b3.val m hm2
        refine ⟨_, rfl, _, rfl, _, rfl, D, _, rfl, by rw [← hv1]; exact DGet.k (k := .inr m) b3.dk, n, la, gF fs i hs n j m, rfl, rfl, .inl (.inl (.inl hv2)), ?_⟩
        have skip : (m ∈ fs.map nmS → gF fs i hs n j m = gF fs i hs n (j + 1) m) → AhB H1 H6 D (fs.map nmS) kvs (gF fs i hs n (j + 1)) := fun q => b3.congr fun h hh => by
          by_cases e2 : m = h
          · rw [← e2]
            exact q (by rw [e2]; exact hh)
          · unfold gF
            rw [ht, List.any_append, List.any_cons, hdd, decide_eq_false e2]
            simp
        refine ⟨_, rfl, iteB (fun hni => ?_) fun hni => ?_⟩
        · have hni2 : n ∉ gF fs i hs n j m := by
            simpa using hni
          have hzo := hv.odt.length
          refine ⟨_, rfl, ao, rfl, ⟨ys, b3.same.seqT hv.osq⟩, fun Dl nDl => lc_it (walk_tup (K := K) (xs := ys) (a := ao)) (fun i' H' => Same H6 H' ∧ H' Dl = some (.lst (((os.take i').map dueD).map V.bl))) ⟨same_upd nDl, by rw [upd_same]; rfl⟩ (fun i' H' _ h => (b3.same.trans h.1).seqT hv.osq) ?_ ?_⟩
          · rintro i' x H7 H8 hi' ⟨s7, hD7⟩ ⟨rfl, hx'⟩
            obtain ⟨o, ho, hxo⟩ := hv.odt.get hx'
            refine ⟨rfl, _, rfl, r, x, o, rfl, hxo.fut (.of_same (b3.same.trans s7)), hv.cm o (List.mem_of_getElem? ho), fun H9 s9 => ⟨_, s9 _ _ hD7, ?_, fun z o q => ?_, ?_⟩⟩
            · have := hv.few
              have sl := sizeLine_eq
              rw [List.length_map, List.length_map, List.length_take]
              omega
            · rw [upd_ne (ne_of_none q nDl)]
              exact s9 _ _ (s7 _ _ q)
            · rw [upd_same, List.take_add_one, ho, List.map_append, List.map_append]
              rfl
          · rintro H7 ⟨s7, hD7⟩
            rw [List.take_of_length_le (by omega)] at hD7
            have eany : (os.map dueD).any id = os.any dueD := by rw [List.any_map]; rfl
            refine ⟨Dl, os.map dueD, rfl, .inl (.inl hD7), _, rfl, iteB (fun hdu => ?_) fun hdu => ?_⟩
            · rw [eany] at hdu
              have b7 := b3.fut s7
              have hv7 := s7 _ _ hv2
              refine ⟨_, rfl, _, rfl, D, _, rfl, by rw [← hv1]; exact DGet.k (k := .inr m) b7.dk, ty_lst hv7, _, rfl, la, _, _, rfl, rfl, hv7, ?_, ?_⟩
              · have q1 := owers_len (fs.take i) m
                rw [List.length_take] at q1
                refine small1000 ?_
                rw [List.length_map]
                unfold gF
                rw [List.length_append]
                split <;> simp only [List.length_cons, List.length_nil] <;> omega
              · have b8 := b7.app (n := n) hm2 hv1
                rw [List.map_append] at b8
                refine ⟨_, _, rfl, b8.congr fun h hh => ?_⟩
                unfold gF at hni2 ⊢
                rw [ht, List.any_append, List.any_cons, hdd, hdu]
                by_cases e2 : h = m
                · subst e2
                  rw [if_pos rfl, decide_eq_true rfl]
                  cases q : (hs.take j).any (hdDue h) with
                  | true =>
                    rw [q] at hni2
                    simp at hni2
                  | false => simp
                · rw [if_neg e2, decide_eq_false (fun z => e2 z.symm)]
                  simp
            · rw [eany] at hdu
              refine ⟨_, _, rfl, (skip fun _ => ?_).fut s7⟩
              unfold gF
              rw [ht, List.any_append, List.any_cons, hdd, hdu]
              simp
        · have hni2 : n ∈ gF fs i hs n j m := by
            simpa using hni
          refine ⟨_, _, rfl, skip fun _ => ?_⟩
          unfold gF at hni2 ⊢
          have q0 : n ∉ owers (fs.take i) m := by
            rw [← efn]
            exact owers_self nsd hf m
          rcases List.mem_append.mp hni2 with q | q
          · exact absurd q q0
          · have q1 : (hs.take j).any (hdDue m) = true := by
              cases z : (hs.take j).any (hdDue m) with
              | true => rfl
              | false => rw [z] at q; cases q
            rw [ht, List.any_append, q1]
            simp
      · have hm2 : m ∉ fs.map nmS := by
          rw [val_in b3.keys] at hm
          exact of_decide_eq_false hm
        refine ⟨_, _, rfl, b3.congr fun h hh => ?_⟩
        have e2 : m ≠ h := fun z => hm2 (z ▸ hh)
        unfold gF
        rw [ht, List.any_append, List.any_cons, hdd, decide_eq_false e2]
        simp
    · obtain ⟨o5, o6, rfl, b3⟩ := h
      refine ⟨_, _, _, _, _, rfl, b3.congr fun h _ => ?_⟩
      rw [hzl, ← efh, ← efn]
      exact gF_end hf h
  · obtain ⟨o2, o3, o4, o5, o6, rfl, b1⟩ := h
    rw [List.take_of_length_le (by omega)] at b1
    exact ⟨_, rfl, k D H3 kvs (s1.trans b1.same) D0 ⟨b1.dk, b1.keys, fun h hh => let ⟨z, q1, q2, _, _⟩ := b1.val h hh; ⟨z, q1, q2⟩⟩⟩
end
end K34
namespace K34
open PySem PySem.Spec PyProof.Rows L2 Sw StX RZ
theorem same_none {H H' : Hp} (s : Same H H') {l : Addr} (h : H' l = none) : H l = none := by
  cases q : H l with
  | none => rfl
  | some o => rw [s _ _ q] at h; cases h
theorem str_at {ns : List Str} {i : Nat} {x : V} (h : (ns.map V.str)[i]? = some x) : ∃ n, ns[i]? = some n ∧ x = .str n := by
  rw [List.getElem?_map] at h
  cases q : ns[i]? with
  | none => rw [q] at h; cases h
  | some n => rw [q] at h; cases h; exact ⟨n, rfl, rfl⟩
def hnS : PyData → Str
  | .tuple (.str n :: _) => n
  | _ => ""
/-- the holders of firms -/
def holdersL (fs : List PyData) : List Str := fs.flatMap fun f => (hldL f).map hnS
theorem holders_len (fs : List PyData) : (holdersL fs).length = (fs.flatMap hldL).length := by
  unfold holdersL
  induction fs with
  | nil => rfl
  | cons f r ih => rw [List.flatMap_cons, List.flatMap_cons, List.length_append, List.length_append, ih, List.length_map]
theorem flat_take {α β : Type} {g : α → List β} {l : List α} {i : Nat} {x : α} (h : l[i]? = some x) : (l.take (i + 1)).flatMap g = (l.take i).flatMap g ++ g x := by
  rw [List.take_add_one, h, List.flatMap_append]
  simp
theorem flat_part {α β : Type} {g : α → List β} {l : List α} {i : Nat} {x : α} (h : l[i]? = some x) : ((l.take i).flatMap g).length + (g x).length ≤ (l.flatMap g).length := by
  rw [← List.length_append, ← flat_take h]
  conv => rhs; rw [← List.take_append_drop (i + 1) l, List.flatMap_append]
  rw [List.length_append]
  exact Nat.le_add_right _ _
/-- a firm's founder stands -/
def fndF (ns : List Str) (f : PyData) : Bool := (hldL f).any fun h => fndO (optL h) && !decide (hnS h ∈ ns)
/-- the first firm without a founder -/
def unfF (fs : List PyData) : Option Str := (fs.find? fun f => !fndF (fs.map nmS) f).map nmS
def optV : Option Str → V
  | none => .non
  | some n => .str n
/-- who of a list is no firm, each once, in order -/
structure PersL (fs : List PyData) (ys : List Str) : Prop where
  srt : sortedS ys = true
  nd : ys.Nodup
  mem : ∀ z, z ∈ ys ↔ z ∈ holdersL fs ∧ z ∉ fs.map nmS
  few : ys.length ≤ 4000
theorem sorted_eq {xs ys : List Str} (hx : sortedS xs = true) (hy : sortedS ys = true) (nx : xs.Nodup) (ny : ys.Nodup) (h : ∀ z, z ∈ xs ↔ z ∈ ys) : xs = ys := by
  have p : xs.Perm ys := by
    rcases Nat.le_total ys.length xs.length with q | q
    · exact perm_few xs ys nx (fun z hz => (h z).mp hz) q
    · exact (perm_few ys xs ny (fun z hz => (h z).mpr hz) q).symm
  have ax := str_nodup p ny hx
  have ay := str_nodup (List.Perm.refl ys) ny hy
  exact (names_asc ny (fun z => (h z).symm) (List.Perm.refl ys) hy).mpr ax
section
variable {P : Program} {w : World} {K : PySem.W.Frag} {mg : Str → Option Value} {base : Heap}
def spWg (K : PySem.W.Frag) (r : List PyData → V) : Sp := fun vs H Q _ => ∃ (a : Addr) (xs : List V) (fs : List PyData), vs = [.ref a] ∧ SqT K H a xs ∧ DtA K mT H xs fs ∧ Wg fs ∧ ∀ H', Same H H' → Q (r fs) H'
def spPers (K : PySem.W.Frag) : Sp := fun vs H Q _ => ∃ (a : Addr) (xs : List V) (fs : List PyData), vs = [.ref a] ∧ SqT K H a xs ∧ DtA K mT H xs fs ∧ Wg fs ∧ ∀ p H' ys, Same H H' → H p = none → PersL fs ys → H' p = some (.tup (ys.map V.str)) → Q (.ref p) H'
abbrev spersons_of : Stmt := topS 7
theorem sc_persons_of : FnScope ["web", "firms", "holders", "_", "holdings", "holder"] ["web"] (defScope spersons_of) := ⟨rfl, rfl, rfl, by decide +kernel, rfl, by decide +kernel, by decide +kernel⟩
theorem ok_persons_of {f : Addr} {fd : FuncData} (F : Fun K "persons_of" "persons_of" spersons_of f fd) (B : Bt mg) (TSO : mg "sorted" = none) (TST : mg "set" = none) (c_firm_names : CalG P w K mg base 1 "firm_names" (spNames K)) : FnG P w K mg base 2 f fd ["web"] (spPers K) := by
  refine Fun.okG F sc_persons_of (fun vs H Q E h => ?_) (fun cdv A outer s H vs Q E hg hr h => ?_)
  · obtain ⟨_, _, _, rfl, _⟩ := h
    rfl
  obtain ⟨a, xs, fs, rfl, hS, hA, hw, k⟩ := h
  refine ⟨_, (pss_cons (ps_set (i := 1) sc_persons_of.nd rfl (Or.inr rfl) (pc c_firm_names hg hr (by omega) (by rfl) (pa_cons (pv 0) pa_nil)))
    (pss_cons (ps_setLc2 (i := 2) (vs1 := [5, 3]) (own := [("_", 3), ("holdings", 4), ("holder", 5)]) rfl sc_persons_of.nd rfl rfl (sw_true rfl rfl rfl (by decide +kernel)) (pi_tup (pv 0)) (blkOk_by (own := [("_", 3), ("holdings", 4), ("holder", 5)]) (N := ["web", "firms", "holders", "_", "holdings", "holder"]) (sc := (defScope spersons_of)) (by decide +kernel)) (by decide) (fun _ _ _ _ _ => (pg_tupK (K := K) (hK := rfl) (n := 3) rfl (pgs_cons (pg_name (i := 3) sc_persons_of.nd rfl (Or.inl rfl)) (pgs_cons (pg_name (i := 3) sc_persons_of.nd rfl (Or.inl rfl)) (pgs_cons (pg_name (i := 4) sc_persons_of.nd rfl (Or.inl rfl)) pgs_nil))))) (fun _ _ _ _ _ => pts_nil) (fun _ _ _ _ _ => (pi_tupK (K := K) rfl (pv 4))) (fun _ _ _ _ _ => (pg_tupK (K := K) (hK := rfl) (n := 2) rfl (pgs_cons (pg_name (i := 5) sc_persons_of.nd rfl (Or.inl rfl)) (pgs_cons (pg_name (i := 3) sc_persons_of.nd rfl (Or.inl rfl)) pgs_nil)))) (fun _ _ _ _ _ => pts_nil) (fun _ _ _ _ _ => (pv 5)))
    (pss_one (ps_ret (pe_callTy call_tuple_of (by rfl) B.tuple bb_tuple (pa_cons (pe_callB (cr_sortY rfl) (by rfl) TSO bb_sorted (pa_cons (pe_callTy (cr_setY rfl) (by rfl) TST bb_set (pa_cons (pe_lc (own := [("holder", 5)]) rfl sc_persons_of.nd (pi_list (pv 2)) (blkOk_by (own := [("holder", 5)]) (N := ["web", "firms", "holders", "_", "holdings", "holder"]) (sc := (defScope spersons_of)) (by decide +kernel)) (fun _ _ _ _ _ => (pg_name (i := 5) sc_persons_of.nd rfl (Or.inl rfl))) (fun _ _ _ _ _ => (pts_one (pt_cmpR (op_niT (K := K) rfl) (pv 5) (pv 1) (by rfl)))) (fun _ _ _ _ _ => (pv 5))) pa_nil)) pa_nil)) pa_nil)))))), ?_⟩
  have hxl := hA.length
  have hfew := hw.few
  have hlean := hw.lean
  have sl := sizeLine_eq
  refine ⟨_, rfl, a, xs, fs, rfl, hS, hA, hw, fun p H1 s1 np hp => ⟨_, rfl, a, rfl, ⟨xs, s1.seqT hS⟩, fun D nD => oc_it (walk_tup (K := K) (xs := xs) (a := a)) (fun i H' => Same H1 H' ∧ H' D = some (.lst ((holdersL (fs.take i)).map V.str))) ⟨same_upd nD, by rw [upd_same]; rfl⟩ (fun i H' _ h => (s1.trans h.1).seqT hS) ?_ ?_⟩⟩
  · rintro i x H2 H3 hi ⟨s2, hD⟩ ⟨rfl, hx⟩
    obtain ⟨f1, n, r, a3, zs, hs, hf, fm⟩ := hw.open (hA.fut (.of_same s1)) hx
    obtain ⟨af, rfl, hSf⟩ := fm.val
    have hzl := fm.hdt.length
    have efh : hldL f1 = hs := by rw [fm.eq]; rfl
    have hpart := flat_part (g := hldL) hf
    have hl0 := holders_len (fs.take i)
    rw [efh] at hpart
    refine ⟨af, _, rfl, s2.seqT hSf, rfl, _, _, rfl, _, _, rfl, _, _, rfl, rfl, rfl, _, rfl, a3, rfl, ⟨zs, s2.seqT fm.hsq⟩, oc_it (walk_tup (K := K) (xs := zs) (a := a3)) (fun j H' => Same H1 H' ∧ H' D = some (.lst ((holdersL (fs.take i) ++ (hs.take j).map hnS).map V.str))) ⟨s2, by rw [hD]; simp⟩ (fun j H' _ h => h.1.seqT fm.hsq) ?_ ?_⟩
    · rintro j x H4 H5 hj ⟨s4, hD4⟩ ⟨rfl, hx2⟩
      obtain ⟨e, m, ao, ys, os, he, hv, hmn⟩ := fm.hold hx2
      obtain ⟨ah, rfl, hSh⟩ := hv.val
      refine ⟨ah, _, rfl, s4.seqT hSh, rfl, _, _, rfl, _, _, rfl, rfl, rfl, _, rfl, _, hD4, ?_, fun z o q => ?_, ?_⟩
      · rw [List.length_map, List.length_append, hl0, List.length_map, List.length_take]
        omega
      · rw [upd_ne (ne_of_none q nD)]
        exact s4 _ _ q
      · have et : (hs.take (j + 1)).map hnS = (hs.take j).map hnS ++ [m] := by
          rw [List.take_add_one, he, List.map_append, hv.eq]
          rfl
        rw [upd_same, et, List.map_append, List.map_append, List.map_append, List.append_assoc]
        rfl
    · rintro H4 ⟨s4, hD4⟩
      refine ⟨s4, ?_⟩
      rw [hD4, hzl, List.take_length]
      unfold holdersL
      rw [flat_take hf, efh]
  rintro H2 ⟨s2, hD⟩
  rw [List.take_of_length_le (by omega)] at hD
  have hl1 := holders_len fs
  refine ⟨_, rfl, D, rfl, ⟨_, .inl (.inl hD)⟩, fun D2 nD2 => lc_it (walk_list (K := K) (a := D) (xs := (holdersL fs).map V.str)) (fun i H' => Same H2 H' ∧ H' D2 = some (.lst ((((holdersL fs).take i).filter fun z => !decide (z ∈ fs.map nmS)).map V.str))) ⟨same_upd nD2, by rw [upd_same]; rfl⟩ (fun i H' _ h => .inl (.inl (h.1 _ _ hD))) ?_ ?_⟩
  · rintro i x H3 H4 hi ⟨s3, hD3⟩ ⟨rfl, hx⟩
    obtain ⟨z, hz, rfl⟩ := str_at hx
    have hp3 := s3 _ _ (s2 _ _ hp)
    refine ⟨rfl, _, rfl, _, rfl, z, p, fs.map nmS, rfl, rfl, .inl (.inl (.inl hp3)), _, rfl, iteB (fun hin => ?_) fun hin => ?_⟩
    · have hni : z ∉ fs.map nmS := by simpa using hin
      refine ⟨_, rfl, _, hD3, ?_, fun y o q => ?_, ?_⟩
      · rw [List.length_map]
        refine Nat.lt_of_le_of_lt (List.length_filter_le _ _) ?_
        rw [List.length_take]
        omega
      · rw [upd_ne (ne_of_none q nD2)]
        exact s3 _ _ q
      · rw [upd_same, List.take_add_one, hz, List.filter_append, List.map_append]
        simp only [Option.toList_some, List.filter_cons, decide_eq_false hni, Bool.not_false, if_true, List.filter_nil]
        rfl
    · have hni : z ∈ fs.map nmS := by simpa using hin
      refine ⟨s3, ?_⟩
      rw [hD3, List.take_add_one, hz, List.filter_append]
      simp only [Option.toList_some, List.filter_cons, decide_eq_true hni, Bool.not_true, List.filter_nil]
      simp
  · rintro H3 ⟨s3, hD3⟩
    rw [List.length_map, List.take_length] at hD3
    have hfl := List.length_filter_le (fun z => !decide (z ∈ fs.map nmS)) (holdersL fs)
    refine ⟨D2, _, rfl, .inl (.inl hD3), by omega, fun p4 m nd ml hmm np4 => ⟨p4, m, rfl, upd_same, ml, fun ys p5 hpm hss np5 => ⟨p5, ys.map V.str, rfl, .inl ⟨.inl (.inl upd_same), fun l nl => ?_⟩⟩⟩⟩
    refine k l _ ys ((((s1.trans (s2.trans s3)).trans (same_upd np4)).trans (same_upd np5)).trans (same_upd nl)) (same_none ((((s1.trans (s2.trans s3)).trans (same_upd np4)).trans (same_upd np5))) nl) ⟨hss, hpm.nodup_iff.mpr nd, fun z => ?_, by rw [hpm.length_eq]; exact ml⟩ upd_same
    rw [hpm.mem_iff, hmm z, List.mem_filter]
    simp
abbrev sfirst_unfounded : Stmt := topS 8
theorem sc_first_unfounded : FnScope ["web", "firms", "name", "_", "holdings", "holder", "options"] ["web"] (defScope sfirst_unfounded) := ⟨rfl, rfl, rfl, by decide +kernel, rfl, by decide +kernel, by decide +kernel⟩
theorem ok_first_unfounded {f : Addr} {fd : FuncData} (F : Fun K "first_unfounded" "first_unfounded" sfirst_unfounded f fd) (B : Bt mg) (TY : mg "any" = none) (c_firm_names : CalG P w K mg base 1 "firm_names" (spNames K)) (c_is_founding : CalG P w K mg base 1 "is_founding" (spFounding K)) : FnG P w K mg base 2 f fd ["web"] (spWg K fun fs => optV (unfF fs)) := by
  refine Fun.okG F sc_first_unfounded (fun vs H Q E h => ?_) (fun cdv A outer s H vs Q E hg hr h => ?_)
  · obtain ⟨_, _, _, rfl, _⟩ := h
    rfl
  obtain ⟨a, xs, fs, rfl, hS, hA, hw, k⟩ := h
  refine ⟨_, (pss_cons (ps_set (i := 1) sc_first_unfounded.nd rfl (Or.inr rfl) (pc c_firm_names hg hr (by omega) (by rfl) (pa_cons (pv 0) pa_nil)))
    (pss_cons (ps_for PassesOwn.never rfl (pi_tup (pv 0)) (pg_tup (n := 3) rfl (pgs_cons (pg_name (i := 2) sc_first_unfounded.nd rfl (Or.inl rfl)) (pgs_cons (pg_name (i := 3) sc_first_unfounded.nd rfl (Or.inl rfl)) (pgs_cons (pg_name (i := 4) sc_first_unfounded.nd rfl (Or.inl rfl)) pgs_nil))))
      (pss_one (ps_if (pt_not (pt_val (pe_callB (cr_any rfl) (by rfl) TY bb_any (pa_cons (pe_lc (own := [("holder", 5), ("options", 6)]) rfl sc_first_unfounded.nd (pi_tup (pv 4)) (blkOk_by (own := [("holder", 5), ("options", 6)]) (N := ["web", "firms", "name", "_", "holdings", "holder", "options"]) (sc := (defScope sfirst_unfounded)) (by decide +kernel)) (fun _ _ _ _ _ => (pg_tupK (K := K) (hK := rfl) (n := 2) rfl (pgs_cons (pg_name (i := 5) sc_first_unfounded.nd rfl (Or.inl rfl)) (pgs_cons (pg_name (i := 6) sc_first_unfounded.nd rfl (Or.inl rfl)) pgs_nil)))) (fun _ _ _ _ _ => pts_nil) (fun _ _ _ _ _ => (pe_and (pc c_is_founding hg hr (by omega) (by rfl) (pa_cons (pv 6) pa_nil)) (pe_one (pe_cmpR (op_niT (K := K) rfl) (pv 5) (pv 1) (by rfl)))))) pa_nil))))
        (pss_one (ps_ret (pv 2)))
        pss_nil)))
    (pss_one (ps_ret pe_non)))), ?_⟩
  have hxl := hA.length
  have hfew := hw.few
  have hlean := hw.lean
  have sl := sizeLine_eq
  refine ⟨_, rfl, a, xs, fs, rfl, hS, hA, hw, fun p H1 s1 np hp => ⟨_, rfl, a, rfl, ⟨xs, s1.seqT hS⟩, for_it (walk_tup (K := K) (xs := xs) (a := a)) (fun i σ H' => ∃ (o2 o3 o4 : Option V), σ = [some (.ref a), some (.ref p), o2, o3, o4, none, none] ∧ Same H1 H' ∧ ∀ f ∈ fs.take i, fndF (fs.map nmS) f = true) ⟨_, _, _, rfl, .refl _, fun f h => nomatch h⟩ (fun i σ H' _ h => ?_) (fun i x σ H3 H4 hi h y => ?_) fun σ H3 h => ?_⟩⟩
  · obtain ⟨_, _, _, _, h, _⟩ := h
    exact (s1.trans h).seqT hS
  · obtain ⟨o2, o3, o4, rfl, s2, hall⟩ := h
    obtain ⟨rfl, hx⟩ := y
    obtain ⟨f1, n, r, a3, zs, hs, hf, fm⟩ := hw.open (hA.fut (.of_same s1)) hx
    obtain ⟨af, rfl, hSf⟩ := fm.val
    have hzl := fm.hdt.length
    have efh : hldL f1 = hs := by rw [fm.eq]; rfl
    have efn : nmS f1 = n := by rw [fm.eq]; rfl
    have hpart := flat_part (g := hldL) hf
    rw [efh] at hpart
    refine ⟨af, _, rfl, s2.seqT hSf, rfl, _, _, rfl, _, _, rfl, _, _, rfl, rfl, _, rfl, a3, rfl, ⟨zs, s2.seqT fm.hsq⟩, fun D nD => lc_it (walk_tup (K := K) (xs := zs) (a := a3)) (fun j H' => Same H4 H' ∧ H' D = some (.lst (((hs.take j).map fun h => fndO (optL h) && !decide (hnS h ∈ fs.map nmS)).map V.bl))) ⟨same_upd nD, by rw [upd_same]; rfl⟩ (fun j H' _ h => (s2.trans h.1).seqT fm.hsq) ?_ ?_⟩
    · rintro j x H5 H6 hj ⟨s5, hD⟩ ⟨rfl, hx2⟩
      obtain ⟨e, m, ao, ys, os, he, hv, hmn⟩ := fm.hold hx2
      obtain ⟨ah, rfl, hSh⟩ := hv.val
      have s6 := s2.trans s5
      refine ⟨ah, _, rfl, s6.seqT hSh, rfl, _, _, rfl, _, _, rfl, rfl, rfl, _, rfl, r, ao, ys, os, rfl, s6.seqT hv.osq, hv.odt.fut (.of_same s6), hv.one, hv.few, hv.cm, ?_⟩
      have fin : ∀ b : Bool, b = (fndO os && !decide (m ∈ fs.map nmS)) → ∃ acc, H6 D = some (.lst acc) ∧ acc.length < sizeLine ∧ Same H4 (upd H6 D (.lst (acc ++ [.bl b]))) ∧ upd H6 D (.lst (acc ++ [.bl b])) D = some (.lst (((hs.take (j + 1)).map fun h => fndO (optL h) && !decide (hnS h ∈ fs.map nmS)).map V.bl)) := fun b hb => by
        refine ⟨_, hD, ?_, fun y o q => ?_, ?_⟩
        · rw [List.length_map, List.length_map, List.length_take]
          omega
        · rw [upd_ne (ne_of_none q nD)]
          exact s5 _ _ q
        · have et : (hs.take (j + 1)).map (fun h => fndO (optL h) && !decide (hnS h ∈ fs.map nmS)) = (hs.take j).map (fun h => fndO (optL h) && !decide (hnS h ∈ fs.map nmS)) ++ [b] := by
            rw [List.take_add_one, he, List.map_append, hb, hv.eq]
            rfl
          rw [upd_same, et, List.map_append]
          rfl
      refine ⟨_, rfl, iteB (fun hb => ?_) fun hb => ?_⟩
      · exact ⟨_, rfl, _, rfl, m, p, fs.map nmS, rfl, rfl, .inl (.inl (.inl (s6 _ _ hp))), fin _ (by rw [hb]; simp)⟩
      · exact fin false (by rw [hb]; rfl)
    · rintro H5 ⟨s5, hD⟩
      rw [hzl, List.take_length] at hD
      have eany : (hs.map fun h => fndO (optL h) && !decide (hnS h ∈ fs.map nmS)).any id = fndF (fs.map nmS) f1 := by
        rw [List.any_map]
        unfold fndF
        rw [efh]
        rfl
      refine ⟨D, _, rfl, .inl (.inl hD), _, rfl, ?_⟩
      rw [eany]
      refine iteB (fun hb => ?_) fun hb => ?_
      · have e : unfF fs = some n := by
          unfold unfF
          have hq : fs.find? (fun f => !fndF (fs.map nmS) f) = some f1 := by
            rw [List.find?_eq_some_iff_getElem]
            obtain ⟨hl, ee⟩ := List.getElem?_eq_some_iff.mp hf
            refine ⟨hb, i, hl, ee, fun j hj => ?_⟩
            rw [hall fs[j] (List.mem_take_iff_getElem.mpr ⟨j, by omega, rfl⟩)]
            rfl
          rw [hq, ← efn]
          rfl
        have k2 : ∀ H', Same H H' → Q (optV (unfF fs)) H' := k
        rw [e] at k2
        exact ⟨_, rfl, k2 H5 (s1.trans (s2.trans s5))⟩
      · refine ⟨_, _, _, rfl, s2.trans s5, fun f hf2 => ?_⟩
        rw [List.take_add_one, hf] at hf2
        rcases List.mem_append.mp hf2 with q | q
        · exact hall f q
        · have : f = f1 := by simpa using q
          rw [this]
          simpa using hb
  · obtain ⟨o2, o3, o4, rfl, s2, hall⟩ := h
    rw [List.take_of_length_le (by omega)] at hall
    have e : unfF fs = none := by
      unfold unfF
      rw [List.find?_eq_none.mpr fun f hf => by rw [hall f hf]; decide]
      rfl
    have k2 : ∀ H', Same H H' → Q (optV (unfF fs)) H' := k
    rw [e] at k2
    exact k2 H3 (s1.trans s2)
abbrev sis_founded : Stmt := topS 10
theorem sc_is_founded : FnScope ["web"] ["web"] (defScope sis_founded) := ⟨rfl, rfl, rfl, by decide +kernel, rfl, by decide +kernel, by decide +kernel⟩
theorem ok_is_founded {f : Addr} {fd : FuncData} (F : Fun K "is_founded" "is_founded" sis_founded f fd) (B : Bt mg) (c_first_unfounded : CalG P w K mg base 2 "first_unfounded" (spWg K fun fs => optV (unfF fs))) : FnG P w K mg base 3 f fd ["web"] (spWg K fun fs => .bl (unfF fs).isNone) := by
  refine Fun.okG F sc_is_founded (fun vs H Q E h => ?_) (fun cdv A outer s H vs Q E hg hr h => ?_)
  · obtain ⟨_, _, _, rfl, _⟩ := h
    rfl
  obtain ⟨a, xs, fs, rfl, hS, hA, hw, k⟩ := h
  refine ⟨_, (pss_one (ps_ret (pe_cmpR op_isN (pc c_first_unfounded hg hr (by omega) (by rfl) (pa_cons (pv 0) pa_nil)) pe_non (nomark _)))), ?_⟩
  refine ⟨_, rfl, a, xs, fs, rfl, hS, hA, hw, fun H1 s1 => ?_⟩
  refine ⟨rfl, ?_⟩
  have e : decide (optV (unfF fs) = V.non) = (unfF fs).isNone := by
    cases unfF fs with
    | none => exact decide_eq_true rfl
    | some n => exact decide_eq_false fun z => nomatch z
  show Q (.bl (decide (optV (unfF fs) = V.non))) H1
  rw [e]
  exact k H1 s1
end
end K34
namespace K34
open PySem PySem.Spec PyProof.Rows L2 Sw StX RZ
theorem nodup_le {m ss : List Str} (nd : m.Nodup) (h : ∀ z, z ∈ m → z ∈ ss) : m.length ≤ ss.length := by
  rcases Nat.le_total m.length ss.length with q | q
  · exact q
  · exact Nat.le_of_eq (perm_few m ss nd h q).length_eq
/-- what may be placed next -/
def rdyL (ns : List Str) (G : Str → List Str) (ps : List Str) : List Str := ns.filter fun x => !decide (x ∈ ps) && (G x).all fun y => decide (y ∈ ps)
/-- placed, so far -/
structure PlI (ns : List Str) (G : Str → List Str) (ps : List Str) : Prop where
  nd : ps.Nodup
  sub : ∀ x ∈ ps, x ∈ ns
  pre : ∀ i x, ps[i]? = some x → ∀ y ∈ G x, y ∈ ps.take i
theorem PlI.nil {ns : List Str} {G : Str → List Str} : PlI ns G [] := ⟨List.nodup_nil, (fun _ h => nomatch h), fun i x h => by simp at h⟩
theorem rdy_mem {ns : List Str} {G : Str → List Str} {ps : List Str} {x : Str} (h : x ∈ rdyL ns G ps) : x ∈ ns ∧ x ∉ ps ∧ ∀ y ∈ G x, y ∈ ps := by
  obtain ⟨h1, h2⟩ := List.mem_filter.mp h
  rw [Bool.and_eq_true] at h2
  exact ⟨h1, by simpa using h2.1, fun y hy => by simpa using List.all_eq_true.mp h2.2 y hy⟩
theorem PlI.add {ns : List Str} {G : Str → List Str} {ps : List Str} {x : Str} (p : PlI ns G ps) (h : x ∈ rdyL ns G ps) : PlI ns G (ps ++ [x]) := by
  obtain ⟨h1, h2, h3⟩ := rdy_mem h
  refine ⟨?_, fun y hy => ?_, fun i y hi z hz => ?_⟩
  · rw [List.nodup_append]
    exact ⟨p.nd, by simp, fun a ha b hb e => h2 (by rw [← List.mem_singleton.mp hb, ← e]; exact ha)⟩
  · rcases List.mem_append.mp hy with q | q
    · exact p.sub y q
    · rw [List.mem_singleton.mp q]
      exact h1
  · by_cases hl : i < ps.length
    · rw [List.getElem?_append_left hl] at hi
      rw [List.take_append_of_le_length (Nat.le_of_lt hl)]
      exact p.pre i y hi z hz
    · have hi2 := (List.getElem?_eq_some_iff.mp hi).1
      rw [List.length_append, List.length_singleton] at hi2
      have e : i = ps.length := by omega
      subst e
      rw [List.getElem?_append_right (Nat.le_refl _)] at hi
      simp only [Nat.sub_self, List.getElem?_cons_zero, Option.some.injEq] at hi
      rw [List.take_append_of_le_length (Nat.le_refl _), List.take_length]
      subst hi
      exact h3 z hz
/-- all placed that can be -/
structure PlD (ns : List Str) (G : Str → List Str) (ps : List Str) : Prop extends PlI ns G ps where
  fin : ∀ x ∈ ns, x ∉ ps → ∃ y ∈ G x, y ∉ ps
theorem PlI.fin {ns : List Str} {G : Str → List Str} {ps : List Str} (p : PlI ns G ps) (h : rdyL ns G ps = []) : PlD ns G ps := by
  refine { toPlI := p, fin := fun x hx hn => ?_ }
  have q : x ∉ rdyL ns G ps := by
    rw [h]
    exact List.not_mem_nil
  cases e : (G x).all fun y => decide (y ∈ ps) with
  | true => exact absurd (List.mem_filter.mpr ⟨hx, by rw [e, decide_eq_false hn]; rfl⟩) q
  | false =>
    obtain ⟨y, hy, h2⟩ := List.all_eq_false.mp e
    exact ⟨y, hy, by simpa using h2⟩
theorem rdy_0 (ns : List Str) (G : Str → List Str) : rdyL ns G [] = ns.filter fun x => (G x).isEmpty := by
  unfold rdyL
  refine congrArg (fun f => ns.filter f) (funext fun x => ?_)
  cases G x <;> simp
theorem rdy_two (ns : List Str) (G : Str → List Str) (ps : List Str) : ((ns.filter fun x => !decide (x ∈ ps)).filter fun x => (G x).all fun y => decide (y ∈ ps)) = rdyL ns G ps := by
  rw [List.filter_filter]
  unfold rdyL
  exact congrArg (fun f => ns.filter f) (funext fun x => Bool.and_comm _ _)
theorem same_unlock {H1 H' : Hp} {d : Addr} {u : HO} {od : Obj} (hd : H1 d = some u) (s : Same (upd H1 d (.frz od u)) H') : Same H1 (upd H' d u) := fun b o q => by
  by_cases e : b = d
  · subst e
    rw [upd_same, ← hd, q]
  · rw [upd_ne e]
    exact s _ _ (by rw [upd_ne e]; exact q)
theorem keys_at {kvs : List (Key × V)} {ns : List Str} {i : Nat} {k : Key} {v : V} (h : kvs.map (·.1) = ns.map Sum.inr) (q : kvs[i]? = some (k, v)) : ∃ n, ns[i]? = some n ∧ k = .inr n := by
  have e : (kvs.map (·.1))[i]? = some k := by rw [List.getElem?_map, q]; rfl
  rw [h, List.getElem?_map] at e
  cases z : ns[i]? with
  | none => rw [z] at e; cases e
  | some n => rw [z] at e; cases e; exact ⟨n, rfl, rfl⟩
theorem filt_step {ns : List Str} {i : Nat} {n : Str} {p : Str → Bool} (h : ns[i]? = some n) : ((ns.take (i + 1)).filter p).map V.str = ((ns.take i).filter p).map V.str ++ if p n = true then [V.str n] else [] := by
  rw [List.take_add_one, h, List.filter_append, List.map_append]
  simp only [Option.toList_some, List.filter_cons, List.filter_nil]
  split <;> rfl
section
variable {P : Program} {w : World} {K : PySem.W.Frag} {mg : Str → Option Value} {base : Heap}
def spPlaced : Sp := fun vs H Q _ => ∃ (d : Addr) (ns : List Str) (G : Str → List Str) (kvs : List (Key × V)), vs = [.ref d] ∧ AhA H d ns G kvs ∧ ns.Nodup ∧ ns.length ≤ 6 ∧ (∀ h, (G h).length ≤ 6) ∧ ∀ p H' ps, Same H H' → H p = none → PlD ns G ps → H' p = some (.lst (ps.map V.str)) → Q (.ref p) H'
abbrev splaced_firms : Stmt := topS 12
theorem sc_placed_firms : FnScope ["ahead", "placed", "ready", "name", "left", "one"] ["ahead"] (defScope splaced_firms) := ⟨rfl, rfl, rfl, by decide +kernel, rfl, by decide +kernel, by decide +kernel⟩
theorem ok_placed_firms {f : Addr} {fd : FuncData} (F : Fun K "placed_firms" "placed_firms" splaced_firms f fd) (B : Bt mg) (TA : mg "all" = none) : FnG P w K mg base 1 f fd ["ahead"] spPlaced := by
  refine Fun.okG F sc_placed_firms (fun vs H Q E h => ?_) (fun cdv A outer s H vs Q E hg hr h => ?_)
  · obtain ⟨_, _, _, _, rfl, _⟩ := h
    rfl
  obtain ⟨d, ns, G, kvs, rfl, hd, nd, hnl, hGl, k⟩ := h
  have hu1 : (A.deeper (envOfC "placed_firms" (defScope splaced_firms) s.heap.objs.size f cdv)).units + 1 < cLine := by
    have := Room.u64 hr
    omega
  refine ⟨_, (pss_cons (ps_set (i := 1) sc_placed_firms.nd rfl (Or.inr rfl) (pe_lst pa_nil))
    (pss_cons (ps_lock (ps_setLc (i := 2) (own := [("name", 3)]) rfl sc_placed_firms.nd rfl rfl (sw_true rfl rfl rfl (by decide +kernel)) (pi_keys (pv 0)) (blkOk_by (own := [("name", 3)]) (N := ["ahead", "placed", "ready", "name", "left", "one"]) (sc := (defScope splaced_firms)) (by decide +kernel)) (fun _ _ _ _ _ => (pg_name (i := 3) sc_placed_firms.nd rfl (Or.inl rfl))) (fun _ _ _ _ _ => (pts_one (pt_not (pt_truthK (K := K) rfl (pe_dget hu1 (pv 0) (pv 3) (fun _ _ => rfl)) (by intro _; rfl))))) (fun _ _ _ _ _ => (pv 3))))
    (pss_cons (ps_while PassesOwn.never (pt_truth (pv 2) (by intro _; rfl))
      (pss_cons (ps_expr (pe_bm PySem.F.plainAttrs_list PySem.F.slot_list_append PySem.F.type_list_append mt_append (pv 1) (pa_cons (pe_ix ix_list (pv 2) pe_int (fun _ _ => rfl)) pa_nil)))
      (pss_cons (ps_lock (ps_setLc (i := 4) (own := [("name", 3)]) rfl sc_placed_firms.nd rfl rfl (sw_true rfl rfl rfl (by decide +kernel)) (pi_keys (pv 0)) (blkOk_by (own := [("name", 3)]) (N := ["ahead", "placed", "ready", "name", "left", "one"]) (sc := (defScope splaced_firms)) (by decide +kernel)) (fun _ _ _ _ _ => (pg_name (i := 3) sc_placed_firms.nd rfl (Or.inl rfl))) (fun _ _ _ _ _ => (pts_one (pt_cmpR (op_niT (K := K) rfl) (pv 3) (pv 1) (by rfl)))) (fun _ _ _ _ _ => (pv 3))))
      (pss_one (ps_setLc (i := 2) (own := [("name", 3)]) rfl sc_placed_firms.nd rfl rfl (sw_true rfl rfl rfl (by decide +kernel)) (pi_list (pv 4)) (blkOk_by (own := [("name", 3)]) (N := ["ahead", "placed", "ready", "name", "left", "one"]) (sc := (defScope splaced_firms)) (by decide +kernel)) (fun _ _ _ _ _ => (pg_name (i := 3) sc_placed_firms.nd rfl (Or.inl rfl))) (fun _ _ _ _ _ => (pts_one (pt_val (pe_callB (cr_allK (K := K) rfl rfl) (by rfl) TA bb_all (pa_cons (pe_lc (own := [("one", 5)]) rfl sc_placed_firms.nd (pi_listK (K := K) rfl (pe_dget hu1 (pv 0) (pv 3) (fun _ _ => rfl))) (blkOk_by (own := [("one", 5)]) (N := ["ahead", "placed", "ready", "name", "left", "one"]) (by rfl)) (fun _ _ _ _ _ => (pg_name (i := 5) sc_placed_firms.nd rfl (Or.inl rfl))) (fun _ _ _ _ _ => pts_nil) (fun _ _ _ _ _ => (pe_cmpR (op_inT (K := K) rfl) (pv 5) (pv 1) (by rfl)))) pa_nil))))) (fun _ _ _ _ _ => (pv 3)))))))
    (pss_one (ps_ret (pv 1)))))), ?_⟩
  have hkl : kvs.length = ns.length := by
    have := congrArg List.length hd.keys
    rwa [List.length_map, List.length_map] at this
  refine ⟨Nat.zero_le _, fun Pl nP => ?_⟩
  have hd1 := hd.fut (same_upd (o := .lst []) nP)
  refine ⟨d, _, hd1.dk, trivial, fun od => ⟨_, rfl, d, od, rfl, .inl ⟨kvs, upd_same, fun D nD => ?_⟩⟩⟩
  have hbk : upd (upd H Pl (.lst [])) d (.frz od (.dK kvs)) d = some (.frz od (.dK kvs)) := upd_same
  have Dd : D ≠ d := fun z => by rw [z, hbk] at nD; cases nD
  refine lc_it (walk_keys (d := d) (o := od) (kvs := kvs)) (fun i H' => Same (upd (upd H Pl (.lst [])) d (.frz od (.dK kvs))) H' ∧ H' D = some (.lst (((ns.take i).filter fun x => (G x).isEmpty).map V.str))) ⟨same_upd nD, by rw [upd_same]; rfl⟩ (fun i H' _ h => h.1 _ _ hbk) ?_ ?_
  · rintro i x H2 H3 hi ⟨s2, hD⟩ ⟨rfl, key, v, hkv, rfl⟩
    obtain ⟨n, hn, rfl⟩ := keys_at hd.keys hkv
    obtain ⟨la, hv1, hv2⟩ := hd1.val n (List.mem_of_getElem? hn)
    have lad : la ≠ d := fun z => by rw [z, hd1.dk] at hv2; cases hv2
    have hv3 := s2 _ _ (show upd (upd H Pl (.lst [])) d (.frz od (.dK kvs)) la = _ by rw [upd_ne lad]; exact hv2)
    refine ⟨rfl, _, rfl, _, rfl, d, .ref la, rfl, .inl ⟨kvs, .inr n, .inr ⟨od, s2 _ _ hbk⟩, rfl, hv1.symm⟩, !((G n).map V.str).isEmpty, .inl ⟨_, .inl (.inl hv3), rfl⟩, ?_⟩
    have eE : (!!((G n).map V.str).isEmpty) = (G n).isEmpty := by
      cases G n <;> rfl
    refine iteB (fun hE => ?_) fun hE => ?_ <;> rw [eE] at hE
    · refine ⟨_, rfl, _, hD, ?_, fun y o q => ?_, ?_⟩
      · rw [List.length_map]
        have := List.length_filter_le (fun x => (G x).isEmpty) (ns.take i)
        rw [List.length_take] at this
        exact small1000 (by omega)
      · rw [upd_ne (ne_of_none q nD)]
        exact s2 _ _ q
      · rw [upd_same, filt_step hn, if_pos hE]
        rfl
    · refine ⟨s2, ?_⟩
      rw [hD, filt_step hn, hE]
      simp
  rintro H2 ⟨s2, hD⟩
  rw [hkl, List.take_length, ← rdy_0] at hD
  have s3 : Same H (upd H2 d (.dK kvs)) := (same_upd nP).trans (same_unlock hd1.dk s2)
  refine ⟨s2 _ _ hbk, ?_⟩
  have hPl : upd H2 d (.dK kvs) Pl = some (.lst ([].map V.str)) := same_unlock hd1.dk s2 _ _ upd_same
  have hRd : upd H2 d (.dK kvs) D = some (.lst ((rdyL ns G []).map V.str)) := by
    rw [upd_ne Dd]
    exact hD
  generalize upd H2 d (.dK kvs) = H3 at s3 hPl hRd
  refine ⟨fun m σ H' => ∃ (R : Addr) (o4 : Option V) (ps : List Str), σ = [some (.ref d), some (.ref Pl), some (.ref R), none, o4, none] ∧ Same H H' ∧ H' Pl = some (.lst (ps.map V.str)) ∧ H' R = some (.lst ((rdyL ns G ps).map V.str)) ∧ PlI ns G ps ∧ m = 7 - ps.length, ⟨_, D, none, [], rfl, s3, hPl, hRd, .nil, rfl⟩, ?_⟩
  rintro m σ H1 ⟨R, o4, ps, rfl, s4, hP4, hR4, pl, rfl⟩
  have psl : ps.length ≤ 6 := Nat.le_trans (nodup_le pl.nd pl.sub) hnl
  refine ⟨_, rfl, !((rdyL ns G ps).map V.str).isEmpty, .inl ⟨_, .inl (.inl hR4), rfl⟩, iteB (fun he => ?_) fun he => ?_⟩
  · obtain ⟨x, rest, hrd⟩ : ∃ x rest, rdyL ns G ps = x :: rest := by
      cases q : rdyL ns G ps with
      | nil => rw [q] at he; simp at he
      | cons x r => exact ⟨x, r, rfl⟩
    have hxr : x ∈ rdyL ns G ps := by rw [hrd]; exact List.mem_cons_self
    have pl2 := pl.add hxr
    have psl2 : (ps ++ [x]).length ≤ 6 := Nat.le_trans (nodup_le pl2.nd pl2.sub) hnl
    have epl : (ps ++ [x]).length = ps.length + 1 := by rw [List.length_append]; rfl
    refine ⟨fun σ' H' => ∃ (R : Addr) (o4 : Option V), σ' = [some (.ref d), some (.ref Pl), some (.ref R), none, o4, none] ∧ Same H H' ∧ H' Pl = some (.lst ((ps ++ [x]).map V.str)) ∧ H' R = some (.lst ((rdyL ns G (ps ++ [x])).map V.str)), fun σ' H' ⟨R, o4, a1, a2, a3, a4⟩ => ⟨_, by rw [epl] at psl2; omega, R, o4, ps ++ [x], a1, a2, a3, a4, pl2, rfl⟩, ?_⟩
    refine ⟨_, rfl, ty_lst hP4, _, rfl, R, _, 0, .str x, rfl, rfl, .inl (.inl hR4), atI_nat (j := 0) (by rw [hrd]; rfl), Pl, _, _, rfl, rfl, hP4, by rw [List.length_map]; exact small1000 (by omega), ?_⟩
    have s5 : Same H (upd H1 Pl (.lst (ps.map V.str ++ [.str x]))) := fun b o q => by
      rw [upd_ne (fun e => by rw [e, nP] at q; cases q)]
      exact s4 _ _ q
    have hP5 : upd H1 Pl (.lst (ps.map V.str ++ [.str x])) Pl = some (.lst ((ps ++ [x]).map V.str)) := by rw [upd_same, List.map_append]; rfl
    generalize upd H1 Pl (.lst (ps.map V.str ++ [.str x])) = H5 at s5 hP5
    have hd5 := hd.fut s5
    have Pld : Pl ≠ d := fun z => by rw [z, hd.dk] at nP; cases nP
    refine ⟨d, _, hd5.dk, trivial, fun od2 => ⟨_, rfl, d, od2, rfl, .inl ⟨kvs, upd_same, fun D2 nD2 => ?_⟩⟩⟩
    have hbk2 : upd H5 d (.frz od2 (.dK kvs)) d = some (.frz od2 (.dK kvs)) := upd_same
    have hbP2 : upd H5 d (.frz od2 (.dK kvs)) Pl = some (.lst ((ps ++ [x]).map V.str)) := by rw [upd_ne Pld]; exact hP5
    have Dd2 : D2 ≠ d := fun z => by rw [z, hbk2] at nD2; cases nD2
    refine lc_it (walk_keys (d := d) (o := od2) (kvs := kvs)) (fun i H' => Same (upd H5 d (.frz od2 (.dK kvs))) H' ∧ H' D2 = some (.lst (((ns.take i).filter fun y => !decide (y ∈ ps ++ [x])).map V.str))) ⟨same_upd nD2, by rw [upd_same]; rfl⟩ (fun i H' _ h => h.1 _ _ hbk2) ?_ ?_
    · rintro i x' H6 H7 hi ⟨s6, hD6⟩ ⟨rfl, key, v, hkv, rfl⟩
      obtain ⟨n, hn, rfl⟩ := keys_at hd.keys hkv
      refine ⟨rfl, _, rfl, _, rfl, n, Pl, ps ++ [x], rfl, rfl, .inl (.inl (.inl (s6 _ _ hbP2))), _, rfl, iteB (fun hE => ?_) fun hE => ?_⟩
      · refine ⟨_, rfl, _, hD6, ?_, fun y o q => ?_, ?_⟩
        · rw [List.length_map]
          have := List.length_filter_le (fun y => !decide (y ∈ ps ++ [x])) (ns.take i)
          rw [List.length_take] at this
          exact small1000 (by omega)
        · rw [upd_ne (ne_of_none q nD2)]
          exact s6 _ _ q
        · rw [upd_same, filt_step hn]
          rw [show (!decide (n ∈ ps ++ [x])) = true from hE]
          rfl
      · refine ⟨s6, ?_⟩
        rw [hD6, filt_step hn]
        rw [show (!decide (n ∈ ps ++ [x])) = false from hE]
        simp
    rintro H6 ⟨s6, hD6⟩
    rw [hkl, List.take_length] at hD6
    refine ⟨s6 _ _ hbk2, ?_⟩
    have s7 : Same H5 (upd H6 d (.dK kvs)) := same_unlock hd5.dk s6
    have hL7 : upd H6 d (.dK kvs) D2 = some (.lst ((ns.filter fun y => !decide (y ∈ ps ++ [x])).map V.str)) := by rw [upd_ne Dd2]; exact hD6
    generalize upd H6 d (.dK kvs) = H7 at s7 hL7
    have hlfl := List.length_filter_le (fun y => !decide (y ∈ ps ++ [x])) ns
    refine ⟨_, rfl, D2, rfl, ⟨_, .inl (.inl hL7)⟩, fun D3 nD3 => ?_⟩
    refine lc_it (walk_list (K := K) (a := D2) (xs := (ns.filter fun y => !decide (y ∈ ps ++ [x])).map V.str)) (fun i H' => Same H7 H' ∧ H' D3 = some (.lst ((((ns.filter fun y => !decide (y ∈ ps ++ [x])).take i).filter fun z => (G z).all fun y => decide (y ∈ ps ++ [x])).map V.str))) ⟨same_upd nD3, by rw [upd_same]; rfl⟩ (fun i H' _ h => .inl (.inl (h.1 _ _ hL7))) ?_ ?_
    · rintro i x' H8 H9 hi ⟨s8, hD8⟩ ⟨rfl, hx'⟩
      obtain ⟨n, hn, rfl⟩ := str_at hx'
      have hnn : n ∈ ns := (List.mem_filter.mp (List.mem_of_getElem? hn)).1
      have hd8 := hd5.fut (s7.trans s8)
      obtain ⟨la, hv1, hv2⟩ := hd8.val n hnn
      have hP8 := s8 _ _ (s7 _ _ hP5)
      have hGn := hGl n
      refine ⟨rfl, _, rfl, _, rfl, d, _, rfl, by rw [← hv1]; exact DGet.k (k := .inr n) hd8.dk, la, rfl, ⟨_, .inl (.inl hv2)⟩, fun D4 nD4 => ?_⟩
      refine lc_it (walk_list (K := K) (a := la) (xs := (G n).map V.str)) (fun j H' => Same H9 H' ∧ H' D4 = some (.lst ((((G n).take j).map fun y => decide (y ∈ ps ++ [x])).map V.bl))) ⟨same_upd nD4, by rw [upd_same]; rfl⟩ (fun j H' _ h => .inl (.inl (h.1 _ _ hv2))) ?_ ?_
      · rintro j x' HA HB hj ⟨sA, hDA⟩ ⟨rfl, hxj⟩
        obtain ⟨y, hy, rfl⟩ := str_at hxj
        refine ⟨rfl, _, rfl, _, rfl, y, Pl, ps ++ [x], rfl, rfl, .inl (.inl (.inl (sA _ _ hP8))), _, hDA, ?_, fun z o q => ?_, ?_⟩
        · rw [List.length_map, List.length_map, List.length_take]
          exact small1000 (by omega)
        · rw [upd_ne (ne_of_none q nD4)]
          exact sA _ _ q
        · rw [upd_same, List.take_add_one, hy, List.map_append, List.map_append]
          rfl
      · rintro HA ⟨sA, hDA⟩
        rw [List.length_map, List.take_length] at hDA
        have hDA3 := sA _ _ hD8
        have eall : ((G n).map fun y => decide (y ∈ ps ++ [x])).all id = (G n).all fun y => decide (y ∈ ps ++ [x]) := by
          rw [List.all_map]
          rfl
        refine ⟨D4, _, rfl, .inl (.inl hDA), _, rfl, ?_⟩
        rw [eall]
        refine iteB (fun hE => ?_) fun hE => ?_
        · refine ⟨_, rfl, _, hDA3, ?_, fun z o q => ?_, ?_⟩
          · rw [List.length_map]
            have := List.length_filter_le (fun z => (G z).all fun y => decide (y ∈ ps ++ [x])) ((ns.filter fun y => !decide (y ∈ ps ++ [x])).take i)
            rw [List.length_take] at this
            exact small1000 (by omega)
          · rw [upd_ne (ne_of_none q nD3)]
            exact sA _ _ (s8 _ _ q)
          · rw [upd_same, filt_step hn, if_pos hE]
        · refine ⟨s8.trans sA, ?_⟩
          rw [hDA3, filt_step hn, if_neg (by rw [hE]; exact Bool.false_ne_true), List.append_nil]
    · rintro H8 ⟨s8, hD8⟩
      rw [List.length_map, List.take_length, rdy_two] at hD8
      exact ⟨D3, _, rfl, s5.trans (s7.trans s8), s8 _ _ (s7 _ _ hP5), hD8⟩
  · have e0 : rdyL ns G ps = [] := by
      cases q : rdyL ns G ps with
      | nil => rfl
      | cons x r => rw [q] at he; simp at he
    exact ⟨_, rfl, k Pl H1 ps s4 nP (pl.fin e0) hP4⟩
end
end K34
namespace K34
open PySem PySem.Spec PyProof.Rows L2 Sw StX RZ
/-- some, each with one of them ahead -/
def Stuck (ns : List Str) (G : Str → List Str) : Prop := ∃ S : List Str, S ≠ [] ∧ (∀ x ∈ S, x ∈ ns) ∧ ∀ x ∈ S, ∃ y ∈ G x, y ∈ S
theorem mem_take_at {l : List Str} {i : Nat} {y : Str} (h : y ∈ l.take i) : ∃ j, j < i ∧ l[j]? = some y := by
  obtain ⟨j, hj, e⟩ := List.mem_iff_getElem.mp h
  rw [List.length_take] at hj
  refine ⟨j, by omega, ?_⟩
  rw [List.getElem_take] at e
  rw [List.getElem?_eq_getElem (by omega), e]
theorem pl_free {ns : List Str} {G : Str → List Str} {ps : List Str} (p : PlI ns G ps) {S : List Str} (hS : ∀ x ∈ S, ∃ y ∈ G x, y ∈ S) : ∀ (n i : Nat) (x : Str), i < n → ps[i]? = some x → x ∉ S
  | 0, i, x, h, _ => absurd h (Nat.not_lt_zero _)
  | n + 1, i, x, h, hx => fun q => by
    obtain ⟨y, hy, hyS⟩ := hS x q
    obtain ⟨j, hj, hjy⟩ := mem_take_at (p.pre i x hx y hy)
    exact pl_free p hS n j y (by omega) hjy hyS
theorem PlD.all {ns : List Str} {G : Str → List Str} {ps : List Str} (p : PlD ns G ps) (hG : ∀ x, ∀ y ∈ G x, y ∈ ns) : (∀ x ∈ ns, x ∈ ps) ↔ ¬ Stuck ns G := by
  constructor
  · rintro h ⟨S, h0, h1, h2⟩
    obtain ⟨x, hx⟩ := List.exists_mem_of_ne_nil S h0
    obtain ⟨i, hi, e⟩ := List.mem_iff_getElem.mp (h x (h1 x hx))
    exact pl_free p.toPlI h2 (i + 1) i x (Nat.lt_succ_self i) (by rw [List.getElem?_eq_getElem hi, e]) hx
  · intro h x hx
    by_cases q : x ∈ ps
    · exact q
    · refine absurd ⟨ns.filter fun z => !decide (z ∈ ps), fun z => ?_, fun z hz => (List.mem_filter.mp hz).1, fun z hz => ?_⟩ h
      · have : x ∈ ns.filter fun z => !decide (z ∈ ps) := List.mem_filter.mpr ⟨hx, by simpa using q⟩
        rw [z] at this
        exact absurd this List.not_mem_nil
      · obtain ⟨h1, h2⟩ := List.mem_filter.mp hz
        obtain ⟨y, hy, hyp⟩ := p.fin z h1 (by simpa using h2)
        exact ⟨y, hy, List.mem_filter.mpr ⟨hG z y hy, by simpa using hyp⟩⟩
theorem PlD.len {ns : List Str} {G : Str → List Str} {ps : List Str} (p : PlD ns G ps) (nd : ns.Nodup) : ps.length = ns.length ↔ ∀ x ∈ ns, x ∈ ps := by
  constructor
  · intro e x hx
    exact (perm_few ps ns p.nd p.sub (Nat.le_of_eq e.symm)).mem_iff.mpr hx
  · intro h
    exact Nat.le_antisymm (nodup_le p.nd p.sub) (nodup_le nd h)
/-- a circle: each owes the next -/
structure CircD (ns : List Str) (G : Str → List Str) (c : List Str) : Prop where
  two : 2 ≤ c.length
  sub : ∀ x ∈ c, x ∈ ns
  nd : c.Nodup
  nxt : ∀ i x y, c[i]? = some x → c[(i + 1) % c.length]? = some y → x ∈ G y
/-- the way, so far -/
structure WayI (L : List Str) (G : Str → List Str) (w : List Str) (n : Str) : Prop where
  nd : w.Nodup
  sub : ∀ x ∈ w ++ [n], x ∈ L
  nxt : ∀ i x y, (w ++ [n])[i]? = some x → (w ++ [n])[i + 1]? = some y → y ∈ G x
theorem WayI.step {L : List Str} {G : Str → List Str} {w : List Str} {n m : Str} (h : WayI L G w n) (hn : n ∉ w) (hm : m ∈ G n) (hL : m ∈ L) : WayI L G (w ++ [n]) m := by
  refine ⟨?_, fun x hx => ?_, fun i x y hx hy => ?_⟩
  · rw [List.nodup_append]
    exact ⟨h.nd, by simp, fun a ha b hb e => hn (by rw [← List.mem_singleton.mp hb, ← e]; exact ha)⟩
  · rcases List.mem_append.mp hx with q | q
    · exact h.sub x q
    · rw [List.mem_singleton.mp q]
      exact hL
  · have hi := (List.getElem?_eq_some_iff.mp hy).1
    rw [List.length_append, List.length_singleton] at hi
    rw [List.getElem?_append_left (by omega)] at hx
    by_cases q : i + 1 < (w ++ [n]).length
    · rw [List.getElem?_append_left q] at hy
      exact h.nxt i x y hx hy
    · rw [List.getElem?_append_right (by omega), show i + 1 - (w ++ [n]).length = 0 by omega] at hy
      rw [List.length_append, List.length_singleton] at hi q
      rw [show i = w.length by omega, List.getElem?_append_right (Nat.le_refl _), Nat.sub_self] at hx
      simp only [List.getElem?_cons_zero, Option.some.injEq] at hx hy
      rw [← hx, ← hy]
      exact hm
theorem WayI.circ {ns L : List Str} {G : Str → List Str} {w : List Str} {n : Str} {j : Nat} (h : WayI L G w n) (hL : ∀ x ∈ L, x ∈ ns) (hj : w[j]? = some n) (irr : ∀ x, x ∉ G x) : CircD ns G (w.drop j).reverse := by
  have hjl := (List.getElem?_eq_some_iff.mp hj).1
  have hlast : ∀ x, w[w.length - 1]? = some x → n ∈ G x := fun x hx => by
    refine h.nxt (w.length - 1) x n (by rw [List.getElem?_append_left (by omega)]; exact hx) ?_
    rw [List.getElem?_append_right (by omega), show w.length - 1 + 1 - w.length = 0 by omega]
    rfl
  have hlen : (w.drop j).reverse.length = w.length - j := by rw [List.length_reverse, List.length_drop]
  have hat : ∀ i, i < w.length - j → (w.drop j).reverse[i]? = w[w.length - 1 - i]? := fun i hi => by
    rw [List.getElem?_reverse (by rw [List.length_drop]; exact hi), List.length_drop, List.getElem?_drop]
    congr 1
    omega
  refine ⟨?_, fun x hx => ?_, ?_, fun i x y hx hy => ?_⟩
  · rw [hlen]
    by_cases q : w.length - j = 1
    · have e : w.length - 1 = j := by omega
      exact absurd (hlast n (by rw [e]; exact hj)) (irr n)
    · omega
  · exact hL x (h.sub x (List.mem_append_left _ (List.mem_of_mem_drop (List.mem_reverse.mp hx))))
  · exact (List.reverse_perm _).nodup_iff.mpr (h.nd.sublist (List.drop_sublist _ _))
  · have hi := (List.getElem?_eq_some_iff.mp hx).1
    rw [hlen] at hi
    rw [hlen] at hy
    rw [hat i hi] at hx
    by_cases q : i + 1 < w.length - j
    · rw [Nat.mod_eq_of_lt q, hat _ q] at hy
      refine h.nxt (w.length - 1 - (i + 1)) y x ?_ ?_
      · rw [List.getElem?_append_left (by omega)]
        exact hy
      · rw [List.getElem?_append_left (by omega), show w.length - 1 - (i + 1) + 1 = w.length - 1 - i by omega]
        exact hx
    · have e : i + 1 = w.length - j := by omega
      rw [e, Nat.mod_self, hat 0 (by omega)] at hy
      rw [show w.length - 1 - i = j by omega, hj] at hx
      cases hx
      exact hlast y hy
theorem owers_irr {fs : List PyData} (h : fs.all firmD = true) (x : Str) : x ∉ owers fs x := fun q => by
  obtain ⟨f, hf, e⟩ := List.mem_map.mp q
  obtain ⟨h1, h2⟩ := List.mem_filter.mp hf
  obtain ⟨n, r, hs, rfl, _, _, _, hok⟩ := firm_shape2 (List.all_eq_true.mp h f h1)
  obtain ⟨z, hz, hd⟩ := List.any_eq_true.mp h2
  obtain ⟨a1, a2⟩ := hok z hz
  obtain ⟨hn, os, rfl, _⟩ := hold_shape a1
  have e2 : n = x := e
  rw [show hdDue x (.tuple [.str hn, .tuple os]) = (decide (hn = x) && os.any dueD) from rfl, Bool.and_eq_true, decide_eq_true_eq] at hd
  rw [hd.1, e2] at a2
  exact absurd (show headIs x (.tuple [.str x, .tuple os]) = true from decide_eq_true rfl) (by rw [a2]; exact Bool.false_ne_true)
section
variable {P : Program} {w : World} {K : PySem.W.Frag} {mg : Str → Option Value} {base : Heap}
/-- none, or a tuple of names told by R -/
def spMay (K : PySem.W.Frag) (R : List PyData → Option (List Str) → Prop) : Sp := fun vs H Q _ => ∃ (a : Addr) (xs : List V) (fs : List PyData), vs = [.ref a] ∧ SqT K H a xs ∧ DtA K mT H xs fs ∧ Wg fs ∧
  (∀ H', Same H H' → R fs none → Q .non H') ∧ ∀ p H' c, Same H H' → H p = none → R fs (some c) → H' p = some (.tup (c.map V.str)) → Q (.ref p) H'
def CircR (fs : List PyData) : Option (List Str) → Prop
  | none => ¬ Stuck (fs.map nmS) (owers fs)
  | some c => Stuck (fs.map nmS) (owers fs) ∧ CircD (fs.map nmS) (owers fs) c
abbrev scircle_of : Stmt := topS 13
theorem sc_circle_of : FnScope ["web", "ahead", "placed", "left", "name", "way", "now"] ["web"] (defScope scircle_of) := ⟨rfl, rfl, rfl, by decide +kernel, rfl, by decide +kernel, by decide +kernel⟩
theorem ok_circle_of {f : Addr} {fd : FuncData} (F : Fun K "circle_of" "circle_of" scircle_of f fd) (B : Bt mg) (TR : mg "reversed" = none) (c_dues_ahead : CalG P w K mg base 4 "dues_ahead" (spAhead K)) (c_placed_firms : CalG P w K mg base 1 "placed_firms" spPlaced) : FnG P w K mg base 5 f fd ["web"] (spMay K CircR) := by
  refine Fun.okG F sc_circle_of (fun vs H Q E h => ?_) (fun cdv A outer s H vs Q E hg hr h => ?_)
  · obtain ⟨_, _, _, rfl, _⟩ := h
    rfl
  obtain ⟨a, xs, fs, rfl, hS, hA, hw, k0, k1⟩ := h
  have hu1 : (A.deeper (envOfC "circle_of" (defScope scircle_of) s.heap.objs.size f cdv)).units + 1 < cLine := by
    have := Room.u64 hr
    omega
  refine ⟨_, (pss_cons (ps_set (i := 1) sc_circle_of.nd rfl (Or.inl rfl) (pc c_dues_ahead hg hr (by omega) (by rfl) (pa_cons (pv 0) pa_nil)))
    (pss_cons (ps_set (i := 2) sc_circle_of.nd rfl (Or.inr rfl) (pc c_placed_firms hg hr (by omega) (by rfl) (pa_cons (pv 1) pa_nil)))
    (pss_cons (ps_set (i := 3) sc_circle_of.nd rfl (Or.inr rfl) (pe_lock (pe_lc (own := [("name", 4)]) rfl sc_circle_of.nd (pi_keys (pv 1)) (blkOk_by (own := [("name", 4)]) (N := ["web", "ahead", "placed", "left", "name", "way", "now"]) (sc := (defScope scircle_of)) (by decide +kernel)) (fun _ _ _ _ _ => (pg_name (i := 4) sc_circle_of.nd rfl (Or.inl rfl))) (fun _ _ _ _ _ => (pts_one (pt_cmpR (op_niT (K := K) rfl) (pv 4) (pv 2) (by rfl)))) (fun _ _ _ _ _ => (pv 4)))))
    (pss_cons (ps_if (pt_not (pt_truth (pv 3) (by intro _; rfl)))
      (pss_one (ps_ret pe_non))
      pss_nil)
    (pss_cons (ps_set (i := 5) sc_circle_of.nd rfl (Or.inl rfl) (pe_lst pa_nil))
    (pss_cons (ps_set (i := 6) sc_circle_of.nd rfl (Or.inl rfl) (pe_ix ix_list (pv 3) pe_int (fun _ _ => rfl)))
    (pss_cons (ps_while PassesOwn.never (pt_cmpR (op_niT (K := K) rfl) (pv 6) (pv 5) (by rfl))
      (pss_cons (ps_expr (pe_bm PySem.F.plainAttrs_list PySem.F.slot_list_append PySem.F.type_list_append mt_append (pv 5) (pa_cons (pv 6) pa_nil)))
      (pss_one (ps_set (i := 6) sc_circle_of.nd rfl (Or.inl rfl) (pe_ix ix_list (pe_lc (own := [("name", 4)]) rfl sc_circle_of.nd (pi_list (pe_dget hu1 (pv 1) (pv 6) (fun _ _ => rfl))) (blkOk_by (own := [("name", 4)]) (N := ["web", "ahead", "placed", "left", "name", "way", "now"]) (sc := (defScope scircle_of)) (by decide +kernel)) (fun _ _ _ _ _ => (pg_name (i := 4) sc_circle_of.nd rfl (Or.inl rfl))) (fun _ _ _ _ _ => (pts_one (pt_cmpR (op_inT (K := K) rfl) (pv 4) (pv 3) (by rfl)))) (fun _ _ _ _ _ => (pv 4))) pe_int (fun _ _ => rfl))))))
    (pss_one (ps_ret (RT.pe_tupRev rfl (by rfl) B.tuple (by rfl) TR (pe_slice sl_list (pv 5) (po_some (pe_bm PySem.F.plainAttrs_list PySem.F.slot_list_index PySem.F.type_list_index mt_index (pv 5) (pa_cons (pv 6) pa_nil))) po_none))))))))))), ?_⟩
  have hfew := hw.few
  have nsd := asc_nodup hw.asc
  have hnl : (fs.map nmS).length = fs.length := List.length_map _
  refine ⟨_, rfl, a, xs, fs, rfl, hS, hA, hw, fun d H1 kvs s1 nd hd => ⟨_, rfl, d, _, _, kvs, rfl, hd, nsd, by omega, fun h => Nat.le_trans (owers_len fs h) hfew, fun Pl H2 ps s2 nP pl hP => ?_⟩⟩
  have hd2 := hd.fut s2
  refine ⟨d, _, hd2.dk, trivial, fun od => ⟨_, rfl, d, od, rfl, .inl ⟨kvs, upd_same, fun D nD => ?_⟩⟩⟩
  have hkl : kvs.length = (fs.map nmS).length := by
    have := congrArg List.length hd.keys
    rwa [List.length_map, List.length_map] at this
  have hbk : upd H2 d (.frz od (.dK kvs)) d = some (.frz od (.dK kvs)) := upd_same
  have Pld : Pl ≠ d := fun z => by rw [z, hd.dk] at nP; cases nP
  have hbP : upd H2 d (.frz od (.dK kvs)) Pl = some (.lst (ps.map V.str)) := by rw [upd_ne Pld]; exact hP
  have Dd : D ≠ d := fun z => by rw [z, hbk] at nD; cases nD
  refine lc_it (walk_keys (d := d) (o := od) (kvs := kvs)) (fun i H' => Same (upd H2 d (.frz od (.dK kvs))) H' ∧ H' D = some (.lst ((((fs.map nmS).take i).filter fun y => !decide (y ∈ ps)).map V.str))) ⟨same_upd nD, by rw [upd_same]; rfl⟩ (fun i H' _ h => h.1 _ _ hbk) ?_ ?_
  · rintro i x' H6 H7 hi ⟨s6, hD6⟩ ⟨rfl, key, v, hkv, rfl⟩
    obtain ⟨n, hn, rfl⟩ := keys_at hd.keys hkv
    refine ⟨rfl, _, rfl, _, rfl, n, Pl, ps, rfl, rfl, .inl (.inl (.inl (s6 _ _ hbP))), _, rfl, iteB (fun hE => ?_) fun hE => ?_⟩
    · refine ⟨_, rfl, _, hD6, ?_, fun y o q => ?_, ?_⟩
      · rw [List.length_map]
        have := List.length_filter_le (fun y => !decide (y ∈ ps)) ((fs.map nmS).take i)
        rw [List.length_take] at this
        exact small1000 (by omega)
      · rw [upd_ne (ne_of_none q nD)]
        exact s6 _ _ q
      · rw [upd_same, filt_step hn]
        rw [show (!decide (n ∈ ps)) = true from hE]
        rfl
    · refine ⟨s6, ?_⟩
      rw [hD6, filt_step hn]
      rw [show (!decide (n ∈ ps)) = false from hE]
      simp
  rintro H6 ⟨s6, hD6⟩
  rw [hkl, List.take_length] at hD6
  refine ⟨s6 _ _ hbk, ?_⟩
  have s7 : Same H2 (upd H6 d (.dK kvs)) := same_unlock hd2.dk s6
  have hL7 : upd H6 d (.dK kvs) D = some (.lst (((fs.map nmS).filter fun y => !decide (y ∈ ps)).map V.str)) := by rw [upd_ne Dd]; exact hD6
  generalize upd H6 d (.dK kvs) = H7 at s7 hL7
  have hlmem : ∀ x, x ∈ ((fs.map nmS).filter fun y => !decide (y ∈ ps)) ↔ x ∈ fs.map nmS ∧ x ∉ ps := fun x => by
    rw [List.mem_filter]
    simp
  have hGs : ∀ x, ∀ y ∈ owers fs x, y ∈ fs.map nmS := fun x y h => owers_sub h
  have hlle : ((fs.map nmS).filter fun y => !decide (y ∈ ps)).length ≤ 6 := Nat.le_trans (List.length_filter_le _ _) (by omega)
  generalize ((fs.map nmS).filter fun y => !decide (y ∈ ps)) = L at hL7 hlmem hlle
  have s07 : Same H H7 := s1.trans (s2.trans s7)
  have hd7 := hd2.fut s7
  refine ⟨_, rfl, !(L.map V.str).isEmpty, .inl ⟨_, .inl (.inl hL7), rfl⟩, iteB (fun he => ?_) fun he => ?_⟩
  · have eL : L = [] := by
      cases L with
      | nil => rfl
      | cons x r => simp at he
    refine k0 H7 s07 ((pl.all hGs).mp fun x hx => ?_)
    by_cases q : x ∈ ps
    · exact q
    · have := (hlmem x).mpr ⟨hx, q⟩
      rw [eL] at this
      exact absurd this List.not_mem_nil
  obtain ⟨n0, L0, rfl⟩ : ∃ n0 L0, L = n0 :: L0 := by
    cases L with
    | nil => simp at he
    | cons x r => exact ⟨x, r, rfl⟩
  have hstuck : Stuck (fs.map nmS) (owers fs) := by
    by_cases q : Stuck (fs.map nmS) (owers fs)
    · exact q
    · obtain ⟨h1, h2⟩ := (hlmem n0).mp List.mem_cons_self
      exact absurd ((pl.all hGs).mpr q n0 h1) h2
  refine ⟨Nat.zero_le _, fun Wy nW => ⟨_, rfl, D, _, 0, .str n0, rfl, rfl, .inl (.inl (same_upd nW _ _ hL7)), atI_nat (j := 0) rfl, ?_⟩⟩
  refine ⟨fun m σ H' => ∃ (n : Str) (w : List Str), σ = [some (.ref a), some (.ref d), some (.ref Pl), some (.ref D), none, some (.ref Wy), some (.str n)] ∧ Same H7 H' ∧ H' Wy = some (.lst (w.map V.str)) ∧ WayI (n0 :: L0) (owers fs) w n ∧ m = 7 - w.length, ⟨_, n0, [], rfl, same_upd nW, by rw [upd_same]; rfl, ⟨List.nodup_nil, fun x hx => ?_, fun i x y hx hy => ?_⟩, rfl⟩, ?_⟩
  · rw [List.mem_singleton.mp hx]
    exact List.mem_cons_self
  · simp at hy
  rintro m σ H1' ⟨n, w, rfl, s8, hW, wi, rfl⟩
  have wl : w.length ≤ 6 := Nat.le_trans (nodup_le wi.nd fun z hz => wi.sub z (List.mem_append_left _ hz)) hlle
  have hnL : n ∈ n0 :: L0 := wi.sub n (by simp)
  refine ⟨_, rfl, _, rfl, n, Wy, w, rfl, rfl, .inl (.inl (.inl hW)), _, rfl, iteB (fun he2 => ?_) fun he2 => ?_⟩
  · have hnw : n ∉ w := by simpa using he2
    obtain ⟨hn1, hn2⟩ := (hlmem n).mp hnL
    obtain ⟨y0, hy0, hy0p⟩ := pl.fin n hn1 hn2
    have hmem0 : y0 ∈ (owers fs n).filter fun y => decide (y ∈ n0 :: L0) := List.mem_filter.mpr ⟨hy0, decide_eq_true ((hlmem y0).mpr ⟨hGs n y0 hy0, hy0p⟩)⟩
    obtain ⟨m, rest, hmr⟩ : ∃ m rest, ((owers fs n).filter fun y => decide (y ∈ n0 :: L0)) = m :: rest := by
      cases q : (owers fs n).filter fun y => decide (y ∈ n0 :: L0) with
      | nil => rw [q] at hmem0; exact absurd hmem0 List.not_mem_nil
      | cons m r => exact ⟨m, r, rfl⟩
    have hmm : m ∈ (owers fs n).filter fun y => decide (y ∈ n0 :: L0) := by rw [hmr]; exact List.mem_cons_self
    have wi2 := wi.step hnw (List.mem_filter.mp hmm).1 (of_decide_eq_true (List.mem_filter.mp hmm).2)
    have wl2 : (w ++ [n]).length ≤ 6 := Nat.le_trans (nodup_le wi2.nd fun z hz => wi2.sub z (List.mem_append_left _ hz)) hlle
    have ewl : (w ++ [n]).length = w.length + 1 := by rw [List.length_append]; rfl
    refine ⟨fun σ' H' => σ' = [some (.ref a), some (.ref d), some (.ref Pl), some (.ref D), none, some (.ref Wy), some (.str m)] ∧ Same H7 H' ∧ H' Wy = some (.lst ((w ++ [n]).map V.str)), fun σ' H' ⟨a1, a2, a3⟩ => ⟨_, by rw [ewl] at wl2; omega, m, w ++ [n], a1, a2, a3, wi2, rfl⟩, ?_⟩
    refine ⟨_, rfl, ty_lst hW, _, rfl, Wy, _, _, rfl, rfl, hW, by rw [List.length_map]; exact small1000 (by omega), ?_⟩
    have s9 : Same H7 (upd H1' Wy (.lst (w.map V.str ++ [.str n]))) := fun b o q => by
      rw [upd_ne (fun e => by rw [e, nW] at q; cases q)]
      exact s8 _ _ q
    have hW9 : upd H1' Wy (.lst (w.map V.str ++ [.str n])) Wy = some (.lst ((w ++ [n]).map V.str)) := by rw [upd_same, List.map_append]; rfl
    generalize upd H1' Wy (.lst (w.map V.str ++ [.str n])) = H9 at s9 hW9
    have hd9 := hd7.fut s9
    obtain ⟨la, hv1, hv2⟩ := hd9.val n hn1
    have hL9 := s9 _ _ hL7
    refine ⟨_, rfl, _, rfl, d, _, rfl, by rw [← hv1]; exact DGet.k (k := .inr n) hd9.dk, la, rfl, ⟨_, .inl (.inl hv2)⟩, fun D4 nD4 => ?_⟩
    have hol := owers_len fs n
    refine lc_it (walk_list (K := K) (a := la) (xs := (owers fs n).map V.str)) (fun j H' => Same H9 H' ∧ H' D4 = some (.lst ((((owers fs n).take j).filter fun y => decide (y ∈ n0 :: L0)).map V.str))) ⟨same_upd nD4, by rw [upd_same]; rfl⟩ (fun j H' _ h => .inl (.inl (h.1 _ _ hv2))) ?_ ?_
    · rintro j x' HA HB hj ⟨sA, hDA⟩ ⟨rfl, hxj⟩
      obtain ⟨y, hy, rfl⟩ := str_at hxj
      refine ⟨rfl, _, rfl, _, rfl, y, D, n0 :: L0, rfl, rfl, .inl (.inl (.inl (sA _ _ hL9))), _, rfl, iteB (fun hE => ?_) fun hE => ?_⟩
      · refine ⟨_, rfl, _, hDA, ?_, fun z o q => ?_, ?_⟩
        · rw [List.length_map]
          have := List.length_filter_le (fun y => decide (y ∈ n0 :: L0)) ((owers fs n).take j)
          rw [List.length_take] at this
          exact small1000 (by omega)
        · rw [upd_ne (ne_of_none q nD4)]
          exact sA _ _ q
        · rw [upd_same, filt_step hy, show decide (y ∈ n0 :: L0) = true from hE]
          rfl
      · refine ⟨sA, ?_⟩
        rw [hDA, filt_step hy, show decide (y ∈ n0 :: L0) = false from hE]
        simp
    · rintro HA ⟨sA, hDA⟩
      rw [List.length_map, List.take_length, hmr] at hDA
      exact ⟨D4, _, 0, .str m, rfl, rfl, .inl (.inl hDA), atI_nat (j := 0) rfl, rfl, s9.trans sA, sA _ _ hW9⟩
  · have hnw : n ∈ w := by simpa using he2
    obtain ⟨j, z, h1, h2, h3⟩ := idx_str hnw
    obtain ⟨n', hj, rfl⟩ := str_at h1
    have en : n' = n := by simpa [eqV] using h2
    subst en
    have nWH : H Wy = none := same_none s07 nW
    refine ⟨_, rfl, _, rfl, ty_lst hW, _, rfl, Wy, _, _, j, _, rfl, rfl, .inl (.inl hW), rfl, flatT, h1, h2, h3, _, rfl, Wy, _, rfl, .inl (.inl hW), fun p np => ⟨p, _, rfl, .inl (.inl upd_same), fun q nq => ?_⟩⟩
    have ec : cutV (w.map V.str) (some (j : Int)) none = (w.drop j).map V.str := by rw [cutV_fromN, List.map_drop]
    rw [ec] at nq ⊢
    rw [← List.map_reverse]
    refine k1 q _ _ (s07.trans (s8.trans ((same_upd np).trans (same_upd nq)))) (same_none (s07.trans (s8.trans (same_upd np))) nq) ⟨hstuck, wi.circ (fun x hx => ((hlmem x).mp hx).1) hj (owers_irr hw.all)⟩ upd_same
end
end K34
namespace K34
open PySem PySem.Spec PyProof.Rows L2 Sw StX RZ
def inNs (ns : List Str) : PyData → Bool
  | .str s => decide (s ∈ ns)
  | _ => false
theorem all_str {ns : List Str} : ∀ {ds : List PyData}, ds.all (inNs ns) = true → ∃ cs : List Str, ds = cs.map PyData.str ∧ ∀ c ∈ cs, c ∈ ns
  | [], _ => ⟨[], rfl, fun _ h => nomatch h⟩
  | d :: ds, h => by
    rw [List.all_cons, Bool.and_eq_true] at h
    obtain ⟨cs, rfl, hc⟩ := all_str h.2
    obtain ⟨s, rfl⟩ : ∃ s, d = .str s := by
      cases d <;> first | exact ⟨_, rfl⟩ | (exact absurd h.1 (by simp [inNs]))
    refine ⟨s :: cs, rfl, fun c hm => ?_⟩
    rcases List.mem_cons.mp hm with q | q
    · rw [q]
      exact of_decide_eq_true h.1
    · exact hc c q
theorem dtA_only {K : PySem.W.Frag} {mu : Addr → Prop} {H : Hp} : ∀ {cs : List Str} {xs : List V}, DtA K mu H xs (cs.map PyData.str) → xs = cs.map V.str
  | [], _, h => by
    cases h
    rfl
  | c :: cs, _, h => by
    cases h with
    | cons a b =>
      cases a
      rw [dtA_only b]
      rfl
def IsCirc (fs : List PyData) (d : PyData) : Prop := ∃ cs : List Str, d = .tuple (cs.map PyData.str) ∧ CircD (fs.map nmS) (owers fs) cs
def IsOrd (fs : List PyData) (d : PyData) : Prop := ∃ cs : List Str, d = .tuple (cs.map PyData.str) ∧ cs.Perm (fs.map nmS) ∧ ∀ (i : Nat) (x : Str), cs[i]? = some x → ∀ y ∈ owers fs x, y ∈ cs.take i
theorem str_map_inj {as bs : List Str} (h : as.map PyData.str = bs.map PyData.str) : as = bs := by
  induction as generalizing bs with
  | nil => cases bs with
    | nil => rfl
    | cons b bs => cases h
  | cons a as ih => cases bs with
    | nil => cases h
    | cons b bs =>
      simp only [List.map_cons, List.cons.injEq, PyData.str.injEq] at h
      rw [h.1, ih h.2]
section
variable {P : Program} {w : World} {K : PySem.W.Frag} {mg : Str → Option Value} {base : Heap}
def spJudge (K : PySem.W.Frag) (R : List PyData → PyData → Prop) : Sp := fun vs H Q _ => ∃ (a : Addr) (xs : List V) (fs : List PyData) (v : V) (mu : Addr → Prop) (d : PyData), vs = [.ref a, v] ∧ SqT K H a xs ∧ DtA K mT H xs fs ∧ Wg fs ∧ Dt K mu H v d ∧ Ok d ∧ (∀ ts, d = .tuple ts → ts.length ≤ 4000) ∧ ∀ H' b, Same H H' → (b = true ↔ R fs d) → Q (.bl b) H'
abbrev sis_circle : Stmt := topS 14
theorem sc_is_circle : FnScope ["web", "thing", "ahead", "name", "before"] ["web", "thing"] (defScope sis_circle) := ⟨rfl, rfl, rfl, by decide +kernel, rfl, by decide +kernel, by decide +kernel⟩
theorem ok_is_circle {f : Addr} {fd : FuncData} (F : Fun K "is_circle" "is_circle" sis_circle f fd) (B : Bt mg) (TA : mg "all" = none) (TST : mg "set" = none) (c_dues_ahead : CalG P w K mg base 4 "dues_ahead" (spAhead K)) : FnG P w K mg base 5 f fd ["web", "thing"] (spJudge K IsCirc) := by
  refine Fun.okG F sc_is_circle (fun vs H Q E h => ?_) (fun cdv A outer s H vs Q E hg hr h => ?_)
  · obtain ⟨_, _, _, _, _, _, rfl, _⟩ := h
    rfl
  obtain ⟨a, xs, fs, v, mu, d, rfl, hS, hA, hw, hd, ho, h4, k⟩ := h
  have hu1 : (A.deeper (envOfC "is_circle" (defScope sis_circle) s.heap.objs.size f cdv)).units + 1 < cLine := by
    have := Room.u64 hr
    omega
  refine ⟨_, (pss_cons (ps_if (PW.pt (pw_or (pt_not (pt_val (pe_callB call_isD (by rfl) B.isin bb_isin (pa_cons (pv 1) (pa_cons (pe_bltn (v := .ty "tuple") rfl B.tuple bb_tuple rfl) pa_nil))))) (pw_or1 (pt_cmpR op_lt (pe_callB call_lenA (by rfl) B.len boot_len (pa_cons (pv 1) pa_nil)) pe_int (nomark _)))))
      (pss_one (ps_ret pe_bl))
      pss_nil)
    (pss_cons (ps_set (i := 2) sc_is_circle.nd rfl (Or.inr rfl) (pc c_dues_ahead hg hr (by omega) (by rfl) (pa_cons (pv 0) pa_nil)))
    (pss_cons (ps_if (PW.pt (pw_or (pt_not (pt_val (pe_callB (cr_all rfl) (by rfl) TA bb_all (pa_cons (pe_lc (own := [("name", 3)]) rfl sc_is_circle.nd (pi_tup (pv 1)) (blkOk_by (own := [("name", 3)]) (N := ["web", "thing", "ahead", "name", "before"]) (sc := (defScope sis_circle)) (by decide +kernel)) (fun _ _ _ _ _ => (pg_name (i := 3) sc_is_circle.nd rfl (Or.inl rfl))) (fun _ _ _ _ _ => pts_nil) (fun _ _ _ _ _ => (pe_and (pe_callB (call_isDK (K := K) rfl) (by rfl) B.isin bb_isin (pa_cons (pv 3) (pa_cons (pe_bltn (v := .ty "str") rfl B.str bb_str rfl) pa_nil))) (pe_one (pe_cmpR (op_inD hu1) (pv 3) (pv 2) (by rfl)))))) pa_nil)))) (pw_or1 (pt_cmpR op_ne (pe_callB (cr_lenX) (by rfl) B.len boot_len (pa_cons (pe_callTy (cr_setU rfl) (by rfl) TST bb_set (pa_cons (pv 1) pa_nil)) pa_nil)) (pe_callB call_lenA (by rfl) B.len boot_len (pa_cons (pv 1) pa_nil)) (nomark _)))))
      (pss_one (ps_ret pe_bl))
      pss_nil)
    (pss_one (ps_ret (pe_callB (cr_all rfl) (by rfl) TA bb_all (pa_cons (pe_lc (own := [("before", 4), ("name", 3)]) rfl sc_is_circle.nd (pi_zipA (by rfl) B.zip (pa_cons (pe_tup (pa_cons (pe_ix ix_tup (pv 1) (pe_un un_neg pe_int) (fun _ _ => rfl)) (pa_star (pv 1) pa_nil))) (pa_cons (pv 1) pa_nil))) (blkOk_by (own := [("before", 4), ("name", 3)]) (N := ["web", "thing", "ahead", "name", "before"]) (sc := (defScope sis_circle)) (by decide +kernel)) (fun _ _ _ _ _ => (pg_tupK (K := K) (hK := rfl) (n := 2) rfl (pgs_cons (pg_name (i := 4) sc_is_circle.nd rfl (Or.inl rfl)) (pgs_cons (pg_name (i := 3) sc_is_circle.nd rfl (Or.inl rfl)) pgs_nil)))) (fun _ _ _ _ _ => pts_nil) (fun _ _ _ _ _ => (pe_cmpR (op_inT (K := K) rfl) (pv 4) (pe_dget hu1 (pv 2) (pv 3) (fun _ _ => rfl)) (by rfl)))) pa_nil))))))), ?_⟩
  have hfew := hw.few
  have nsd := asc_nodup hw.asc
  have hnl : (fs.map nmS).length = fs.length := List.length_map _
  refine ⟨_, rfl, _, "tuple", mu, d, rfl, by decide, hd, _, rfl, ?_⟩
  refine iteN (fun ht => ?_) fun ht => ?_
  · refine iteT (k H false (.refl H) ⟨(fun z => nomatch z), fun ⟨cs, e, _⟩ => ?_⟩)
    rw [e] at ht
    simp [isT, tyName] at ht
  obtain ⟨ts, rfl⟩ := (isTup d).mp ht
  obtain ⟨p, us, rfl, hSp, hAp⟩ := hd.tupAt
  have hul := hAp.length
  have h4 := h4 ts rfl
  have sl := sizeLine_eq
  refine ⟨_, rfl, _, us.length, rfl, .inr ⟨_, hSp, rfl⟩, _, _, rfl, rfl, _, rfl, iteP (fun hl2 => ?_) fun hl2 => ?_⟩
  · refine k H false (.refl H) ⟨(fun z => nomatch z), fun ⟨cs, e, c⟩ => ?_⟩
    have e2 : ts = cs.map PyData.str := PyData.tuple.inj e
    have := c.two
    rw [e2, List.length_map] at hul
    omega
  refine ⟨_, rfl, a, xs, fs, rfl, hS, hA, hw, fun dd H1 kvs s1 nd hd1 => ?_⟩
  have hS1 := s1.seqT hSp
  have hA1 := hAp.fut (.of_same s1)
  refine ⟨_, rfl, p, rfl, ⟨us, hS1⟩, fun D nD => lc_it (walk_tup (K := K) (xs := us) (a := p)) (fun i H' => Same H1 H' ∧ H' D = some (.lst (((ts.take i).map (inNs (fs.map nmS))).map V.bl))) ⟨same_upd nD, by rw [upd_same]; rfl⟩ (fun i H' _ h => h.1.seqT hS1) ?_ ?_⟩
  · rintro i x H2 H3 hi ⟨s2, hD⟩ ⟨rfl, hx⟩
    obtain ⟨e, he, hxe⟩ := hA1.get hx
    have hd3 := hd1.fut s2
    have fin : ∀ b : Bool, b = inNs (fs.map nmS) e → ∃ acc, H3 D = some (.lst acc) ∧ acc.length < sizeLine ∧ Same H1 (upd H3 D (.lst (acc ++ [.bl b]))) ∧ upd H3 D (.lst (acc ++ [.bl b])) D = some (.lst (((ts.take (i + 1)).map (inNs (fs.map nmS))).map V.bl)) := fun b hb => by
      refine ⟨_, hD, ?_, fun y o q => ?_, ?_⟩
      · rw [List.length_map, List.length_map, List.length_take]
        omega
      · rw [upd_ne (ne_of_none q nD)]
        exact s2 _ _ q
      · rw [upd_same, List.take_add_one, he, List.map_append, List.map_append, hb]
        rfl
    refine ⟨rfl, _, rfl, _, "str", mu, e, rfl, by decide, hxe.fut (.of_same s2), _, rfl, iteB (fun hst => ?_) fun hst => ?_⟩
    · obtain ⟨s0, rfl⟩ := (isStr e).mp hst
      cases hxe
      exact ⟨_, rfl, _, rfl, dd, _, rfl, DGet.k (k := .inr s0) hd3.dk, fin _ (val_in hd3.keys)⟩
    · refine fin false ?_
      cases e <;> first | rfl | (simp [isT, tyName] at hst)
  rintro H2 ⟨s2, hD⟩
  rw [List.take_of_length_le (by omega)] at hD
  have eall : (ts.map (inNs (fs.map nmS))).all id = ts.all (inNs (fs.map nmS)) := by
    rw [List.all_map]
    rfl
  refine ⟨D, _, rfl, .inl (.inl hD), _, rfl, ?_⟩
  rw [eall]
  refine iteN (fun hal => ?_) fun hal => ?_
  · refine iteT (k H2 false (s1.trans s2) ⟨(fun z => nomatch z), fun ⟨cs, e, c⟩ => ?_⟩)
    have e2 : ts = cs.map PyData.str := PyData.tuple.inj e
    rw [e2, List.all_map] at hal
    obtain ⟨x, hx, hx2⟩ := List.all_eq_false.mp hal
    exact absurd (show inNs (fs.map nmS) (.str x) = true from decide_eq_true (c.sub x hx)) hx2
  obtain ⟨cs, rfl, hcs⟩ := all_str hal
  have eus := dtA_only hAp
  subst eus
  rw [List.length_map] at h4
  rw [List.length_map] at hl2 hul
  have s12 := s1.trans s2
  have hS2 := s12.seqT hSp
  refine ⟨_, rfl, p, cs, rfl, hS2, h4, fun q m ndm ml hmm nq => ⟨q, m, rfl, upd_same, ml, _, rfl, _, cs.length, rfl, .inr ⟨_, (same_upd nq).seqT hS2, by rw [List.length_map]⟩, rfl, _, rfl, ?_⟩⟩
  have hfull := set_full ndm hmm
  have s13 := s12.trans (same_upd (o := SetXO P w q m) nq)
  by_cases em : m.length = cs.length
  rotate_left
  · rw [decide_eq_false (fun z => em (by have := V.int.inj z; omega))]
    refine iteT (k _ false s13 ⟨(fun z => nomatch z), fun ⟨cs', e, c⟩ => ?_⟩)
    have e2 := str_map_inj (PyData.tuple.inj e)
    subst e2
    exact absurd (hfull.mpr c.nd) em
  rw [em, decide_eq_true rfl]
  refine iteF ?_
  have hcn := hfull.mp em
  have hS3 := s13.seqT hSp
  have hd3 := hd1.fut (s2.trans (same_upd (o := SetXO P w q m) nq))
  have hpos : 2 ≤ cs.length := by omega
  obtain ⟨la, hla⟩ : ∃ x, cs[cs.length - 1]? = some x := ⟨_, List.getElem?_eq_getElem (by omega)⟩
  have hcs1 : cs = cs.dropLast ++ [la] := by
    have e1 := List.dropLast_concat_getLast (show cs ≠ [] from fun z => by rw [z] at hpos; simp at hpos)
    have e2 : cs.getLast (fun z => by rw [z] at hpos; simp at hpos) = la := by
      rw [List.getLast_eq_getElem]
      exact Option.some.inj ((List.getElem?_eq_getElem (by omega)).symm.trans hla)
    rw [e2] at e1
    exact e1.symm
  refine ⟨_, rfl, _, rfl, p, _, -1, .str la, rfl, rfl, hS3, ?_, ?_⟩
  · rw [hcs1, List.map_append]
    exact atI_last _ _
  refine ⟨_, rfl, p, _, rfl, .inl hS3, by simp only [List.length_append, List.length_map, List.length_nil, List.length_cons]; omega, fun z nz => ⟨_, rfl, z, p, (la :: cs).map V.str, _, rfl, .inr ⟨.of (by rw [upd_same, List.append_nil]; rfl), (same_upd nz).seqT hS3, fun D2 nD2 => ?_⟩⟩⟩
  have s14 := s13.trans (same_upd (o := .tup (.str la :: (cs.map V.str ++ []))) nz)
  have hd4 := hd3.fut (same_upd (o := .tup (.str la :: (cs.map V.str ++ []))) nz)
  have hS4 := s14.seqT hSp
  have hz4 : SqT K (upd (upd H2 q (SetXO P w q m)) z (.tup (.str la :: (cs.map V.str ++ [])))) z ((la :: cs).map V.str) := .of (by rw [upd_same, List.append_nil]; rfl)
  refine lc_it (walk_zipT (K := K) (a := z) (b := p) (xs := (la :: cs).map V.str) (ys := cs.map V.str) (n := cs.length) (by simp only [List.length_map, List.length_cons]; omega)) (fun i H' => Same (upd (upd H2 q (SetXO P w q m)) z (.tup (.str la :: (cs.map V.str ++ [])))) H' ∧ H' D2 = some (.lst (((List.zipWith (fun b c => decide (b ∈ owers fs c)) (la :: cs) cs).take i).map V.bl))) ⟨same_upd nD2, by rw [upd_same]; rfl⟩ (fun i H' _ h => ⟨h.1.seqT hz4, h.1.seqT hS4⟩) ?_ ?_
  · rintro i x H3 H4 hi ⟨s3, hD3⟩ ⟨T, x1, y1, rfl, nT, rfl, hx1, hy1⟩
    obtain ⟨b, hb, rfl⟩ := str_at hx1
    obtain ⟨c, hc, rfl⟩ := str_at hy1
    have TD : T ≠ D2 := fun e => by rw [e, hD3] at nT; cases nT
    have sT := same_upd (o := .tup [V.str b, V.str c]) nT
    have hd5 := hd4.fut (s3.trans sT)
    obtain ⟨l5, hv1, hv2⟩ := hd5.val c (hcs c (List.mem_of_getElem? hc))
    refine ⟨T, _, rfl, .of upd_same, rfl, _, _, rfl, _, _, rfl, rfl, rfl, _, rfl, _, rfl, _, rfl, dd, _, rfl, by rw [← hv1]; exact DGet.k (k := .inr c) hd5.dk, b, l5, owers fs c, rfl, rfl, .inl (.inl (.inl hv2)), _, (by rw [upd_ne TD.symm]; exact hD3), ?_, fun y o q => ?_, ?_⟩
    · rw [List.length_map, List.length_take, List.length_zipWith]
      omega
    · rw [upd_ne (ne_of_none q nD2)]
      exact sT _ _ (s3 _ _ q)
    · have ez : (List.zipWith (fun b c => decide (b ∈ owers fs c)) (la :: cs) cs)[i]? = some (decide (b ∈ owers fs c)) := by
        rw [List.getElem?_zipWith, hb, hc]
      rw [upd_same, List.take_add_one, ez, List.map_append]
      rfl
  · rintro H3 ⟨s3, hD3⟩
    rw [List.take_of_length_le (by rw [List.length_zipWith]; omega)] at hD3
    refine ⟨D2, _, rfl, .inl (.inl hD3), k H3 _ (s14.trans s3) ?_⟩
    rw [List.all_eq_true]
    constructor
    · intro h
      refine ⟨cs, rfl, hpos, hcs, hcn, fun i x y hx hy => ?_⟩
      have hi := (List.getElem?_eq_some_iff.mp hx).1
      have hj : ∃ j : Nat, (la :: cs)[j]? = some x ∧ cs[j]? = some y := by
        by_cases q : i + 1 < cs.length
        · rw [Nat.mod_eq_of_lt q] at hy
          exact ⟨i + 1, by rw [List.getElem?_cons_succ]; exact hx, hy⟩
        · have e : i + 1 = cs.length := by omega
          rw [e, Nat.mod_self] at hy
          rw [show i = cs.length - 1 by omega, hla] at hx
          exact ⟨0, hx, hy⟩
      obtain ⟨j, h1, h2⟩ := hj
      have h3 := h (decide (x ∈ owers fs y)) (List.mem_of_getElem? (i := j) (by rw [List.getElem?_zipWith, h1, h2]))
      exact of_decide_eq_true h3
    · rintro ⟨cs', e, c⟩ b hb
      have e2 := str_map_inj (PyData.tuple.inj e)
      subst e2
      obtain ⟨j, hj⟩ := List.mem_iff_getElem?.mp hb
      rw [List.getElem?_zipWith] at hj
      cases h1 : (la :: cs)[j]? with
      | none => rw [h1] at hj; simp at hj
      | some x =>
        cases h2 : cs[j]? with
        | none => rw [h1, h2] at hj; simp at hj
        | some y =>
          rw [h1, h2] at hj
          have e3 : decide (x ∈ owers fs y) = b := Option.some.inj hj
          rw [← e3]
          have hjl := (List.getElem?_eq_some_iff.mp h2).1
          refine decide_eq_true ?_
          cases j with
          | zero =>
            have e4 : la = x := Option.some.inj h1
            rw [← e4]
            exact c.nxt (cs.length - 1) la y hla (by rw [show cs.length - 1 + 1 = cs.length by omega, Nat.mod_self]; exact h2)
          | succ j =>
            rw [List.getElem?_cons_succ] at h1
            exact c.nxt j x y h1 (by rw [Nat.mod_eq_of_lt hjl]; exact h2)
end
end K34
namespace K34
open PySem PySem.Spec PyProof.Rows L2 Sw StX RZ
theorem eqvAll_strs : ∀ xs ys : List Str, PyData.eqvAll (xs.map PyData.str) (ys.map PyData.str) = decide (xs = ys)
  | [], [] => rfl
  | [], _ :: _ => rfl
  | _ :: _, [] => rfl
  | x :: xs, y :: ys => by
    rw [List.map_cons, List.map_cons, PyData.eqvAll, eqvAll_strs xs ys, PyData.eqv]
    by_cases e : x = y <;> by_cases e2 : xs = ys <;> simp [e, e2]
theorem dtA_strs {K : PySem.W.Frag} {mu : Addr → Prop} {H : Hp} : ∀ xs : List Str, DtA K mu H (xs.map V.str) (xs.map PyData.str)
  | [] => .nil
  | _ :: xs => .cons (.str _) (dtA_strs xs)
theorem wg_strOk {fs : List PyData} (hw : Wg fs) : ∀ z ∈ fs.map nmS, PyData.strOk z = true := fun z hz => by
  obtain ⟨e, he, rfl⟩ := List.mem_map.mp hz
  obtain ⟨n, r, hs, rfl, hn⟩ := firm_name (List.all_eq_true.mp hw.all _ he)
  have o1 : Ok (.str n) := (hw.ok.inT he).inT (by simp)
  have q : PyData.strOk n = true := by simpa only [okD] using o1.ok
  exact q
theorem ok_strOk {cs : List Str} (h : Ok (.tuple (cs.map PyData.str))) : ∀ z ∈ cs, PyData.strOk z = true := fun z hz => by
  have o1 : Ok (.str z) := h.inT (List.mem_map_of_mem hz)
  have q : PyData.strOk z = true := by simpa only [okD] using o1.ok
  exact q
theorem all_isS : ∀ {ds : List PyData}, ds.all (isT "str") = true → ∃ cs : List Str, ds = cs.map PyData.str
  | [], _ => ⟨[], rfl⟩
  | d :: ds, h => by
    rw [List.all_cons, Bool.and_eq_true] at h
    obtain ⟨cs, rfl⟩ := all_isS h.2
    obtain ⟨s, rfl⟩ := (isStr d).mp h.1
    exact ⟨s :: cs, rfl⟩
/-- an order: told apart by places -/
def OrdR (fs : List PyData) : Option (List Str) → Prop
  | none => Stuck (fs.map nmS) (owers fs)
  | some c => ¬ Stuck (fs.map nmS) (owers fs) ∧ c.Perm (fs.map nmS) ∧ ∀ (i : Nat) (x : Str), c[i]? = some x → ∀ y ∈ owers fs x, y ∈ c.take i
section
variable {P : Program} {w : World} {K : PySem.W.Frag} {mg : Str → Option Value} {base : Heap}
abbrev sdues_order : Stmt := topS 15
theorem sc_dues_order : FnScope ["web", "placed"] ["web"] (defScope sdues_order) := ⟨rfl, rfl, rfl, by decide +kernel, rfl, by decide +kernel, by decide +kernel⟩
theorem ok_dues_order {f : Addr} {fd : FuncData} (F : Fun K "dues_order" "dues_order" sdues_order f fd) (B : Bt mg) (c_dues_ahead : CalG P w K mg base 4 "dues_ahead" (spAhead K)) (c_placed_firms : CalG P w K mg base 1 "placed_firms" spPlaced) : FnG P w K mg base 5 f fd ["web"] (spMay K OrdR) := by
  refine Fun.okG F sc_dues_order (fun vs H Q E h => ?_) (fun cdv A outer s H vs Q E hg hr h => ?_)
  · obtain ⟨_, _, _, rfl, _⟩ := h
    rfl
  obtain ⟨a, xs, fs, rfl, hS, hA, hw, k0, k1⟩ := h
  refine ⟨_, (pss_cons (ps_set (i := 1) sc_dues_order.nd rfl (Or.inl rfl) (pc c_placed_firms hg hr (by omega) (by rfl) (pa_cons (pc c_dues_ahead hg hr (by omega) (by rfl) (pa_cons (pv 0) pa_nil)) pa_nil)))
    (pss_one (ps_ret (pe_ifExp (pt_cmpR op_eq (pe_callB call_lenA (by rfl) B.len boot_len (pa_cons (pv 1) pa_nil)) (pe_callB call_lenA (by rfl) B.len boot_len (pa_cons (pv 0) pa_nil)) (nomark _)) (pe_callTy call_tuple_of (by rfl) B.tuple bb_tuple (pa_cons (pv 1) pa_nil)) pe_non)))), ?_⟩
  have hfew := hw.few
  have hxl := hA.length
  have nsd := asc_nodup hw.asc
  have hnl : (fs.map nmS).length = fs.length := List.length_map _
  refine ⟨_, rfl, a, xs, fs, rfl, hS, hA, hw, fun d H1 kvs s1 nd hd => ⟨d, _, _, kvs, rfl, hd, nsd, by omega, fun h => Nat.le_trans (owers_len fs h) hfew, fun Pl H2 ps s2 nP pl hP => ?_⟩⟩
  have sl := sizeLine_eq
  have hpl := nodup_le pl.nd pl.sub
  refine ⟨_, rfl, _, ps.length, rfl, .inl ⟨_, .inl (.inl hP), by rw [List.length_map]⟩, _, rfl, _, fs.length, rfl, .inr ⟨_, (s1.trans s2).seqT hS, hxl.symm⟩, rfl, _, rfl, ?_⟩
  have hGs : ∀ x, ∀ y ∈ owers fs x, y ∈ fs.map nmS := fun x y h => owers_sub h
  refine iteEq (fun e => ?_) fun e => ?_
  · have e2 : ps.length = (fs.map nmS).length := by omega
    refine ⟨_, rfl, Pl, _, rfl, .inl ⟨.inl (.inl hP), fun l nl => k1 l _ ps ((s1.trans s2).trans (same_upd nl)) (same_none (s1.trans s2) nl) ⟨(pl.all hGs).mp ((pl.len nsd).mp e2), perm_few ps _ pl.nd pl.sub (Nat.le_of_eq e2.symm), pl.pre⟩ upd_same⟩⟩
  · refine k0 H2 (s1.trans s2) ?_
    by_cases q : Stuck (fs.map nmS) (owers fs)
    · exact q
    · exact absurd ((pl.len nsd).mpr ((pl.all hGs).mpr q)) (by omega)
abbrev sis_dues_order : Stmt := topS 16
theorem sc_is_dues_order : FnScope ["web", "thing", "name", "ahead", "place", "one"] ["web", "thing"] (defScope sis_dues_order) := ⟨rfl, rfl, rfl, by decide +kernel, rfl, by decide +kernel, by decide +kernel⟩
theorem ok_is_dues_order {f : Addr} {fd : FuncData} (F : Fun K "is_dues_order" "is_dues_order" sis_dues_order f fd) (B : Bt mg) (TA : mg "all" = none) (TSO : mg "sorted" = none) (c_dues_ahead : CalG P w K mg base 4 "dues_ahead" (spAhead K)) (c_firm_names : CalG P w K mg base 1 "firm_names" (spNames K)) : FnG P w K mg base 5 f fd ["web", "thing"] (spJudge K IsOrd) := by
  refine Fun.okG F sc_is_dues_order (fun vs H Q E h => ?_) (fun cdv A outer s H vs Q E hg hr h => ?_)
  · obtain ⟨_, _, _, _, _, _, rfl, _⟩ := h
    rfl
  obtain ⟨a, xs, fs, v, mu, d, rfl, hS, hA, hw, hd, ho, h4, k⟩ := h
  have hu := Room.u64 hr
  have hu1 : (A.deeper (envOfC "is_dues_order" (defScope sis_dues_order) s.heap.objs.size f cdv)).units + 1 < cLine := by
    omega
  refine ⟨_, (pss_cons (ps_if (PW.pt (pw_or (pt_not (pt_val (pe_callB call_isD (by rfl) B.isin bb_isin (pa_cons (pv 1) (pa_cons (pe_bltn (v := .ty "tuple") rfl B.tuple bb_tuple rfl) pa_nil))))) (pw_or1 (pt_not (pt_val (pe_callB (cr_all rfl) (by rfl) TA bb_all (pa_cons (pe_lc (own := [("name", 2)]) rfl sc_is_dues_order.nd (pi_tup (pv 1)) (blkOk_by (own := [("name", 2)]) (N := ["web", "thing", "name", "ahead", "place", "one"]) (sc := (defScope sis_dues_order)) (by decide +kernel)) (fun _ _ _ _ _ => (pg_name (i := 2) sc_is_dues_order.nd rfl (Or.inl rfl))) (fun _ _ _ _ _ => pts_nil) (fun _ _ _ _ _ => (pe_callB (call_isDK (K := K) rfl) (by rfl) B.isin bb_isin (pa_cons (pv 2) (pa_cons (pe_bltn (v := .ty "str") rfl B.str bb_str rfl) pa_nil))))) pa_nil)))))))
      (pss_one (ps_ret pe_bl))
      pss_nil)
    (pss_cons (ps_if (pt_cmpR (op_neW hu) (pe_callB cr_sortT (by rfl) TSO bb_sorted (pa_cons (pv 1) pa_nil)) (pc c_firm_names hg hr (by omega) (by rfl) (pa_cons (pv 0) pa_nil)) (nomark _))
      (pss_one (ps_ret pe_bl))
      pss_nil)
    (pss_cons (ps_set (i := 3) sc_is_dues_order.nd rfl (Or.inr rfl) (pc c_dues_ahead hg hr (by omega) (by rfl) (pa_cons (pv 0) pa_nil)))
    (pss_one (ps_ret (pe_callB (cr_all rfl) (by rfl) TA bb_all (pa_cons (pe_lc2 (vs1 := [5]) (own := [("place", 4), ("name", 2), ("one", 5)]) rfl sc_is_dues_order.nd (pi_enumT (by rfl) B.enum (pa_cons (pv 1) pa_nil)) (blkOk_by (own := [("place", 4), ("name", 2), ("one", 5)]) (N := ["web", "thing", "name", "ahead", "place", "one"]) (sc := (defScope sis_dues_order)) (by decide +kernel)) (by decide) (fun _ _ _ _ _ => (pg_tupK (K := K) (hK := rfl) (n := 2) rfl (pgs_cons (pg_name (i := 4) sc_is_dues_order.nd rfl (Or.inl rfl)) (pgs_cons (pg_name (i := 2) sc_is_dues_order.nd rfl (Or.inl rfl)) pgs_nil)))) (fun _ _ _ _ _ => pts_nil) (fun _ _ _ _ _ => (pi_listK (K := K) rfl (pe_dget hu1 (pv 3) (pv 2) (fun _ _ => rfl)))) (fun _ _ _ _ _ => (pg_name (i := 5) sc_is_dues_order.nd rfl (Or.inl rfl))) (fun _ _ _ _ _ => pts_nil) (fun _ _ _ _ _ => (pe_cmpR (op_inT (K := K) rfl) (pv 5) (pe_slice (sl_tupAK (K := K) rfl) (pv 1) po_none (po_some (pv 4))) (by rfl)))) pa_nil))))))), ?_⟩
  have hfew := hw.few
  have nsd := asc_nodup hw.asc
  have hnl : (fs.map nmS).length = fs.length := List.length_map _
  refine ⟨_, rfl, _, "tuple", mu, d, rfl, by decide, hd, _, rfl, ?_⟩
  refine iteN (fun ht => ?_) fun ht => ?_
  · refine iteT (k H false (.refl H) ⟨(fun z => nomatch z), fun ⟨cs, e, _⟩ => ?_⟩)
    rw [e] at ht
    simp [isT, tyName] at ht
  obtain ⟨ts, rfl⟩ := (isTup d).mp ht
  obtain ⟨p, us, rfl, hSp, hAp⟩ := hd.tupAt
  have hul := hAp.length
  have h4 := h4 ts rfl
  have sl := sizeLine_eq
  refine ⟨_, rfl, p, rfl, ⟨us, hSp⟩, fun D nD => lc_it (walk_tup (K := K) (xs := us) (a := p)) (fun i H' => Same H H' ∧ H' D = some (.lst (((ts.take i).map (isT "str")).map V.bl))) ⟨same_upd nD, by rw [upd_same]; rfl⟩ (fun i H' _ h => h.1.seqT hSp) ?_ ?_⟩
  · rintro i x H2 H3 hi ⟨s2, hD⟩ ⟨rfl, hx⟩
    obtain ⟨e, he, hxe⟩ := hAp.get hx
    refine ⟨rfl, _, rfl, _, "str", mu, e, rfl, by decide, hxe.fut (.of_same s2), _, hD, ?_, fun y o q => ?_, ?_⟩
    · rw [List.length_map, List.length_map, List.length_take]
      omega
    · rw [upd_ne (ne_of_none q nD)]
      exact s2 _ _ q
    · rw [upd_same, List.take_add_one, he, List.map_append, List.map_append]
      rfl
  rintro H2 ⟨s2, hD⟩
  rw [List.take_of_length_le (by omega)] at hD
  have eall : (ts.map (isT "str")).all id = ts.all (isT "str") := by
    rw [List.all_map]
    rfl
  refine ⟨D, _, rfl, .inl (.inl hD), _, rfl, ?_⟩
  rw [eall]
  refine iteN (fun hal => ?_) fun hal => ?_
  · refine k H2 false s2 ⟨(fun z => nomatch z), fun ⟨cs, e, c⟩ => ?_⟩
    have e2 : ts = cs.map PyData.str := PyData.tuple.inj e
    rw [e2, List.all_map] at hal
    obtain ⟨x, hx, hx2⟩ := List.all_eq_false.mp hal
    exact absurd (show isT "str" (.str x) = true from rfl) hx2
  obtain ⟨cs, rfl⟩ := all_isS hal
  have eus := dtA_only hAp
  subst eus
  rw [List.length_map] at h4
  have hS2 := s2.seqT hSp
  refine ⟨_, rfl, p, cs, rfl, hS2, fun ys q pm hss nq => ?_⟩
  have s3 := s2.trans (same_upd (o := .lst (ys.map V.str)) nq)
  refine ⟨_, rfl, a, xs, fs, rfl, s3.seqT hS, hA.fut (.of_same s3), hw, fun r H4 s4 nr hr => ?_⟩
  have hys := s4 _ _ (show upd H2 q (.lst (ys.map V.str)) q = _ from upd_same)
  refine ⟨fun _ => False, .list (ys.map PyData.str), .list ((fs.map nmS).map PyData.str), .lst id (.inl hys) (dtA_strs _), .lst id (.inl hr) (dtA_strs _), shaped_strs fun z hz => ok_strOk ho z (pm.mem_iff.mp hz), shaped_strs (wg_strOk hw), ?_⟩
  rw [show PyData.eqv (.list (ys.map PyData.str)) (.list ((fs.map nmS).map PyData.str)) = decide (ys = fs.map nmS) by
    rw [show PyData.eqv (.list (ys.map PyData.str)) (.list ((fs.map nmS).map PyData.str)) = PyData.eqvAll (ys.map PyData.str) ((fs.map nmS).map PyData.str) by rw [PyData.eqv], eqvAll_strs]]
  have s34 := s3.trans s4
  refine ⟨_, rfl, ?_⟩
  by_cases hye : ys = fs.map nmS
  rotate_left
  · rw [decide_eq_false hye]
    refine iteT (k H4 false s34 ⟨(fun z => nomatch z), fun ⟨cs', e, c1, _⟩ => ?_⟩)
    have e2 := str_map_inj (PyData.tuple.inj e)
    subst e2
    exact absurd ((names_asc (c1.nodup_iff.mpr nsd) (fun z => c1.mem_iff) pm hss).mpr hw.asc).symm hye
  have hperm : cs.Perm (fs.map nmS) := by
    rw [← hye]
    exact pm.symm
  have hcl : cs.length = fs.length := by rw [hperm.length_eq, hnl]
  rw [decide_eq_true hye]
  refine iteF ?_
  refine ⟨_, rfl, a, xs, fs, rfl, s34.seqT hS, hA.fut (.of_same s34), hw, fun dd H5 kvs s5 nd hd5 => ?_⟩
  have s35 := s34.trans s5
  have hS5 := s35.seqT hSp
  refine ⟨_, rfl, p, _, rfl, hS5, fun D2 nD2 => ?_⟩
  refine oc_it (walk_enumT (K := K) (a := p) (xs := cs.map V.str)) (fun i H' => Same H5 H' ∧ ∃ ws : List Bool, H' D2 = some (.lst (ws.map V.bl)) ∧ ws.length ≤ 6 * i ∧ (ws.all id = true ↔ ∀ (i' : Nat) (x : Str), i' < i → cs[i']? = some x → ∀ y ∈ owers fs x, y ∈ cs.take i')) ⟨same_upd nD2, [], by rw [upd_same]; rfl, Nat.le_refl _, ?_⟩ (fun i H' _ h => h.1.seqT hS5) ?_ ?_
  · exact ⟨(fun _ i' x h => absurd h (Nat.not_lt_zero _)), fun _ => rfl⟩
  · rintro i x H6 H7 hi ⟨s6, ws, hD6, hwl, hall⟩ ⟨T, x1, y1, rfl, nT, rfl, hx1, hy1⟩
    cases hx1
    obtain ⟨c, hc, rfl⟩ := str_at hy1
    rw [List.length_map] at hi
    have TD : T ≠ D2 := fun e => by rw [e, hD6] at nT; cases nT
    have sT := s6.trans (same_upd (o := .tup [V.int (i : Nat), V.str c]) nT)
    have hd7 := hd5.fut sT
    have hDT : upd H6 T (.tup [V.int (i : Nat), V.str c]) D2 = some (.lst (ws.map V.bl)) := by rw [upd_ne TD.symm]; exact hD6
    obtain ⟨la, hv1, hv2⟩ := hd5.val c (hperm.mem_iff.mp (List.mem_of_getElem? hc))
    have hol := owers_len fs c
    refine ⟨T, _, rfl, .of upd_same, rfl, _, _, rfl, _, _, rfl, rfl, rfl, ?_⟩
    generalize upd H6 T (.tup [V.int (i : Nat), V.str c]) = H7 at sT hd7 hDT
    refine ⟨_, rfl, _, rfl, dd, _, rfl, by rw [← hv1]; exact DGet.k (k := .inr c) hd7.dk, la, rfl, ⟨_, .inl (.inl (sT _ _ hv2))⟩, ?_⟩
    refine oc_it (walk_list (K := K) (a := la) (xs := (owers fs c).map V.str)) (fun j H' => Same H5 H' ∧ H' D2 = some (.lst ((ws ++ ((owers fs c).take j).map fun y => decide (y ∈ cs.take i)).map V.bl))) ⟨sT, by rw [hDT]; simp⟩ (fun j H' _ h => .inl (.inl (h.1 _ _ hv2))) ?_ ?_
    · rintro j x' H8 H9 hj ⟨s8, hD8⟩ ⟨rfl, hxj⟩
      obtain ⟨y, hy, rfl⟩ := str_at hxj
      refine ⟨rfl, _, rfl, _, rfl, nopart ⟨_, rfl, _, rfl, sl_use ((s35.trans s8).seqT hSp) fun p2 HA sA hp2 => ?_⟩⟩
      rw [cutV_upto, ← List.map_take] at hp2
      refine ⟨y, p2, cs.take i, rfl, rfl, .inr hp2, _, sA _ _ hD8, ?_, fun z o q => ?_, ?_⟩
      · rw [List.length_map, List.length_append, List.length_map, List.length_take]
        exact small1000 (by omega)
      · rw [upd_ne (ne_of_none q nD2)]
        exact sA _ _ (s8 _ _ q)
      · have et : ((owers fs c).take (j + 1)).map (fun y => decide (y ∈ cs.take i)) = ((owers fs c).take j).map (fun y => decide (y ∈ cs.take i)) ++ [decide (y ∈ cs.take i)] := by
          rw [List.take_add_one, hy, List.map_append]
          rfl
        rw [upd_same, et, ← List.append_assoc, List.map_append (l₂ := [decide (y ∈ cs.take i)])]
        rfl
    · rintro H8 ⟨s8, hD8⟩
      rw [List.length_map, List.take_length] at hD8
      refine ⟨s8, _, hD8, by rw [List.length_append, List.length_map]; omega, ?_⟩
      rw [List.all_append, Bool.and_eq_true, hall, List.all_map, List.all_eq_true]
      constructor
      · rintro ⟨h1, h2⟩ i' x hi' hx y hy
        rcases Nat.lt_succ_iff_lt_or_eq.mp hi' with q | q
        · exact h1 i' x q hx y hy
        · subst q
          rw [hc] at hx
          cases hx
          exact of_decide_eq_true (h2 y hy)
      · intro h
        exact ⟨fun i' x q => h i' x (by omega), fun y hy => decide_eq_true (h i c (Nat.lt_succ_self i) hc y hy)⟩
  · rintro H6 ⟨s6, ws, hD6, hwl, hall⟩
    refine ⟨D2, ws, rfl, .inl (.inl hD6), k H6 _ (s35.trans s6) ?_⟩
    rw [hall]
    constructor
    · intro h
      refine ⟨cs, rfl, hperm, fun i x hx => h i x ?_ hx⟩
      rw [List.length_map]
      exact (List.getElem?_eq_some_iff.mp hx).1
    · rintro ⟨cs', e, _, c2⟩ i' x _ hx
      have e2 := str_map_inj (PyData.tuple.inj e)
      subst e2
      exact c2 i' x hx
abbrev sis_clear : Stmt := topS 17
theorem sc_is_clear : FnScope ["web"] ["web"] (defScope sis_clear) := ⟨rfl, rfl, rfl, by decide +kernel, rfl, by decide +kernel, by decide +kernel⟩
theorem ok_is_clear {f : Addr} {fd : FuncData} (F : Fun K "is_clear" "is_clear" sis_clear f fd) (B : Bt mg) (c_is_founded : CalG P w K mg base 3 "is_founded" (spWg K fun fs => .bl (unfF fs).isNone)) (c_dues_order : CalG P w K mg base 5 "dues_order" (spMay K OrdR)) : FnG P w K mg base 6 f fd ["web"] (fun vs H Q _ => ∃ (a : Addr) (xs : List V) (fs : List PyData), vs = [.ref a] ∧ SqT K H a xs ∧ DtA K mT H xs fs ∧ Wg fs ∧ ∀ H' b, Same H H' → (b = true ↔ unfF fs = none ∧ ¬ Stuck (fs.map nmS) (owers fs)) → Q (.bl b) H') := by
  refine Fun.okG F sc_is_clear (fun vs H Q E h => ?_) (fun cdv A outer s H vs Q E hg hr h => ?_)
  · obtain ⟨_, _, _, rfl, _⟩ := h
    rfl
  obtain ⟨a, xs, fs, rfl, hS, hA, hw, k⟩ := h
  refine ⟨_, (pss_one (ps_ret (pe_and (pc c_is_founded hg hr (by omega) (by rfl) (pa_cons (pv 0) pa_nil)) (pe_one (pe_cmpR op_notN (pc c_dues_order hg hr (by omega) (by rfl) (pa_cons (pv 0) pa_nil)) pe_non (nomark _)))))), ?_⟩
  refine ⟨_, rfl, a, xs, fs, rfl, hS, hA, hw, fun H1 s1 => ?_⟩
  have e0 : (unfF fs).isNone = true ↔ unfF fs = none := Option.isNone_iff_eq_none
  refine ⟨_, rfl, iteB (fun h => ?_) fun h => ?_⟩
  · refine ⟨_, rfl, a, xs, fs, rfl, s1.seqT hS, hA.fut (.of_same s1), hw, fun H2 s2 st => ⟨rfl, ?_⟩, fun p H2 c s2 np hc hp => ⟨rfl, ?_⟩⟩
    · exact k H2 _ (s1.trans s2) ⟨fun z => by simp at z, fun z => absurd st z.2⟩
    · exact k H2 _ (s1.trans s2) ⟨fun _ => ⟨e0.mp h, hc.1⟩, fun _ => by simp⟩
  · exact k H1 false s1 ⟨(fun z => nomatch z), fun z => by rw [e0.mpr z.1] at h; cases h⟩
end
end K34
namespace K34
open PySem PySem.Spec PyProof.Rows L2 Sw StX RZ
/-- the firms' names, as a list -/
theorem lc_names {K : PySem.W.Frag} {H1 : Hp} {a D : Addr} {xs : List V} {fs : List PyData} {i : Nat} {nm : Str} {σ : L2.St} {Qd : Hp → Prop} (hi : i < σ.length) (hS : SqT K H1 a xs) (hA : DtA K mT H1 xs fs) (hw : Wg fs) (nD : H1 D = none)
    (k : ∀ H', Same H1 H' → H' D = some (.lst ((fs.map nmS).map V.str)) → Qd H') :
    ∃ W : Nat → Nat → Hp → Prop, (∃ m, W 0 m (upd H1 D (.lst []))) ∧ ∀ j m H, W j m H →
      ((Itt K a).stop j H ∧ Qd H) ∨ ((Itt K a).go j H ∧ ∃ Nx : Hp → Prop, (∀ H', Nx H' → ∃ m', m' < m ∧ W (j + 1) m' H') ∧ ∀ x H', (Itt K a).yld j H x H' → gName i x (wipe σ (List.map (fun x => x.snd) [(nm, i)])) H' fun σ2 H2 => wipe σ2 (List.map (fun x => x.snd) [(nm, i)]) = wipe σ (List.map (fun x => x.snd) [(nm, i)]) ∧ tYes σ2 H2 fun b H3 =>
        if b = true then tOp (rIxT K) (tVar i) (tC (V.int 0)) σ2 H3 fun y H4 => ∃ acc, H4 D = some (.lst acc) ∧ acc.length < sizeLine ∧ Nx (upd H4 D (.lst (acc ++ [y]))) else Nx H3) := by
  have hxl := hA.length
  have hfew := hw.few
  refine lc_it (walk_tup (K := K) (xs := xs) (a := a)) (fun j H' => Same H1 H' ∧ H' D = some (.lst (((fs.take j).map nmS).map V.str))) ⟨same_upd nD, by rw [upd_same]; rfl⟩ (fun j H' _ h => h.1.seqT hS) ?_ ?_
  · rintro j x H2 H3 hj ⟨s2, hD⟩ ⟨rfl, hx⟩
    obtain ⟨f1, n, r, a3, zs, hs, hf, fm⟩ := hw.open hA hx
    obtain ⟨af, rfl, hSf⟩ := fm.val
    have e1 : wipe ((wipe σ (List.map (fun x => x.snd) [(nm, i)])).set i (some (V.ref af))) (List.map (fun x => x.snd) [(nm, i)]) = wipe σ (List.map (fun x => x.snd) [(nm, i)]) := by
      simp only [wipe, List.map_cons, List.map_nil, List.foldl_cons, List.foldl_nil, List.set_set]
    refine ⟨e1, V.ref af, ?_, af, _, 0, .str n, rfl, rfl, s2.seqT hSf, atI_nat (j := 0) rfl, _, hD, ?_, fun y o q => ?_, ?_⟩
    · simp only [wipe, List.map_cons, List.map_nil, List.foldl_cons, List.foldl_nil, List.set_set]
      rw [List.getElem?_set_self hi]
    · rw [List.length_map, List.length_map, List.length_take]
      exact small1000 (by omega)
    · rw [upd_ne (ne_of_none q nD)]
      exact s2 _ _ q
    · rw [upd_same, List.take_add_one, hf, List.map_append, List.map_append, fm.eq]
      rfl
  · rintro H2 ⟨s2, hD⟩
    rw [List.take_of_length_le (by omega)] at hD
    exact k H2 s2 hD
section
variable {P : Program} {w : World} {K : PySem.W.Frag} {mg : Str → Option Value} {base : Heap}
def spPersL (K : PySem.W.Frag) : Sp := fun vs H Q _ => ∃ (a : Addr) (xs : List V) (fs : List PyData), vs = [.ref a] ∧ SqT K H a xs ∧ DtA K mT H xs fs ∧ Wg fs ∧ ∀ p H' ys, Same H H' → H p = none → PersL fs ys → H' p = some (.lst (ys.map V.str)) → Q (.ref p) H'
abbrev s_law_persons : Stmt := topS 35
theorem sc__law_persons : FnScope ["web", "names", "found", "firm", "name", "ranks", "holdings", "holder", "options"] ["web"] (defScope s_law_persons) := ⟨rfl, rfl, rfl, by decide +kernel, rfl, by decide +kernel, by decide +kernel⟩
theorem ok__law_persons {f : Addr} {fd : FuncData} (F : Fun K "_law_persons" "_law_persons" s_law_persons f fd) (B : Bt mg) (TSO : mg "sorted" = none) (TST : mg "set" = none) : FnG P w K mg base 1 f fd ["web"] (spPersL K) := by
  refine Fun.okG F sc__law_persons (fun vs H Q E h => ?_) (fun cdv A outer s H vs Q E hg hr h => ?_)
  · obtain ⟨_, _, _, rfl, _⟩ := h
    rfl
  obtain ⟨a, xs, fs, rfl, hS, hA, hw, k⟩ := h
  refine ⟨_, (pss_cons (ps_asg (pe_tup (pa_cons (pe_lc (own := [("firm", 3)]) rfl sc__law_persons.nd (pi_tup (pv 0)) (blkOk_by (own := [("firm", 3)]) (N := ["web", "names", "found", "firm", "name", "ranks", "holdings", "holder", "options"]) (sc := (defScope s_law_persons)) (by decide +kernel)) (fun _ _ _ _ _ => (pg_name (i := 3) sc__law_persons.nd rfl (Or.inl rfl))) (fun _ _ _ _ _ => pts_nil) (fun _ _ _ _ _ => (pe_ix (ix_tupK (K := K) rfl) (pv 3) pe_int (fun _ _ => rfl)))) (pa_cons (pe_lst pa_nil) pa_nil))) (pg_tup (n := 2) rfl (pgs_cons (pg_name (i := 1) sc__law_persons.nd rfl (Or.inr rfl)) (pgs_cons (pg_name (i := 2) sc__law_persons.nd rfl (Or.inl rfl)) pgs_nil))))
    (pss_cons (ps_for PassesOwn.never rfl (pi_tup (pv 0)) (pg_tup (n := 3) rfl (pgs_cons (pg_name (i := 4) sc__law_persons.nd rfl (Or.inl rfl)) (pgs_cons (pg_name (i := 5) sc__law_persons.nd rfl (Or.inl rfl)) (pgs_cons (pg_name (i := 6) sc__law_persons.nd rfl (Or.inl rfl)) pgs_nil))))
      (pss_one (ps_expr (pe_bm PySem.F.plainAttrs_list PySem.F.slot_list_extend PySem.F.type_list_extend mt_extend (pv 2) (pa_cons (pe_lc (own := [("holder", 7), ("options", 8)]) rfl sc__law_persons.nd (pi_tup (pv 6)) (blkOk_by (own := [("holder", 7), ("options", 8)]) (N := ["web", "names", "found", "firm", "name", "ranks", "holdings", "holder", "options"]) (sc := (defScope s_law_persons)) (by decide +kernel)) (fun _ _ _ _ _ => (pg_tupK (K := K) (hK := rfl) (n := 2) rfl (pgs_cons (pg_name (i := 7) sc__law_persons.nd rfl (Or.inl rfl)) (pgs_cons (pg_name (i := 8) sc__law_persons.nd rfl (Or.inl rfl)) pgs_nil)))) (fun _ _ _ _ _ => (pts_one (pt_cmpR (op_niT (K := K) rfl) (pv 7) (pv 1) (by rfl)))) (fun _ _ _ _ _ => (pv 7))) pa_nil)))))
    (pss_one (ps_ret (pe_callB (cr_sortY rfl) (by rfl) TSO bb_sorted (pa_cons (pe_callTy (cr_setY rfl) (by rfl) TST bb_set (pa_cons (pv 2) pa_nil)) pa_nil)))))), ?_⟩
  have hxl := hA.length
  have hfew := hw.few
  have hlean := hw.lean
  have sl := sizeLine_eq
  refine ⟨_, rfl, a, rfl, ⟨xs, hS⟩, fun Nm nN => lc_names (Nat.le_of_ble_eq_true rfl) hS hA hw nN fun H1 s1 hN => ⟨Nat.zero_le _, fun Fd nF => ⟨(by show 2 ≤ sizeLine; decide), fun tp ntp => ?_⟩⟩⟩
  have s2 := (same_upd (o := .lst []) nF).trans (same_upd (o := .tup [V.ref Nm, V.ref Fd]) ntp)
  refine ⟨tp, _, rfl, .of upd_same, rfl, _, _, rfl, _, _, rfl, rfl, ?_⟩
  have hF2 := same_upd (o := .tup [V.ref Nm, V.ref Fd]) ntp _ _ (show upd H1 Fd (.lst []) Fd = some (.lst []) from upd_same)
  have FdN : H Fd = none := same_none s1 nF
  generalize upd (upd H1 Fd (.lst [])) tp (.tup [V.ref Nm, V.ref Fd]) = H2 at s2 hF2
  have hN2 := s2 _ _ hN
  refine ⟨_, rfl, a, rfl, ⟨xs, (s1.trans s2).seqT hS⟩, for_it (walk_tup (K := K) (xs := xs) (a := a)) (fun i σ H' => ∃ (o4 o5 o6 : Option V), σ = [some (.ref a), some (.ref Nm), some (.ref Fd), none, o4, o5, o6, none, none] ∧ Same H1 H' ∧ H' Fd = some (.lst (((holdersL (fs.take i)).filter fun z => !decide (z ∈ fs.map nmS)).map V.str))) ⟨_, _, _, rfl, s2, hF2⟩ (fun i σ H' _ h => ?_) (fun i x σ H3 H4 hi h y => ?_) fun σ H3 h => ?_⟩
  · obtain ⟨_, _, _, _, h, _⟩ := h
    exact (s1.trans h).seqT hS
  · obtain ⟨o4, o5, o6, rfl, s3, hF3⟩ := h
    obtain ⟨rfl, hx⟩ := y
    obtain ⟨f1, n, r, a3, zs, hs, hf, fm⟩ := hw.open (hA.fut (.of_same s1)) hx
    obtain ⟨af, rfl, hSf⟩ := fm.val
    have hzl := fm.hdt.length
    have efh : hldL f1 = hs := by rw [fm.eq]; rfl
    have hpart := flat_part (g := hldL) hf
    rw [efh] at hpart
    have hl0 := holders_len (fs.take i)
    have hfl := List.length_filter_le (fun z => !decide (z ∈ fs.map nmS)) (holdersL (fs.take i))
    refine ⟨af, _, rfl, s3.seqT hSf, rfl, _, _, rfl, _, _, rfl, _, _, rfl, rfl, _, rfl, ty_lst hF3, _, rfl, a3, rfl, ⟨zs, s3.seqT fm.hsq⟩, fun D nD => lc_it (walk_tup (K := K) (xs := zs) (a := a3)) (fun j H' => Same H4 H' ∧ H' D = some (.lst ((((hs.take j).map hnS).filter fun z => !decide (z ∈ fs.map nmS)).map V.str))) ⟨same_upd nD, by rw [upd_same]; rfl⟩ (fun j H' _ h => (s3.trans h.1).seqT fm.hsq) ?_ ?_⟩
    · rintro j x H5 H6 hj ⟨s5, hD5⟩ ⟨rfl, hx2⟩
      obtain ⟨e, m, ao, ys, os, he, hv, hmn⟩ := fm.hold hx2
      obtain ⟨ah, rfl, hSh⟩ := hv.val
      have hm : ((hs.map hnS))[j]? = some m := by rw [List.getElem?_map, he, hv.eq]; rfl
      refine ⟨ah, _, rfl, (s3.trans s5).seqT hSh, rfl, _, _, rfl, _, _, rfl, rfl, rfl, _, rfl, _, rfl, m, Nm, fs.map nmS, rfl, rfl, .inl (.inl (.inl (s5 _ _ (s3 _ _ hN)))), _, rfl, iteB (fun hE => ?_) fun hE => ?_⟩
      · refine ⟨_, rfl, _, hD5, ?_, fun z o q => ?_, ?_⟩
        · rw [List.length_map]
          have := List.length_filter_le (fun z => !decide (z ∈ fs.map nmS)) ((hs.take j).map hnS)
          rw [List.length_map, List.length_take] at this
          omega
        · rw [upd_ne (ne_of_none q nD)]
          exact s5 _ _ q
        · rw [upd_same, List.map_take, List.map_take, filt_step hm, show (!decide (m ∈ fs.map nmS)) = true from hE]
          rfl
      · refine ⟨s5, ?_⟩
        rw [hD5, List.map_take, List.map_take, filt_step hm, show (!decide (m ∈ fs.map nmS)) = false from hE]
        simp
    · rintro H5 ⟨s5, hD5⟩
      rw [hzl, List.take_length] at hD5
      have hF5 := s5 _ _ hF3
      have hfl2 := List.length_filter_le (fun z => !decide (z ∈ fs.map nmS)) (hs.map hnS)
      rw [List.length_map] at hfl2
      refine ⟨Fd, D, _, _, rfl, rfl, hF5, hD5, by rw [List.length_map, List.length_map]; omega, _, _, _, rfl, fun z o q => ?_, ?_⟩
      · rw [upd_ne (fun e => by rw [e, nF] at q; cases q)]
        exact s5 _ _ (s3 _ _ q)
      · rw [upd_same, ← List.map_append, ← List.filter_append]
        unfold holdersL
        rw [flat_take hf, efh]
  · obtain ⟨o4, o5, o6, rfl, s3, hF3⟩ := h
    rw [List.take_of_length_le (by omega)] at hF3
    have hl1 := holders_len fs
    have hfl := List.length_filter_le (fun z => !decide (z ∈ fs.map nmS)) (holdersL fs)
    refine ⟨_, rfl, Fd, _, rfl, .inl (.inl hF3), by omega, fun p4 m nd ml hmm np4 => ⟨p4, m, rfl, upd_same, ml, fun ys p5 hpm hss np5 => ?_⟩⟩
    refine k p5 _ ys ((s1.trans s3).trans ((same_upd np4).trans (same_upd np5))) (same_none ((s1.trans s3).trans (same_upd np4)) np5) ⟨hss, hpm.nodup_iff.mpr nd, fun z => ?_, by rw [hpm.length_eq]; exact ml⟩ upd_same
    rw [hpm.mem_iff, hmm z, List.mem_filter]
    simp
def spOwes (K : PySem.W.Frag) : Sp := fun vs H Q _ => ∃ (a : Addr) (xs : List V) (fs : List PyData) (p h : Str), vs = [.ref a, .str p, .str h] ∧ SqT K H a xs ∧ DtA K mT H xs fs ∧ Wg fs ∧ ∀ H', Same H H' → Q (.bl (decide (p ∈ owers fs h))) H'
abbrev s_law_owes : Stmt := topS 40
theorem sc__law_owes : FnScope ["web", "payer", "holder", "name", "ranks", "holdings", "one", "options", "claim"] ["web", "payer", "holder"] (defScope s_law_owes) := ⟨rfl, rfl, rfl, by decide +kernel, rfl, by decide +kernel, by decide +kernel⟩
theorem ok__law_owes {f : Addr} {fd : FuncData} (F : Fun K "_law_owes" "_law_owes" s_law_owes f fd) (B : Bt mg) (c__law_has_due : CalG P w K mg base 51 "_law_has_due" (spDueL K 50)) : FnG P w K mg base 52 f fd ["web", "payer", "holder"] (spOwes K) := by
  refine Fun.okG F sc__law_owes (fun vs H Q E h => ?_) (fun cdv A outer s H vs Q E hg hr h => ?_)
  · obtain ⟨_, _, _, _, _, rfl, _⟩ := h
    rfl
  obtain ⟨a, xs, fs, pp, hh, rfl, hS, hA, hw, k⟩ := h
  have hu := Room.u64 hr
  refine ⟨_, (pss_cons (ps_for PassesOwn.never rfl (pi_tup (pv 0)) (pg_tup (n := 3) rfl (pgs_cons (pg_name (i := 3) sc__law_owes.nd rfl (Or.inl rfl)) (pgs_cons (pg_name (i := 4) sc__law_owes.nd rfl (Or.inl rfl)) (pgs_cons (pg_name (i := 5) sc__law_owes.nd rfl (Or.inl rfl)) pgs_nil))))
      (pss_one (ps_if (pt_cmpR op_eq (pv 3) (pv 1) (nomark _))
        (pss_one (ps_for PassesOwn.never rfl (pi_tup (pv 5)) (pg_tup (n := 2) rfl (pgs_cons (pg_name (i := 6) sc__law_owes.nd rfl (Or.inl rfl)) (pgs_cons (pg_name (i := 7) sc__law_owes.nd rfl (Or.inl rfl)) pgs_nil)))
          (pss_one (ps_if (PW.pt (pw_and (pt_cmpR op_eq (pv 6) (pv 2) (nomark _)) (pw_and1 (pt_cmpR (op_neNil (K := K) rfl hu) (pe_lc (own := [("claim", 8)]) rfl sc__law_owes.nd (pi_tup (pv 7)) (blkOk_by (own := [("claim", 8)]) (N := ["web", "payer", "holder", "name", "ranks", "holdings", "one", "options", "claim"]) (sc := (defScope s_law_owes)) (by decide +kernel)) (fun _ _ _ _ _ => (pg_name (i := 8) sc__law_owes.nd rfl (Or.inl rfl))) (fun _ _ _ _ _ => (pts_one (pt_val (pc c__law_has_due hg hr (by omega) (by rfl) (pa_cons (pv 8) pa_nil))))) (fun _ _ _ _ _ => (pv 8))) (pe_lst pa_nil) (nomark _)))))
            (pss_one (ps_ret pe_bl))
            pss_nil))))
        pss_nil)))
    (pss_one (ps_ret pe_bl))), ?_⟩
  have hxl := hA.length
  have hfew := hw.few
  have nsd := asc_nodup hw.asc
  have sl := sizeLine_eq
  have hno : ∀ {i : Nat} {f1 : PyData}, fs[i]? = some f1 → pp ∉ owers (fs.take i) hh → (nmS f1 = pp → (hldL f1).any (hdDue hh) = false) → pp ∉ owers (fs.take (i + 1)) hh := fun {i f1} hf h1 h2 => by
    rw [← gF_end hf]
    unfold gF
    rw [List.take_length]
    intro q
    rcases List.mem_append.mp q with q | q
    · exact h1 q
    · by_cases e : (hldL f1).any (hdDue hh) = true
      · rw [if_pos e] at q
        have := h2 (List.mem_singleton.mp q).symm
        rw [e] at this
        cases this
      · rw [if_neg e] at q
        cases q
  refine ⟨_, rfl, a, rfl, ⟨xs, hS⟩, for_it (walk_tup (K := K) (xs := xs) (a := a)) (fun i σ H' => ∃ (o3 o4 o5 o6 o7 : Option V), σ = [some (.ref a), some (.str pp), some (.str hh), o3, o4, o5, o6, o7, none] ∧ Same H H' ∧ pp ∉ owers (fs.take i) hh) ⟨_, _, _, _, _, rfl, .refl _, fun q => by cases q⟩ (fun i σ H' _ h => ?_) (fun i x σ H3 H4 hi h y => ?_) fun σ H3 h => ?_⟩
  · obtain ⟨_, _, _, _, _, _, h, _⟩ := h
    exact h.seqT hS
  · obtain ⟨o3, o4, o5, o6, o7, rfl, s3, hni⟩ := h
    obtain ⟨rfl, hx⟩ := y
    obtain ⟨f1, n, r, a3, zs, hs, hf, fm⟩ := hw.open hA hx
    obtain ⟨af, rfl, hSf⟩ := fm.val
    have hzl := fm.hdt.length
    have efh : hldL f1 = hs := by rw [fm.eq]; rfl
    have efn : nmS f1 = n := by rw [fm.eq]; rfl
    refine ⟨af, _, rfl, s3.seqT hSf, rfl, _, _, rfl, _, _, rfl, _, _, rfl, rfl, _, rfl, _, rfl, rfl, _, rfl, iteP (fun e0 => ?_) fun e0 => ?_⟩
    · have e1 : n = pp := V.str.inj e0
      subst e1
      refine ⟨_, rfl, a3, rfl, ⟨zs, s3.seqT fm.hsq⟩, for_it (walk_tup (K := K) (xs := zs) (a := a3)) (fun j σ H' => ∃ (o6 o7 : Option V), σ = [some (.ref a), some (.str n), some (.str hh), some (.str n), some (.int r), some (.ref a3), o6, o7, none] ∧ Same H H' ∧ (hs.take j).any (hdDue hh) = false) ⟨_, _, rfl, s3, rfl⟩ (fun j σ H' _ h => ?_) (fun j x σ H5 H6 hj h y => ?_) fun σ H5 h => ?_⟩
      · obtain ⟨_, _, _, h, _⟩ := h
        exact h.seqT fm.hsq
      · obtain ⟨o6, o7, rfl, s5, hnj⟩ := h
        obtain ⟨rfl, hx2⟩ := y
        obtain ⟨e, m, ao, ys, os, he, hv, hmn⟩ := fm.hold hx2
        obtain ⟨ah, rfl, hSh⟩ := hv.val
        have ht : hs.take (j + 1) = hs.take j ++ [e] := by
          rw [List.take_add_one, he]
          rfl
        have hdd : hdDue hh e = (decide (m = hh) && os.any dueD) := by rw [hv.eq]; rfl
        refine ⟨ah, _, rfl, s5.seqT hSh, rfl, _, _, rfl, _, _, rfl, rfl, _, rfl, _, rfl, rfl, _, rfl, iteP (fun e2 => ?_) fun e2 => ?_⟩
        · have e3 : m = hh := V.str.inj e2
          subst e3
          rw [decide_eq_true rfl, Bool.true_and] at hdd
          have hol := hv.odt.length
          have hfew2 := hv.few
          refine ⟨_, rfl, ao, rfl, ⟨ys, s5.seqT hv.osq⟩, fun D nD => lc_it (walk_tup (K := K) (xs := ys) (a := ao)) (fun i' H' => Same H H' ∧ ∃ ws, H' D = some (.lst ws) ∧ ws.length ≤ i' ∧ (ws = [] ↔ (os.take i').any dueD = false)) ⟨s5.trans (same_upd nD), [], upd_same, Nat.le_refl _, by simp⟩ (fun i' H' _ h => h.1.seqT hv.osq) ?_ ?_⟩
          · rintro i' x H7 H8 hi' ⟨s7, ws, hD7, hwl, hall⟩ ⟨rfl, hx'⟩
            obtain ⟨o, ho, hxo⟩ := hv.odt.get hx'
            have ht2 : os.take (i' + 1) = os.take i' ++ [o] := by
              rw [List.take_add_one, ho]
              rfl
            have hco := hv.cm o (List.mem_of_getElem? ho)
            refine ⟨rfl, _, rfl, r, x, o, rfl, hxo.fut (.of_same s7), hco, hco.ok.dp, fun H9 s9 => ⟨_, rfl, iteB (fun hd1 => ?_) fun hd1 => ?_⟩⟩
            · refine ⟨_, rfl, ws, s9 _ _ hD7, by omega, fun b o' z => ?_, ws ++ [x], upd_same, by rw [List.length_append]; show ws.length + 1 ≤ i' + 1; omega, ?_⟩
              · rw [upd_ne (fun e => by rw [e] at z; exact absurd z (by rw [same_none s5 nD]; exact fun t => nomatch t))]
                exact s9 _ _ (s7 b o' z)
              · rw [ht2, List.any_append, List.any_cons, hd1]
                constructor
                · intro q
                  simp at q
                · intro q
                  simp at q
            · refine ⟨s7.trans s9, ws, s9 _ _ hD7, by omega, ?_⟩
              rw [ht2, List.any_append, List.any_cons, hd1, List.any_nil, Bool.or_false, Bool.or_false]
              exact hall
          rintro H7 ⟨s7, ws, hD7, hwl, hall⟩
          rw [List.take_of_length_le (by omega)] at hall
          refine ⟨Nat.zero_le _, fun q2 nq2 => ?_⟩
          have s8 := same_upd (o := .lst []) nq2
          refine ⟨D, q2, ws, rfl, rfl, .inl (.inl (s8 _ _ hD7)), .inl (.inl upd_same), _, rfl, ?_⟩
          cases hq : os.any dueD with
          | true =>
            rw [decide_eq_false fun z => by rw [hall.mp z] at hq; cases hq]
            refine iteT ?_
            have hin : n ∈ owers fs m := by
              refine List.mem_map.mpr ⟨f1, List.mem_filter.mpr ⟨List.mem_of_getElem? hf, ?_⟩, efn⟩
              rw [efh]
              exact List.any_eq_true.mpr ⟨e, List.mem_of_getElem? he, by rw [hdd, hq]⟩
            have kk := k _ (s7.trans s8)
            rw [decide_eq_true hin] at kk
            exact kk
          | false =>
            rw [decide_eq_true (hall.mpr hq)]
            refine iteF ⟨_, _, rfl, s7.trans s8, ?_⟩
            rw [ht, List.any_append, hnj, List.any_cons, hdd, hq]
            rfl
        · have e3 : m ≠ hh := fun z => e2 (by rw [z])
          rw [decide_eq_false e3, Bool.false_and] at hdd
          refine ⟨_, _, rfl, s5, ?_⟩
          rw [ht, List.any_append, hnj, List.any_cons, hdd]
          rfl
      · obtain ⟨o6, o7, rfl, s5, hnj⟩ := h
        rw [List.take_of_length_le (by omega)] at hnj
        exact ⟨_, _, _, _, _, rfl, s5, hno hf hni fun _ => by rw [efh]; exact hnj⟩
    · exact ⟨_, _, _, _, _, rfl, s3, hno hf hni fun z => absurd (by rw [← efn, z]) e0⟩
  · obtain ⟨o3, o4, o5, o6, o7, rfl, s3, hni⟩ := h
    rw [List.take_of_length_le (by omega)] at hni
    have kk := k _ s3
    rw [decide_eq_false hni] at kk
    exact kk
end
end K34
namespace K34
open PySem PySem.Spec PyProof.Rows L2 Sw StX RZ
/-- one of the list is ahead of it -/
def heldB (G : Str → List Str) (L : List Str) (x : Str) : Bool := L.any fun y => decide (y ≠ x) && decide (y ∈ G x)
def peelN (G : Str → List Str) (ns : List Str) : Nat → List Str
  | 0 => ns
  | n + 1 => (peelN G ns n).filter (heldB G (peelN G ns n))
theorem peel_sub (G : Str → List Str) (ns : List Str) : ∀ n, ∀ x ∈ peelN G ns n, x ∈ ns
  | 0, x, h => h
  | n + 1, x, h => peel_sub G ns n x (List.mem_filter.mp h).1
theorem peel_len (G : Str → List Str) (ns : List Str) : ∀ n, (peelN G ns n).length ≤ ns.length
  | 0 => Nat.le_refl _
  | n + 1 => Nat.le_trans (List.length_filter_le _ _) (peel_len G ns n)
theorem peel_stuck {G : Str → List Str} {ns : List Str} (irr : ∀ x, x ∉ G x) : peelN G ns ns.length ≠ [] ↔ Stuck ns G := by
  constructor
  · intro h
    have key : ∀ n, (peelN G ns n).length + n ≤ ns.length ∨ ∀ x ∈ peelN G ns n, heldB G (peelN G ns n) x = true := fun n => by
      induction n with
      | zero => exact .inl (Nat.le_refl _)
      | succ n ih =>
        have stay : (∀ x ∈ peelN G ns n, heldB G (peelN G ns n) x = true) → ∀ x ∈ peelN G ns (n + 1), heldB G (peelN G ns (n + 1)) x = true := fun q => by
          have e : peelN G ns (n + 1) = peelN G ns n := List.filter_eq_self.mpr q
          rw [e]
          exact q
        rcases ih with ih | ih
        · by_cases q : (peelN G ns (n + 1)).length = (peelN G ns n).length
          · exact .inr (stay (List.length_filter_eq_length_iff.mp q))
          · have := List.length_filter_le (heldB G (peelN G ns n)) (peelN G ns n)
            have e : peelN G ns (n + 1) = (peelN G ns n).filter (heldB G (peelN G ns n)) := rfl
            rw [← e] at this
            exact .inl (by omega)
        · exact .inr (stay ih)
    rcases key ns.length with q | q
    · exact absurd (List.eq_nil_of_length_eq_zero (by omega)) h
    · refine ⟨_, h, peel_sub G ns _, fun x hx => ?_⟩
      obtain ⟨y, hy, h2⟩ := List.any_eq_true.mp (q x hx)
      rw [Bool.and_eq_true] at h2
      exact ⟨y, of_decide_eq_true h2.2, hy⟩
  · rintro ⟨S, h0, h1, h2⟩ e
    have key : ∀ n, ∀ x ∈ S, x ∈ peelN G ns n := fun n => by
      induction n with
      | zero => exact h1
      | succ n ih =>
        intro x hx
        obtain ⟨y, hy, hyS⟩ := h2 x hx
        refine List.mem_filter.mpr ⟨ih x hx, List.any_eq_true.mpr ⟨y, ih y hyS, ?_⟩⟩
        rw [Bool.and_eq_true]
        exact ⟨decide_eq_true fun z => irr x (z ▸ hy), decide_eq_true hy⟩
    obtain ⟨x, hx⟩ := List.exists_mem_of_ne_nil S h0
    have := key ns.length x hx
    rw [e] at this
    exact absurd this List.not_mem_nil
theorem peel_two (L : List Str) (p : Str → Bool) : (L.filter fun x => !decide (x ∈ L.filter fun y => !p y)) = L.filter p := by
  refine List.filter_congr fun x hx => ?_
  cases q : p x with
  | true =>
    have : x ∉ L.filter fun y => !p y := fun h => by
      have := (List.mem_filter.mp h).2
      rw [q] at this
      cases this
    rw [decide_eq_false this]
    rfl
  | false =>
    have : x ∈ L.filter fun y => !p y := List.mem_filter.mpr ⟨hx, by rw [q]; rfl⟩
    rw [decide_eq_true this]
    rfl
section
variable {P : Program} {w : World} {K : PySem.W.Frag} {mg : Str → Option Value} {base : Heap}
def spStuck (K : PySem.W.Frag) : Sp := fun vs H Q _ => ∃ (a : Addr) (xs : List V) (fs : List PyData), vs = [.ref a] ∧ SqT K H a xs ∧ DtA K mT H xs fs ∧ Wg fs ∧ ∀ H' b, Same H H' → (b = true ↔ Stuck (fs.map nmS) (owers fs)) → Q (.bl b) H'
abbrev s_law_has_circle : Stmt := topS 41
theorem sc__law_has_circle : FnScope ["web", "left", "firm", "turn", "free", "one", "other"] ["web"] (defScope s_law_has_circle) := ⟨rfl, rfl, rfl, by decide +kernel, rfl, by decide +kernel, by decide +kernel⟩
theorem ok__law_has_circle {f : Addr} {fd : FuncData} (F : Fun K "_law_has_circle" "_law_has_circle" s_law_has_circle f fd) (B : Bt mg) (c__law_owes : CalG P w K mg base 52 "_law_owes" (spOwes K)) : FnG P w K mg base 53 f fd ["web"] (spStuck K) := by
  refine Fun.okG F sc__law_has_circle (fun vs H Q E h => ?_) (fun cdv A outer s H vs Q E hg hr h => ?_)
  · obtain ⟨_, _, _, rfl, _⟩ := h
    rfl
  obtain ⟨a, xs, fs, rfl, hS, hA, hw, k⟩ := h
  have hu := Room.u64 hr
  refine ⟨_, (pss_cons (ps_set (i := 1) sc__law_has_circle.nd rfl (Or.inr rfl) (pe_lc (own := [("firm", 2)]) rfl sc__law_has_circle.nd (pi_tup (pv 0)) (blkOk_by (own := [("firm", 2)]) (N := ["web", "left", "firm", "turn", "free", "one", "other"]) (sc := (defScope s_law_has_circle)) (by decide +kernel)) (fun _ _ _ _ _ => (pg_name (i := 2) sc__law_has_circle.nd rfl (Or.inl rfl))) (fun _ _ _ _ _ => pts_nil) (fun _ _ _ _ _ => (pe_ix (ix_tupK (K := K) rfl) (pv 2) pe_int (fun _ _ => rfl)))))
    (pss_cons (ps_for PassesOwn.never rfl (pi_range1 (by rfl) B.range (pa_cons (pe_callB call_lenA (by rfl) B.len boot_len (pa_cons (pv 0) pa_nil)) pa_nil)) (pg_name (i := 3) sc__law_has_circle.nd rfl (Or.inl rfl))
      (pss_cons (ps_set (i := 4) sc__law_has_circle.nd rfl (Or.inr rfl) (pe_lc (own := [("one", 5)]) rfl sc__law_has_circle.nd (pi_list (pv 1)) (blkOk_by (own := [("one", 5)]) (N := ["web", "left", "firm", "turn", "free", "one", "other"]) (sc := (defScope s_law_has_circle)) (by decide +kernel)) (fun _ _ _ _ _ => (pg_name (i := 5) sc__law_has_circle.nd rfl (Or.inr rfl))) (fun _ _ _ _ _ => (pts_one (pt_cmpR (op_eqNil (K := K) rfl hu) (pe_lc (own := [("other", 6)]) rfl sc__law_has_circle.nd (pi_listK (K := K) rfl (pv 1)) (blkOk_by (own := [("other", 6)]) (N := ["web", "left", "firm", "turn", "free", "one", "other"]) (by rfl)) (fun _ _ _ _ _ => (pg_name (i := 6) sc__law_has_circle.nd rfl (Or.inl rfl))) (fun _ _ _ _ _ => (pts_one (PW.pt (pw_and (pt_cmpR op_ne (pv 6) (pv 5) (nomark _)) (pw_and1 (pt_val (pc c__law_owes hg hr (by omega) (by rfl) (pa_cons (pv 0) (pa_cons (pv 6) (pa_cons (pv 5) pa_nil)))))))))) (fun _ _ _ _ _ => (pv 6))) (pe_lst pa_nil) (nomark _)))) (fun _ _ _ _ _ => (pv 5))))
      (pss_one (ps_set (i := 1) sc__law_has_circle.nd rfl (Or.inr rfl) (pe_lc (own := [("one", 5)]) rfl sc__law_has_circle.nd (pi_list (pv 1)) (blkOk_by (own := [("one", 5)]) (N := ["web", "left", "firm", "turn", "free", "one", "other"]) (sc := (defScope s_law_has_circle)) (by decide +kernel)) (fun _ _ _ _ _ => (pg_name (i := 5) sc__law_has_circle.nd rfl (Or.inl rfl))) (fun _ _ _ _ _ => (pts_one (pt_cmpR (op_niT (K := K) rfl) (pv 5) (pv 4) (by rfl)))) (fun _ _ _ _ _ => (pv 5)))))))
    (pss_one (ps_ret (pe_cmpR (op_neNil (K := K) rfl hu) (pv 1) (pe_lst pa_nil) (nomark _)))))), ?_⟩
  have hxl := hA.length
  have hfew := hw.few
  have nsd := asc_nodup hw.asc
  have hnl : (fs.map nmS).length = fs.length := List.length_map _
  have sl := sizeLine_eq
  refine ⟨_, rfl, a, rfl, ⟨xs, hS⟩, fun Nm nN => lc_names (Nat.le_of_ble_eq_true rfl) hS hA hw nN fun H1 s1 hN => ?_⟩
  have irr := owers_irr hw.all
  have b62 : (fs.length : Int) < 2 ^ 62 := by
    have : (2 : Int) ^ 62 = 4611686018427387904 := by decide
    omega
  refine ⟨_, rfl, _, fs.length, rfl, .inr ⟨_, s1.seqT hS, hxl.symm⟩, (fs.length : Int), rfl, by omega, by omega, for_it (walk_range (lo := 0) (n := (fs.length : Int).toNat)) (fun i σ H' => ∃ (Lf : Addr) (o3 o4 : Option V), σ = [some (.ref a), some (.ref Lf), none, o3, o4, none, none] ∧ Same H1 H' ∧ H' Lf = some (.lst ((peelN (owers fs) (fs.map nmS) i).map V.str))) ⟨Nm, _, _, rfl, .refl _, hN⟩ (fun _ _ _ _ _ => trivial) (fun i x σ H3 H4 hi h y => ?_) fun σ H3 h => ?_⟩
  · obtain ⟨Lf, o3, o4, rfl, s3, hL⟩ := h
    obtain ⟨rfl, rfl⟩ := y
    have hpl := peel_len (owers fs) (fs.map nmS) i
    have hps := peel_sub (owers fs) (fs.map nmS) i
    have e1 : peelN (owers fs) (fs.map nmS) (i + 1) = (peelN (owers fs) (fs.map nmS) i).filter (heldB (owers fs) (peelN (owers fs) (fs.map nmS) i)) := rfl
    generalize peelN (owers fs) (fs.map nmS) (i + 1) = L1 at e1
    generalize peelN (owers fs) (fs.map nmS) i = L at hL hpl hps e1
    refine ⟨_, rfl, Lf, rfl, ⟨_, .inl (.inl hL)⟩, fun D nD => ?_⟩
    refine lc_it (walk_list (K := K) (a := Lf) (xs := L.map V.str)) (fun j H' => Same H4 H' ∧ H' D = some (.lst (((L.take j).filter fun z => !heldB (owers fs) L z).map V.str))) ⟨same_upd nD, by rw [upd_same]; rfl⟩ (fun j H' _ h => .inl (.inl (h.1 _ _ hL))) ?_ ?_
    · rintro j x H5 H6 hj ⟨s5, hD5⟩ ⟨rfl, hx⟩
      obtain ⟨z, hz, rfl⟩ := str_at hx
      have hL6 := s5 _ _ hL
      refine ⟨rfl, _, rfl, Lf, rfl, ⟨_, .inl (.inl hL6)⟩, fun D2 nD2 => ?_⟩
      refine lc_it (walk_list (K := K) (a := Lf) (xs := L.map V.str)) (fun j' H' => Same H6 H' ∧ H' D2 = some (.lst (((L.take j').filter fun y => decide (y ≠ z) && decide (y ∈ owers fs z)).map V.str))) ⟨same_upd nD2, by rw [upd_same]; rfl⟩ (fun j H' _ h => .inl (.inl (h.1 _ _ hL6))) ?_ ?_
      · rintro j' x H7 H8 hj' ⟨s7, hD7⟩ ⟨rfl, hx'⟩
        obtain ⟨y, hy, rfl⟩ := str_at hx'
        have hlen := List.length_filter_le (fun y => decide (y ≠ z) && decide (y ∈ owers fs z)) (L.take j')
        rw [List.length_take] at hlen
        refine ⟨rfl, _, rfl, _, rfl, rfl, _, rfl, ?_⟩
        by_cases ey : y = z
        · subst ey
          rw [decide_eq_true rfl]
          refine iteF ⟨s7, ?_⟩
          rw [hD7, filt_step hy]
          simp
        · rw [decide_eq_false fun q => ey (V.str.inj q)]
          refine iteT ?_
          refine ⟨_, rfl, _, rfl, _, rfl, a, xs, fs, y, z, rfl, (s1.trans (s3.trans (s5.trans s7))).seqT hS, hA.fut (.of_same (s1.trans (s3.trans (s5.trans s7)))), hw, fun H9 s9 => ⟨_, rfl, iteP (fun ho => ?_) fun ho => ?_⟩⟩
          · refine ⟨_, rfl, _, s9 _ _ hD7, ?_, fun b o q => ?_, ?_⟩
            · rw [List.length_map]
              exact small1000 (by omega)
            · rw [upd_ne (ne_of_none q nD2)]
              exact s9 _ _ (s7 _ _ q)
            · rw [upd_same, filt_step hy, if_pos (by rw [decide_eq_true ey, decide_eq_true ho]; rfl)]
          · refine ⟨s7.trans s9, ?_⟩
            rw [s9 _ _ hD7, filt_step hy, if_neg (by rw [decide_eq_true ey, decide_eq_false ho]; exact Bool.false_ne_true), List.append_nil]
      · rintro H7 ⟨s7, hD7⟩
        rw [List.length_map, List.take_length] at hD7
        refine ⟨Nat.zero_le _, fun q2 nq2 => ?_⟩
        have s8 := same_upd (o := .lst []) nq2
        refine ⟨D2, q2, _, rfl, rfl, .inl (.inl (s8 _ _ hD7)), .inl (.inl upd_same), _, rfl, ?_⟩
        have eh : decide ((L.filter fun y => decide (y ≠ z) && decide (y ∈ owers fs z)).map V.str = []) = !heldB (owers fs) L z := by
          unfold heldB
          cases q : L.any fun y => decide (y ≠ z) && decide (y ∈ owers fs z) with
          | true =>
            refine decide_eq_false fun t => ?_
            obtain ⟨y, hy, h2⟩ := List.any_eq_true.mp q
            have : y ∈ L.filter fun y => decide (y ≠ z) && decide (y ∈ owers fs z) := List.mem_filter.mpr ⟨hy, h2⟩
            rw [List.map_eq_nil_iff.mp t] at this
            exact absurd this List.not_mem_nil
          | false =>
            refine decide_eq_true ?_
            rw [List.map_eq_nil_iff, List.filter_eq_nil_iff]
            intro y hy h2
            have := List.any_eq_false.mp q y hy
            exact this h2
        rw [eh]
        have hlen := List.length_filter_le (fun z => !heldB (owers fs) L z) (L.take j)
        rw [List.length_take] at hlen
        have s78 := s7.trans s8
        refine iteB (fun hh => ?_) fun hh => ?_
        · refine ⟨_, rfl, _, s78 _ _ hD5, ?_, fun b o q => ?_, ?_⟩
          · rw [List.length_map]
            exact small1000 (by omega)
          · rw [upd_ne (ne_of_none q nD)]
            exact s78 _ _ (s5 _ _ q)
          · rw [upd_same, filt_step hz, if_pos hh]
        · refine ⟨s5.trans s78, ?_⟩
          rw [s78 _ _ hD5, filt_step hz, if_neg (by rw [hh]; exact Bool.false_ne_true), List.append_nil]
    · rintro H5 ⟨s5, hD5⟩
      rw [List.length_map, List.take_length] at hD5
      have hL5 := s5 _ _ hL
      refine ⟨_, rfl, Lf, rfl, ⟨_, .inl (.inl hL5)⟩, fun D3 nD3 => ?_⟩
      refine lc_it (walk_list (K := K) (a := Lf) (xs := L.map V.str)) (fun j H' => Same H5 H' ∧ H' D3 = some (.lst (((L.take j).filter fun z => !decide (z ∈ L.filter fun y => !heldB (owers fs) L y)).map V.str))) ⟨same_upd nD3, by rw [upd_same]; rfl⟩ (fun j H' _ h => .inl (.inl (h.1 _ _ hL5))) ?_ ?_
      · rintro j x H6 H7 hj ⟨s6, hD6⟩ ⟨rfl, hx⟩
        obtain ⟨z, hz, rfl⟩ := str_at hx
        have hlen := List.length_filter_le (fun z => !decide (z ∈ L.filter fun y => !heldB (owers fs) L y)) (L.take j)
        rw [List.length_take] at hlen
        refine ⟨rfl, _, rfl, _, rfl, z, D, _, rfl, rfl, .inl (.inl (.inl (s6 _ _ hD5))), _, rfl, iteB (fun hh => ?_) fun hh => ?_⟩
        · refine ⟨_, rfl, _, hD6, ?_, fun b o q => ?_, ?_⟩
          · rw [List.length_map]
            exact small1000 (by omega)
          · rw [upd_ne (ne_of_none q nD3)]
            exact s6 _ _ q
          · rw [upd_same, filt_step hz, if_pos (show (!decide (z ∈ L.filter fun y => !heldB (owers fs) L y)) = true from hh)]
        · refine ⟨s6, ?_⟩
          rw [hD6, filt_step hz, if_neg (by rw [show (!decide (z ∈ L.filter fun y => !heldB (owers fs) L y)) = false from hh]; exact Bool.false_ne_true), List.append_nil]
      · rintro H6 ⟨s6, hD6⟩
        rw [List.length_map, List.take_length, peel_two] at hD6
        exact ⟨D3, _, _, rfl, s3.trans (s5.trans s6), by rw [hD6, e1]⟩
  · obtain ⟨Lf, o3, o4, rfl, s3, hL⟩ := h
    refine ⟨_, rfl, Nat.zero_le _, fun q2 nq2 => ?_⟩
    have s8 := same_upd (o := .lst []) nq2
    refine ⟨Lf, q2, _, rfl, rfl, .inl (.inl (s8 _ _ hL)), .inl (.inl upd_same), ?_⟩
    refine k _ _ (s1.trans (s3.trans s8)) ?_
    rw [Int.toNat_natCast, ← hnl, ← peel_stuck irr]
    simp
abbrev s_law_no_founder : Stmt := topS 42
theorem sc__law_no_founder : FnScope ["web", "names", "firm", "name", "ranks", "holdings", "plain", "holder", "options"] ["web"] (defScope s_law_no_founder) := ⟨rfl, rfl, rfl, by decide +kernel, rfl, by decide +kernel, by decide +kernel⟩
theorem ok__law_no_founder {f : Addr} {fd : FuncData} (F : Fun K "_law_no_founder" "_law_no_founder" s_law_no_founder f fd) (B : Bt mg) : FnG P w K mg base 1 f fd ["web"] (spWg K fun fs => optV (unfF fs)) := by
  refine Fun.okG F sc__law_no_founder (fun vs H Q E h => ?_) (fun cdv A outer s H vs Q E hg hr h => ?_)
  · obtain ⟨_, _, _, rfl, _⟩ := h
    rfl
  obtain ⟨a, xs, fs, rfl, hS, hA, hw, k⟩ := h
  have hu := Room.u64 hr
  refine ⟨_, (pss_cons (ps_set (i := 1) sc__law_no_founder.nd rfl (Or.inr rfl) (pe_lc (own := [("firm", 2)]) rfl sc__law_no_founder.nd (pi_tup (pv 0)) (blkOk_by (own := [("firm", 2)]) (N := ["web", "names", "firm", "name", "ranks", "holdings", "plain", "holder", "options"]) (sc := (defScope s_law_no_founder)) (by decide +kernel)) (fun _ _ _ _ _ => (pg_name (i := 2) sc__law_no_founder.nd rfl (Or.inl rfl))) (fun _ _ _ _ _ => pts_nil) (fun _ _ _ _ _ => (pe_ix (ix_tupK (K := K) rfl) (pv 2) pe_int (fun _ _ => rfl)))))
    (pss_cons (ps_for PassesOwn.never rfl (pi_tup (pv 0)) (pg_tup (n := 3) rfl (pgs_cons (pg_name (i := 3) sc__law_no_founder.nd rfl (Or.inl rfl)) (pgs_cons (pg_name (i := 4) sc__law_no_founder.nd rfl (Or.inl rfl)) (pgs_cons (pg_name (i := 5) sc__law_no_founder.nd rfl (Or.inl rfl)) pgs_nil))))
      (pss_cons (ps_setLc (i := 6) (own := [("holder", 7), ("options", 8)]) rfl sc__law_no_founder.nd rfl rfl (sw_true rfl rfl rfl (by decide +kernel)) (pi_tup (pv 5)) (blkOk_by (own := [("holder", 7), ("options", 8)]) (N := ["web", "names", "firm", "name", "ranks", "holdings", "plain", "holder", "options"]) (sc := (defScope s_law_no_founder)) (by decide +kernel)) (fun _ _ _ _ _ => (pg_tupK (K := K) (hK := rfl) (n := 2) rfl (pgs_cons (pg_name (i := 7) sc__law_no_founder.nd rfl (Or.inl rfl)) (pgs_cons (pg_name (i := 8) sc__law_no_founder.nd rfl (Or.inl rfl)) pgs_nil)))) (fun _ _ _ _ _ => (pts_one (PW.pt (pw_and (pt_cmpR op_eq (pe_callB (call_lenK (K := K) rfl) (by rfl) B.len boot_len (pa_cons (pv 8) pa_nil)) pe_int (nomark _)) (pw_and1 (pt_cmpR op_eq (pe_ix (ix_tupK (K := K) rfl) (pe_ix (ix_tupK (K := K) rfl) (pv 8) pe_int (fun _ _ => rfl)) pe_int (fun _ _ => rfl)) pe_str (nomark _))))))) (fun _ _ _ _ _ => (pv 7)))
      (pss_one (ps_if (pt_cmpR (op_eqNil (K := K) rfl hu) (pe_lc (own := [("holder", 7)]) rfl sc__law_no_founder.nd (pi_list (pv 6)) (blkOk_by (own := [("holder", 7)]) (N := ["web", "names", "firm", "name", "ranks", "holdings", "plain", "holder", "options"]) (sc := (defScope s_law_no_founder)) (by decide +kernel)) (fun _ _ _ _ _ => (pg_name (i := 7) sc__law_no_founder.nd rfl (Or.inl rfl))) (fun _ _ _ _ _ => (pts_one (pt_cmpR (op_niT (K := K) rfl) (pv 7) (pv 1) (by rfl)))) (fun _ _ _ _ _ => (pv 7))) (pe_lst pa_nil) (nomark _))
        (pss_one (ps_ret (pv 3)))
        pss_nil))))
    (pss_one (ps_ret pe_non)))), ?_⟩
  have hxl := hA.length
  have hfew := hw.few
  have hlean := hw.lean
  have sl := sizeLine_eq
  have k2 : ∀ H', Same H H' → Q (optV (unfF fs)) H' := k
  refine ⟨_, rfl, a, rfl, ⟨xs, hS⟩, fun Nm nN => lc_names (Nat.le_of_ble_eq_true rfl) hS hA hw nN fun H1 s1 hN => ?_⟩
  refine ⟨_, rfl, a, rfl, ⟨xs, s1.seqT hS⟩, for_it (walk_tup (K := K) (xs := xs) (a := a)) (fun i σ H' => ∃ (o3 o4 o5 o6 : Option V), σ = [some (.ref a), some (.ref Nm), none, o3, o4, o5, o6, none, none] ∧ Same H1 H' ∧ ∀ f ∈ fs.take i, fndF (fs.map nmS) f = true) ⟨_, _, _, _, rfl, .refl _, fun f h => nomatch h⟩ (fun i σ H' _ h => ?_) (fun i x σ H3 H4 hi h y => ?_) fun σ H3 h => ?_⟩
  · obtain ⟨_, _, _, _, _, h, _⟩ := h
    exact (s1.trans h).seqT hS
  · obtain ⟨o3, o4, o5, o6, rfl, s2, hall⟩ := h
    obtain ⟨rfl, hx⟩ := y
    obtain ⟨f1, n, r, a3, zs, hs, hf, fm⟩ := hw.open (hA.fut (.of_same s1)) hx
    obtain ⟨af, rfl, hSf⟩ := fm.val
    have hzl := fm.hdt.length
    have efh : hldL f1 = hs := by rw [fm.eq]; rfl
    have efn : nmS f1 = n := by rw [fm.eq]; rfl
    have hpart := flat_part (g := hldL) hf
    rw [efh] at hpart
    refine ⟨af, _, rfl, s2.seqT hSf, rfl, _, _, rfl, _, _, rfl, _, _, rfl, rfl, ?_⟩
    refine ⟨_, rfl, a3, rfl, ⟨zs, s2.seqT fm.hsq⟩, fun D nD => lc_it (walk_tup (K := K) (xs := zs) (a := a3)) (fun j H' => Same H4 H' ∧ H' D = some (.lst ((((hs.take j).filter fun h => fndO (optL h)).map hnS).map V.str))) ⟨same_upd nD, by rw [upd_same]; rfl⟩ (fun j H' _ h => (s2.trans h.1).seqT fm.hsq) ?_ ?_⟩
    · rintro j x H5 H6 hj ⟨s5, hD⟩ ⟨rfl, hx2⟩
      obtain ⟨e, m, ao, ys, os, he, hv, hmn⟩ := fm.hold hx2
      obtain ⟨ah, rfl, hSh⟩ := hv.val
      have s6 := s2.trans s5
      have hoS := s6.seqT hv.osq
      have hoA := hv.odt.fut (.of_same s6)
      have hzl2 := hoA.length
      have eo : optL e = os := by rw [hv.eq]; rfl
      have en : hnS e = m := by rw [hv.eq]; rfl
      have ht : ((hs.take (j + 1)).filter fun h => fndO (optL h)).map hnS = ((hs.take j).filter fun h => fndO (optL h)).map hnS ++ if fndO os = true then [m] else [] := by
        rw [List.take_add_one, he, List.filter_append, List.map_append]
        simp only [Option.toList_some, List.filter_cons, List.filter_nil, eo]
        split
        · rw [List.map_cons, List.map_nil, en]
        · rfl
      have hlen := List.length_filter_le (fun h => fndO (optL h)) (hs.take j)
      rw [List.length_take] at hlen
      have finT : fndO os = true → ∃ acc, H6 D = some (.lst acc) ∧ acc.length < sizeLine ∧ Same H4 (upd H6 D (.lst (acc ++ [.str m]))) ∧ upd H6 D (.lst (acc ++ [.str m])) D = some (.lst ((((hs.take (j + 1)).filter fun h => fndO (optL h)).map hnS).map V.str)) := fun q => by
        refine ⟨_, hD, ?_, fun b o z => ?_, ?_⟩
        · rw [List.length_map, List.length_map]
          omega
        · rw [upd_ne (ne_of_none z nD)]
          exact s5 _ _ z
        · rw [upd_same, ht, if_pos q, List.map_append]
          rfl
      have finF : fndO os = false → Same H4 H6 ∧ H6 D = some (.lst ((((hs.take (j + 1)).filter fun h => fndO (optL h)).map hnS).map V.str)) := fun q => by
        refine ⟨s5, ?_⟩
        rw [hD, ht, if_neg (by rw [q]; exact Bool.false_ne_true), List.append_nil]
      obtain ⟨c, cs, rfl⟩ : ∃ c cs, os = c :: cs := by
        cases os with
        | nil => exact absurd rfl hv.one
        | cons c cs => exact ⟨_, _, rfl⟩
      obtain ⟨w0, ps, rfl, _, _⟩ := clm_tup (hv.cm c List.mem_cons_self).clm
      refine ⟨ah, _, rfl, s6.seqT hSh, rfl, _, _, rfl, _, _, rfl, rfl, rfl, _, rfl, _, ys.length, rfl, .inr ⟨_, hoS, rfl⟩, rfl, _, rfl, iteEq (fun h1 => ?_) fun h1 => ?_⟩
      · have h1' : cs = [] := by
          have : (cs.length + 1 : Nat) = 1 := by
            rw [← List.length_cons (a := PyData.tuple (.str w0 :: ps)), ← hzl2]
            omega
          exact List.eq_nil_of_length_eq_zero (by omega)
        subst h1'
        obtain ⟨y, _, rfl, ee, r1⟩ := hoA.one rfl
        cases ee
        obtain ⟨a2, us, rfl, hS2, hA2⟩ := r1.tupAt
        cases hA2 with
        | @cons y ys' _ _ hy hys =>
        cases hy
        refine ⟨_, rfl, ao, _, 0, _, rfl, rfl, hoS, atI_nat (j := 0) rfl, a2, _, 0, _, rfl, rfl, hS2, atI_nat (j := 0) rfl, rfl, _, rfl, iteP (fun e0 => ?_) fun e0 => ?_⟩
        · exact ⟨_, rfl, finT (decide_eq_true (V.str.inj e0))⟩
        · exact finF (decide_eq_false fun z => e0 (by rw [z]))
      · refine finF ?_
        cases cs with
        | nil => exact absurd (by rw [hzl2]; rfl) h1
        | cons _ _ => rfl
    rintro H5 ⟨s5, hD⟩
    rw [hzl, List.take_length] at hD
    have hlen := List.length_filter_le (fun h => fndO (optL h)) hs
    refine ⟨_, rfl, D, rfl, ⟨_, .inl (.inl hD)⟩, fun D2 nD2 => ?_⟩
    have eany : fndF (fs.map nmS) f1 = ((hs.filter fun h => fndO (optL h)).map hnS).any fun z => !decide (z ∈ fs.map nmS) := by
      unfold fndF
      rw [efh, List.any_map, List.any_filter]
      rfl
    generalize hgen : (hs.filter fun h => fndO (optL h)).map hnS = PL at hD eany
    have hPL : PL.length ≤ 3500 := by
      rw [← hgen, List.length_map]
      omega
    refine lc_it (walk_list (K := K) (a := D) (xs := PL.map V.str)) (fun j H' => Same H5 H' ∧ H' D2 = some (.lst (((PL.take j).filter fun z => !decide (z ∈ fs.map nmS)).map V.str))) ⟨same_upd nD2, by rw [upd_same]; rfl⟩ (fun j H' _ h => .inl (.inl (h.1 _ _ hD))) ?_ ?_
    · rintro j x H6 H7 hj ⟨s6, hD6⟩ ⟨rfl, hx⟩
      obtain ⟨z, hz, rfl⟩ := str_at hx
      have hlen2 := List.length_filter_le (fun z => !decide (z ∈ fs.map nmS)) (PL.take j)
      rw [List.length_take] at hlen2
      refine ⟨rfl, _, rfl, _, rfl, z, Nm, fs.map nmS, rfl, rfl, .inl (.inl (.inl (s6 _ _ (s5 _ _ (s2 _ _ hN))))), _, rfl, iteB (fun hh => ?_) fun hh => ?_⟩
      · refine ⟨_, rfl, _, hD6, ?_, fun b o q => ?_, ?_⟩
        · rw [List.length_map]
          omega
        · rw [upd_ne (ne_of_none q nD2)]
          exact s6 _ _ q
        · rw [upd_same, filt_step hz, if_pos (show (!decide (z ∈ fs.map nmS)) = true from hh)]
      · refine ⟨s6, ?_⟩
        rw [hD6, filt_step hz, if_neg (by rw [show (!decide (z ∈ fs.map nmS)) = false from hh]; exact Bool.false_ne_true), List.append_nil]
    · rintro H6 ⟨s6, hD6⟩
      rw [List.length_map, List.take_length] at hD6
      refine ⟨Nat.zero_le _, fun q2 nq2 => ?_⟩
      have s8 := same_upd (o := .lst []) nq2
      refine ⟨D2, q2, _, rfl, rfl, .inl (.inl (s8 _ _ hD6)), .inl (.inl upd_same), _, rfl, ?_⟩
      have sF := s2.trans (s5.trans (s6.trans s8))
      cases hq : PL.any fun z => !decide (z ∈ fs.map nmS) with
      | true =>
        have ne : (PL.filter fun z => !decide (z ∈ fs.map nmS)).map V.str ≠ [] := fun t => by
          obtain ⟨y, hy, h2⟩ := List.any_eq_true.mp hq
          have : y ∈ PL.filter fun z => !decide (z ∈ fs.map nmS) := List.mem_filter.mpr ⟨hy, h2⟩
          rw [List.map_eq_nil_iff.mp t] at this
          exact absurd this List.not_mem_nil
        rw [decide_eq_false ne]
        refine iteF ⟨_, _, _, _, rfl, sF, fun f hf2 => ?_⟩
        rw [List.take_add_one, hf] at hf2
        rcases List.mem_append.mp hf2 with q | q
        · exact hall f q
        · have : f = f1 := by simpa using q
          rw [this, eany, hq]
      | false =>
        have en : (PL.filter fun z => !decide (z ∈ fs.map nmS)).map V.str = [] := by
          rw [List.map_eq_nil_iff, List.filter_eq_nil_iff]
          intro y hy h2
          exact (List.any_eq_false.mp hq y hy) h2
        rw [decide_eq_true en]
        refine iteT ?_
        rw [hq] at eany
        have e : unfF fs = some n := by
          unfold unfF
          have hq : fs.find? (fun f => !fndF (fs.map nmS) f) = some f1 := by
            rw [List.find?_eq_some_iff_getElem]
            obtain ⟨hl, ee⟩ := List.getElem?_eq_some_iff.mp hf
            refine ⟨by rw [eany]; rfl, i, hl, ee, fun j hj => ?_⟩
            rw [hall fs[j] (List.mem_take_iff_getElem.mpr ⟨j, by omega, rfl⟩)]
            rfl
          rw [hq, ← efn]
          rfl
        rw [e] at k2
        exact ⟨_, rfl, k2 _ (s1.trans sF)⟩
  · obtain ⟨o2, o3, o4, o5, rfl, s2, hall⟩ := h
    rw [List.take_of_length_le (by omega)] at hall
    have e : unfF fs = none := by
      unfold unfF
      rw [List.find?_eq_none.mpr fun f hf => by rw [hall f hf]; decide]
      rfl
    rw [e] at k2
    exact k2 H3 (s1.trans s2)
end
end K34
namespace K34
open PySem PySem.Spec PyProof.Rows L2 Sw StX RZ
theorem rot_at {cs : List Str} {j : Nat} (h : j < cs.length) : (cs.drop 1 ++ cs.take 1)[j]? = cs[(j + 1) % cs.length]? := by
  by_cases q : j + 1 < cs.length
  · rw [List.getElem?_append_left (by rw [List.length_drop]; omega), List.getElem?_drop, Nat.mod_eq_of_lt q, Nat.add_comm]
  · have e : j + 1 = cs.length := by omega
    rw [List.getElem?_append_right (by rw [List.length_drop]; omega), List.length_drop, e, Nat.mod_self, show j - (cs.length - 1) = 0 by omega, List.getElem?_take]
    rfl
theorem ord_iff {cs ns : List Str} {G : Str → List Str} (pm : cs.Perm ns) (nd : ns.Nodup) (irr : ∀ x, x ∉ G x) (hG : ∀ x, ∀ y ∈ G x, y ∈ ns) :
    (∀ (i : Nat) (x : Str), cs[i]? = some x → ∀ y ∈ G x, y ∈ cs.take i) ↔ ∀ (i : Nat) (x : Str), cs[i]? = some x → ∀ y ∈ cs.drop (i + 1), y ∉ G x := by
  have cn := pm.nodup_iff.mpr nd
  constructor
  · intro h i x hx y hy hyG
    have hd := cn
    rw [← List.take_append_drop (i + 1) cs, List.nodup_append] at hd
    have h1 := h i x hx y hyG
    refine hd.2.2 y ?_ y hy rfl
    rw [List.take_add_one]
    exact List.mem_append_left _ h1
  · intro h i x hx y hy
    have hm := pm.mem_iff.mpr (hG x y hy)
    rw [← List.take_append_drop (i + 1) cs, List.take_add_one, hx] at hm
    rcases List.mem_append.mp hm with q | q
    · rcases List.mem_append.mp q with q | q
      · exact q
      · have : y = x := by simpa using q
        exact absurd (this ▸ hy) (irr x)
    · exact absurd hy (h i x hx y q)
section
variable {P : Program} {w : World} {K : PySem.W.Frag} {mg : Str → Option Value} {base : Heap}
abbrev s_law_is_circle : Stmt := topS 45
theorem sc__law_is_circle : FnScope ["web", "thing", "names", "firm", "one", "other"] ["web", "thing"] (defScope s_law_is_circle) := ⟨rfl, rfl, rfl, by decide +kernel, rfl, by decide +kernel, by decide +kernel⟩
theorem ok__law_is_circle {f : Addr} {fd : FuncData} (F : Fun K "_law_is_circle" "_law_is_circle" s_law_is_circle f fd) (B : Bt mg) (TST : mg "set" = none) (c__law_owes : CalG P w K mg base 52 "_law_owes" (spOwes K)) : FnG P w K mg base 53 f fd ["web", "thing"] (spJudge K IsCirc) := by
  refine Fun.okG F sc__law_is_circle (fun vs H Q E h => ?_) (fun cdv A outer s H vs Q E hg hr h => ?_)
  · obtain ⟨_, _, _, _, _, _, rfl, _⟩ := h
    rfl
  obtain ⟨a, xs, fs, v, mu, d, rfl, hS, hA, hw, hd, ho, h4, k⟩ := h
  have hu := Room.u64 hr
  refine ⟨_, (pss_cons (ps_set (i := 2) sc__law_is_circle.nd rfl (Or.inr rfl) (pe_lc (own := [("firm", 3)]) rfl sc__law_is_circle.nd (pi_tup (pv 0)) (blkOk_by (own := [("firm", 3)]) (N := ["web", "thing", "names", "firm", "one", "other"]) (sc := (defScope s_law_is_circle)) (by decide +kernel)) (fun _ _ _ _ _ => (pg_name (i := 3) sc__law_is_circle.nd rfl (Or.inl rfl))) (fun _ _ _ _ _ => pts_nil) (fun _ _ _ _ _ => (pe_ix (ix_tupK (K := K) rfl) (pv 3) pe_int (fun _ _ => rfl)))))
    (pss_cons (ps_if (PW.pt (pw_or (pt_not (pt_val (pe_callB call_isD (by rfl) B.isin bb_isin (pa_cons (pv 1) (pa_cons (pe_bltn (v := .ty "tuple") rfl B.tuple bb_tuple rfl) pa_nil))))) (pw_or (pt_cmpR op_lt (pe_callB call_lenA (by rfl) B.len boot_len (pa_cons (pv 1) pa_nil)) pe_int (nomark _)) (pw_or1 (pt_cmpR (op_neNil (K := K) rfl hu) (pe_lc (own := [("one", 4)]) rfl sc__law_is_circle.nd (pi_tup (pv 1)) (blkOk_by (own := [("one", 4)]) (N := ["web", "thing", "names", "firm", "one", "other"]) (sc := (defScope s_law_is_circle)) (by decide +kernel)) (fun _ _ _ _ _ => (pg_name (i := 4) sc__law_is_circle.nd rfl (Or.inl rfl))) (fun _ _ _ _ _ => (pts_one (pt_not (pt_val (pe_callB (call_isDK (K := K) rfl) (by rfl) B.isin bb_isin (pa_cons (pv 4) (pa_cons (pe_bltn (v := .ty "str") rfl B.str bb_str rfl) pa_nil))))))) (fun _ _ _ _ _ => (pv 4))) (pe_lst pa_nil) (nomark _))))))
      (pss_one (ps_ret pe_bl))
      pss_nil)
    (pss_cons (ps_if (PW.pt (pw_or (pt_cmpR (op_neNil (K := K) rfl hu) (pe_lc (own := [("one", 4)]) rfl sc__law_is_circle.nd (pi_tup (pv 1)) (blkOk_by (own := [("one", 4)]) (N := ["web", "thing", "names", "firm", "one", "other"]) (sc := (defScope s_law_is_circle)) (by decide +kernel)) (fun _ _ _ _ _ => (pg_name (i := 4) sc__law_is_circle.nd rfl (Or.inl rfl))) (fun _ _ _ _ _ => (pts_one (pt_cmpR (op_niT (K := K) rfl) (pv 4) (pv 2) (by rfl)))) (fun _ _ _ _ _ => (pv 4))) (pe_lst pa_nil) (nomark _)) (pw_or1 (pt_cmpR op_lt (pe_callB (cr_lenX) (by rfl) B.len boot_len (pa_cons (pe_callTy (cr_setU rfl) (by rfl) TST bb_set (pa_cons (pv 1) pa_nil)) pa_nil)) (pe_callB call_lenA (by rfl) B.len boot_len (pa_cons (pv 1) pa_nil)) (nomark _)))))
      (pss_one (ps_ret pe_bl))
      pss_nil)
    (pss_one (ps_ret (pe_cmpR (op_eqNil (K := K) rfl hu) (pe_lc (own := [("one", 4), ("other", 5)]) rfl sc__law_is_circle.nd (pi_zipA (by rfl) B.zip (pa_cons (pv 1) (pa_cons (pe_op op_catA (pe_slice sl_tupA (pv 1) (po_some pe_int) po_none) (pe_slice sl_tupA (pv 1) po_none (po_some pe_int))) pa_nil))) (blkOk_by (own := [("one", 4), ("other", 5)]) (N := ["web", "thing", "names", "firm", "one", "other"]) (sc := (defScope s_law_is_circle)) (by decide +kernel)) (fun _ _ _ _ _ => (pg_tupK (K := K) (hK := rfl) (n := 2) rfl (pgs_cons (pg_name (i := 4) sc__law_is_circle.nd rfl (Or.inl rfl)) (pgs_cons (pg_name (i := 5) sc__law_is_circle.nd rfl (Or.inl rfl)) pgs_nil)))) (fun _ _ _ _ _ => (pts_one (pt_not (pt_val (pc c__law_owes hg hr (by omega) (by rfl) (pa_cons (pv 0) (pa_cons (pv 4) (pa_cons (pv 5) pa_nil)))))))) (fun _ _ _ _ _ => pe_int)) (pe_lst pa_nil) (nomark _))))))), ?_⟩
  have hfew := hw.few
  have nsd := asc_nodup hw.asc
  have hnl : (fs.map nmS).length = fs.length := List.length_map _
  have sl := sizeLine_eq
  refine ⟨_, rfl, a, rfl, ⟨xs, hS⟩, fun Nm nN => lc_names (Nat.le_of_ble_eq_true rfl) hS hA hw nN fun H1 s1 hN => ?_⟩
  refine ⟨_, rfl, _, "tuple", mu, d, rfl, by decide, hd.fut (.of_same s1), _, rfl, ?_⟩
  refine iteN (fun ht => ?_) fun ht => ?_
  · refine iteT (k H1 false s1 ⟨(fun z => nomatch z), fun ⟨cs, e, _⟩ => ?_⟩)
    rw [e] at ht
    simp [isT, tyName] at ht
  obtain ⟨ts, rfl⟩ := (isTup d).mp ht
  obtain ⟨p, us, rfl, hSp, hAp⟩ := hd.tupAt
  have hul := hAp.length
  have h4 := h4 ts rfl
  have hS1 := s1.seqT hSp
  have hA1 := hAp.fut (.of_same s1)
  refine ⟨_, rfl, _, us.length, rfl, .inr ⟨_, hS1, rfl⟩, _, _, rfl, rfl, _, rfl, iteP (fun hl2 => ?_) fun hl2 => ?_⟩
  · refine k H1 false s1 ⟨(fun z => nomatch z), fun ⟨cs, e, c⟩ => ?_⟩
    have e2 : ts = cs.map PyData.str := PyData.tuple.inj e
    have := c.two
    rw [e2, List.length_map] at hul
    omega
  refine ⟨_, rfl, p, rfl, ⟨us, hS1⟩, fun D nD => ?_⟩
  refine lc_it (walk_tup (K := K) (xs := us) (a := p)) (fun j H' => Same H1 H' ∧ ∃ ws, H' D = some (.lst ws) ∧ ws.length ≤ j ∧ (ws = [] ↔ (ts.take j).all (isT "str") = true)) ⟨same_upd nD, [], upd_same, Nat.le_refl _, by simp⟩ (fun j H' _ h => h.1.seqT hS1) ?_ ?_
  · rintro j x H2 H3 hj ⟨s2, ws, hD, hwl, hall⟩ ⟨rfl, hx⟩
    obtain ⟨e, he, hxe⟩ := hA1.get hx
    have ht2 : ts.take (j + 1) = ts.take j ++ [e] := by
      rw [List.take_add_one, he]
      rfl
    refine ⟨rfl, _, rfl, x, "str", mu, e, rfl, by decide, hxe.fut (.of_same s2), _, rfl, iteN (fun hc => ?_) fun hc => ?_⟩
    · refine ⟨_, rfl, ws, hD, by omega, fun b o z => ?_, ws ++ [x], upd_same, by rw [List.length_append]; show ws.length + 1 ≤ j + 1; omega, ?_⟩
      · rw [upd_ne (ne_of_none z nD)]
        exact s2 _ _ z
      · rw [ht2, List.all_append, List.all_cons, hc]
        constructor
        · intro q
          simp at q
        · intro q
          simp at q
    · refine ⟨s2, ws, hD, by omega, ?_⟩
      rw [ht2, List.all_append, List.all_cons, hc, List.all_nil, Bool.and_true, Bool.and_true]
      exact hall
  rintro H2 ⟨s2, ws, hD, hwl, hall⟩
  rw [List.take_of_length_le (by omega)] at hall
  refine ⟨Nat.zero_le _, fun q2 nq2 => ?_⟩
  have s3 := same_upd (o := .lst []) nq2
  refine ⟨D, q2, ws, rfl, rfl, .inl (.inl (s3 _ _ hD)), .inl (.inl upd_same), _, rfl, ?_⟩
  have s13 := s1.trans (s2.trans s3)
  by_cases hst : ts.all (isT "str") = true
  rotate_left
  · rw [decide_eq_false fun z => hst (hall.mp z)]
    refine iteT (k _ false s13 ⟨(fun z => nomatch z), fun ⟨cs, e, c⟩ => ?_⟩)
    have e2 : ts = cs.map PyData.str := PyData.tuple.inj e
    rw [e2, List.all_map] at hst
    exact absurd (List.all_eq_true.mpr fun x _ => rfl) hst
  rw [decide_eq_true (hall.mpr hst)]
  refine iteF ?_
  obtain ⟨cs, rfl⟩ := all_isS hst
  have eus := dtA_only hAp
  subst eus
  rw [List.length_map] at h4
  rw [List.length_map] at hl2 hul
  have hN3 := (s2.trans s3) _ _ hN
  have hS3 := s13.seqT hSp
  have h13 : Same H1 (upd H2 q2 (.lst [])) := s2.trans s3
  generalize upd H2 q2 (.lst []) = H3 at s13 hN3 hS3 h13
  refine ⟨_, rfl, p, rfl, ⟨_, hS3⟩, fun D2 nD2 => ?_⟩
  refine lc_it (walk_tup (K := K) (xs := cs.map V.str) (a := p)) (fun j H' => Same H3 H' ∧ H' D2 = some (.lst (((cs.take j).filter fun z => !decide (z ∈ fs.map nmS)).map V.str))) ⟨same_upd nD2, by rw [upd_same]; rfl⟩ (fun j H' _ h => h.1.seqT hS3) ?_ ?_
  · rintro j x H6 H7 hj ⟨s6, hD6⟩ ⟨rfl, hx⟩
    obtain ⟨z, hz, rfl⟩ := str_at hx
    have hlen2 := List.length_filter_le (fun z => !decide (z ∈ fs.map nmS)) (cs.take j)
    rw [List.length_take] at hlen2
    refine ⟨rfl, _, rfl, _, rfl, z, Nm, fs.map nmS, rfl, rfl, .inl (.inl (.inl (s6 _ _ hN3))), _, rfl, iteB (fun hh => ?_) fun hh => ?_⟩
    · refine ⟨_, rfl, _, hD6, ?_, fun b o q => ?_, ?_⟩
      · rw [List.length_map]
        omega
      · rw [upd_ne (ne_of_none q nD2)]
        exact s6 _ _ q
      · rw [upd_same, filt_step hz, if_pos (show (!decide (z ∈ fs.map nmS)) = true from hh)]
    · refine ⟨s6, ?_⟩
      rw [hD6, filt_step hz, if_neg (by rw [show (!decide (z ∈ fs.map nmS)) = false from hh]; exact Bool.false_ne_true), List.append_nil]
  rintro H4 ⟨s4, hD4⟩
  rw [List.length_map, List.take_length] at hD4
  refine ⟨Nat.zero_le _, fun q3 nq3 => ?_⟩
  have s5 := same_upd (o := .lst []) nq3
  refine ⟨D2, q3, _, rfl, rfl, .inl (.inl (s5 _ _ hD4)), .inl (.inl upd_same), _, rfl, ?_⟩
  have s15 := s13.trans (s4.trans s5)
  by_cases hin : ∀ x ∈ cs, x ∈ fs.map nmS
  rotate_left
  · have ne : (cs.filter fun z => !decide (z ∈ fs.map nmS)).map V.str ≠ [] := fun t => hin fun x hx => by
      rw [List.map_eq_nil_iff, List.filter_eq_nil_iff] at t
      have := t x hx
      simpa using this
    rw [decide_eq_false ne]
    refine iteT (k _ false s15 ⟨(fun z => nomatch z), fun ⟨cs', e, c⟩ => ?_⟩)
    have e2 := str_map_inj (PyData.tuple.inj e)
    subst e2
    exact absurd c.sub hin
  have en : (cs.filter fun z => !decide (z ∈ fs.map nmS)).map V.str = [] := by
    rw [List.map_eq_nil_iff, List.filter_eq_nil_iff]
    intro y hy h2
    simp [hin y hy] at h2
  rw [decide_eq_true en]
  refine iteF ?_
  have hS5 := s15.seqT hSp
  refine ⟨_, rfl, p, cs, rfl, hS5, h4, fun q m ndm ml hmm nq => ⟨q, m, rfl, upd_same, ml, _, rfl, _, cs.length, rfl, .inr ⟨_, (same_upd nq).seqT hS5, by rw [List.length_map]⟩, _, _, rfl, rfl, _, rfl, ?_⟩⟩
  have hfull := set_full ndm hmm
  have hfew2 := set_few ndm hmm
  have s16 := s15.trans (same_upd (o := SetXO P w q m) nq)
  refine iteP (fun hlt => ?_) fun hlt => ?_
  · refine k _ false s16 ⟨(fun z => nomatch z), fun ⟨cs', e, c⟩ => ?_⟩
    have e2 := str_map_inj (PyData.tuple.inj e)
    subst e2
    have := hfull.mpr c.nd
    omega
  have hcn : cs.Nodup := hfull.mp (by omega)
  have hS6 := s16.seqT hSp
  have hpos : 2 ≤ cs.length := by omega
  refine ⟨_, rfl, _, rfl, _, rfl, nopart (sl_use hS6 fun p2 H7 s7 hp2 => ?_)⟩
  rw [show (1 : Int) = ((1 : Nat) : Int) from rfl, cutV_fromN] at hp2
  have s17 := s16.trans s7
  refine ⟨_, rfl, nopart ⟨_, rfl, sl_use (s17.seqT hSp) fun p3 H8 s8 hp3 => ?_⟩⟩
  rw [show (1 : Int) = ((1 : Nat) : Int) from rfl, cutV_upto] at hp3
  refine cat_use (s8.seqT hp2) hp3 (by rw [List.length_drop, List.length_take, List.length_map]; omega) fun p4 H9 s9 hp4 => ?_
  rw [← List.map_drop, ← List.map_take, ← List.map_append] at hp4
  have s19 := s17.trans (s8.trans s9)
  have hS9 := s19.seqT hSp
  have hrl : (cs.drop 1 ++ cs.take 1).length = cs.length := by rw [List.length_append, List.length_drop, List.length_take]; omega
  refine ⟨p, p4, _, _, rfl, .inr ⟨hS9, hp4, fun D3 nD3 => ?_⟩⟩
  refine lc_it (walk_zipT (K := K) (a := p) (b := p4) (xs := cs.map V.str) (ys := (cs.drop 1 ++ cs.take 1).map V.str) (n := cs.length) (by rw [List.length_map, List.length_map]; omega)) (fun j H' => Same H9 H' ∧ ∃ ws, H' D3 = some (.lst ws) ∧ ws.length ≤ j ∧ (ws = [] ↔ ∀ (j' : Nat) (x y : Str), j' < j → cs[j']? = some x → (cs.drop 1 ++ cs.take 1)[j']? = some y → x ∈ owers fs y)) ⟨same_upd nD3, [], upd_same, Nat.le_refl _, ⟨fun _ j' x y h => absurd h (Nat.not_lt_zero _), fun _ => rfl⟩⟩ (fun j H' _ h => ⟨h.1.seqT hS9, h.1.seqT hp4⟩) ?_ ?_
  · rintro j x HA HB hj ⟨sA, ws, hD, hwl, hall⟩ ⟨T, x1, y1, rfl, nT, rfl, hx1, hy1⟩
    obtain ⟨b, hb, rfl⟩ := str_at hx1
    obtain ⟨c, hc, rfl⟩ := str_at hy1
    have TD : T ≠ D3 := fun e => by rw [e, hD] at nT; cases nT
    have sT := sA.trans (same_upd (o := .tup [V.str b, V.str c]) nT)
    have hDT : upd HA T (.tup [V.str b, V.str c]) D3 = some (.lst ws) := by rw [upd_ne TD.symm]; exact hD
    refine ⟨T, _, rfl, .of upd_same, rfl, _, _, rfl, _, _, rfl, rfl, rfl, ?_⟩
    generalize upd HA T (.tup [V.str b, V.str c]) = HB at sT hDT
    have sB := s19.trans sT
    refine ⟨_, rfl, _, rfl, _, rfl, a, xs, fs, b, c, rfl, sB.seqT hS, hA.fut (.of_same sB), hw, fun HC sC => ⟨_, rfl, iteN (fun ho => ?_) fun ho => ?_⟩⟩
    · refine ⟨ws, sC _ _ hDT, by omega, fun b' o z => ?_, ws ++ [.int 1], upd_same, by rw [List.length_append]; show ws.length + 1 ≤ j + 1; omega, ?_⟩
      · rw [upd_ne (ne_of_none z nD3)]
        exact sC _ _ (sT _ _ z)
      · constructor
        · intro q
          simp at q
        · intro q
          exact absurd (q j b c (Nat.lt_succ_self j) hb hc) (of_decide_eq_false ho)
    · refine ⟨sT.trans sC, ws, sC _ _ hDT, by omega, ?_⟩
      rw [hall]
      constructor
      · intro q j' x y hj' hx hy
        rcases Nat.lt_succ_iff_lt_or_eq.mp hj' with t | t
        · exact q j' x y t hx hy
        · subst t
          rw [hb] at hx
          rw [hc] at hy
          cases hx
          cases hy
          exact of_decide_eq_true ho
      · intro q j' x y hj'
        exact q j' x y (by omega)
  rintro HA ⟨sA, ws, hD, hwl, hall⟩
  refine ⟨Nat.zero_le _, fun q5 nq5 => ?_⟩
  have sC := same_upd (o := .lst []) nq5
  refine ⟨D3, q5, ws, rfl, rfl, .inl (.inl (sC _ _ hD)), .inl (.inl upd_same), k _ _ (s19.trans (sA.trans sC)) ?_⟩
  rw [decide_eq_true_eq, hall]
  constructor
  · intro h
    refine ⟨cs, rfl, hpos, hin, hcn, fun i x y hx hy => ?_⟩
    have hi := (List.getElem?_eq_some_iff.mp hx).1
    exact h i x y hi hx (by rw [rot_at hi]; exact hy)
  · rintro ⟨cs', e, c⟩ j' x y hj' hx hy
    have e2 := str_map_inj (PyData.tuple.inj e)
    subst e2
    rw [rot_at hj'] at hy
    exact c.nxt j' x y hx hy
abbrev s_law_is_order : Stmt := topS 46
theorem sc__law_is_order : FnScope ["web", "thing", "names", "firm", "one", "at", "holder", "payer"] ["web", "thing"] (defScope s_law_is_order) := ⟨rfl, rfl, rfl, by decide +kernel, rfl, by decide +kernel, by decide +kernel⟩
theorem ok__law_is_order {f : Addr} {fd : FuncData} (F : Fun K "_law_is_order" "_law_is_order" s_law_is_order f fd) (B : Bt mg) (TSO : mg "sorted" = none) (c__law_owes : CalG P w K mg base 52 "_law_owes" (spOwes K)) : FnG P w K mg base 53 f fd ["web", "thing"] (spJudge K IsOrd) := by
  refine Fun.okG F sc__law_is_order (fun vs H Q E h => ?_) (fun cdv A outer s H vs Q E hg hr h => ?_)
  · obtain ⟨_, _, _, _, _, _, rfl, _⟩ := h
    rfl
  obtain ⟨a, xs, fs, v, mu, d, rfl, hS, hA, hw, hd, ho, h4, k⟩ := h
  have hu := Room.u64 hr
  refine ⟨_, (pss_cons (ps_setLc (i := 2) (own := [("firm", 3)]) rfl sc__law_is_order.nd rfl rfl (sw_true rfl rfl rfl (by decide +kernel)) (pi_tup (pv 0)) (blkOk_by (own := [("firm", 3)]) (N := ["web", "thing", "names", "firm", "one", "at", "holder", "payer"]) (sc := (defScope s_law_is_order)) (by decide +kernel)) (fun _ _ _ _ _ => (pg_name (i := 3) sc__law_is_order.nd rfl (Or.inl rfl))) (fun _ _ _ _ _ => pts_nil) (fun _ _ _ _ _ => (pe_ix (ix_tupK (K := K) rfl) (pv 3) pe_int (fun _ _ => rfl))))
    (pss_cons (ps_if (PW.pt (pw_or (pt_not (pt_val (pe_callB call_isD (by rfl) B.isin bb_isin (pa_cons (pv 1) (pa_cons (pe_bltn (v := .ty "tuple") rfl B.tuple bb_tuple rfl) pa_nil))))) (pw_or1 (pt_cmpR (op_neNil (K := K) rfl hu) (pe_lc (own := [("one", 4)]) rfl sc__law_is_order.nd (pi_tup (pv 1)) (blkOk_by (own := [("one", 4)]) (N := ["web", "thing", "names", "firm", "one", "at", "holder", "payer"]) (sc := (defScope s_law_is_order)) (by decide +kernel)) (fun _ _ _ _ _ => (pg_name (i := 4) sc__law_is_order.nd rfl (Or.inl rfl))) (fun _ _ _ _ _ => (pts_one (pt_not (pt_val (pe_callB (call_isDK (K := K) rfl) (by rfl) B.isin bb_isin (pa_cons (pv 4) (pa_cons (pe_bltn (v := .ty "str") rfl B.str bb_str rfl) pa_nil))))))) (fun _ _ _ _ _ => (pv 4))) (pe_lst pa_nil) (nomark _)))))
      (pss_one (ps_ret pe_bl))
      pss_nil)
    (pss_cons (ps_if (PW.pt (pw_or (pt_cmpR op_ne (pe_callB call_lenA (by rfl) B.len boot_len (pa_cons (pv 1) pa_nil)) (pe_callB call_lenA (by rfl) B.len boot_len (pa_cons (pv 2) pa_nil)) (nomark _)) (pw_or1 (pt_cmpR (op_neW hu) (pe_callB cr_sortT (by rfl) TSO bb_sorted (pa_cons (pv 1) pa_nil)) (pv 2) (nomark _)))))
      (pss_one (ps_ret pe_bl))
      pss_nil)
    (pss_cons (ps_for PassesOwn.never rfl (pi_enumT (by rfl) B.enum (pa_cons (pv 1) pa_nil)) (pg_tup (n := 2) rfl (pgs_cons (pg_name (i := 5) sc__law_is_order.nd rfl (Or.inl rfl)) (pgs_cons (pg_name (i := 6) sc__law_is_order.nd rfl (Or.inr rfl)) pgs_nil)))
      (pss_one (ps_if (pt_cmpR (op_neNil (K := K) rfl hu) (pe_lc (own := [("payer", 7)]) rfl sc__law_is_order.nd (pi_tup (pe_slice sl_tupA (pv 1) (po_some (pe_op op_add (pv 5) pe_int)) po_none)) (blkOk_by (own := [("payer", 7)]) (N := ["web", "thing", "names", "firm", "one", "at", "holder", "payer"]) (sc := (defScope s_law_is_order)) (by decide +kernel)) (fun _ _ _ _ _ => (pg_name (i := 7) sc__law_is_order.nd rfl (Or.inl rfl))) (fun _ _ _ _ _ => (pts_one (pt_val (pc c__law_owes hg hr (by omega) (by rfl) (pa_cons (pv 0) (pa_cons (pv 7) (pa_cons (pv 6) pa_nil))))))) (fun _ _ _ _ _ => pe_int)) (pe_lst pa_nil) (nomark _))
        (pss_one (ps_ret pe_bl))
        pss_nil)))
    (pss_one (ps_ret pe_bl)))))), ?_⟩
  have hfew := hw.few
  have nsd := asc_nodup hw.asc
  have hnl : (fs.map nmS).length = fs.length := List.length_map _
  have sl := sizeLine_eq
  refine ⟨_, rfl, a, rfl, ⟨xs, hS⟩, fun Nm nN => lc_names (Nat.le_of_ble_eq_true rfl) hS hA hw nN fun H1 s1 hN => ?_⟩
  refine ⟨_, rfl, _, "tuple", mu, d, rfl, by decide, hd.fut (.of_same s1), _, rfl, ?_⟩
  refine iteN (fun ht => ?_) fun ht => ?_
  · refine iteT (k H1 false s1 ⟨(fun z => nomatch z), fun ⟨cs, e, _⟩ => ?_⟩)
    rw [e] at ht
    simp [isT, tyName] at ht
  obtain ⟨ts, rfl⟩ := (isTup d).mp ht
  obtain ⟨p, us, rfl, hSp, hAp⟩ := hd.tupAt
  have hul := hAp.length
  have h4 := h4 ts rfl
  have hS1 := s1.seqT hSp
  have hA1 := hAp.fut (.of_same s1)
  refine ⟨_, rfl, p, rfl, ⟨us, hS1⟩, fun D nD => ?_⟩
  refine lc_it (walk_tup (K := K) (xs := us) (a := p)) (fun j H' => Same H1 H' ∧ ∃ ws, H' D = some (.lst ws) ∧ ws.length ≤ j ∧ (ws = [] ↔ (ts.take j).all (isT "str") = true)) ⟨same_upd nD, [], upd_same, Nat.le_refl _, by simp⟩ (fun j H' _ h => h.1.seqT hS1) ?_ ?_
  · rintro j x H2 H3 hj ⟨s2, ws, hD, hwl, hall⟩ ⟨rfl, hx⟩
    obtain ⟨e, he, hxe⟩ := hA1.get hx
    have ht2 : ts.take (j + 1) = ts.take j ++ [e] := by
      rw [List.take_add_one, he]
      rfl
    refine ⟨rfl, _, rfl, x, "str", mu, e, rfl, by decide, hxe.fut (.of_same s2), _, rfl, iteN (fun hc => ?_) fun hc => ?_⟩
    · refine ⟨_, rfl, ws, hD, by omega, fun b o z => ?_, ws ++ [x], upd_same, by rw [List.length_append]; show ws.length + 1 ≤ j + 1; omega, ?_⟩
      · rw [upd_ne (ne_of_none z nD)]
        exact s2 _ _ z
      · rw [ht2, List.all_append, List.all_cons, hc]
        constructor
        · intro q
          simp at q
        · intro q
          simp at q
    · refine ⟨s2, ws, hD, by omega, ?_⟩
      rw [ht2, List.all_append, List.all_cons, hc, List.all_nil, Bool.and_true, Bool.and_true]
      exact hall
  rintro H2 ⟨s2, ws, hD, hwl, hall⟩
  rw [List.take_of_length_le (by omega)] at hall
  refine ⟨Nat.zero_le _, fun q2 nq2 => ?_⟩
  have s3 := same_upd (o := .lst []) nq2
  refine ⟨D, q2, ws, rfl, rfl, .inl (.inl (s3 _ _ hD)), .inl (.inl upd_same), _, rfl, ?_⟩
  have s13 := s1.trans (s2.trans s3)
  by_cases hst : ts.all (isT "str") = true
  rotate_left
  · rw [decide_eq_false fun z => hst (hall.mp z)]
    refine iteT (k _ false s13 ⟨(fun z => nomatch z), fun ⟨cs, e, c⟩ => ?_⟩)
    have e2 : ts = cs.map PyData.str := PyData.tuple.inj e
    rw [e2, List.all_map] at hst
    exact absurd (List.all_eq_true.mpr fun x _ => rfl) hst
  rw [decide_eq_true (hall.mpr hst)]
  refine iteF ?_
  obtain ⟨cs, rfl⟩ := all_isS hst
  have eus := dtA_only hAp
  subst eus
  rw [List.length_map] at h4
  rw [List.length_map] at hul
  have hN3 := (s2.trans s3) _ _ hN
  have hS3 := s13.seqT hSp
  generalize upd H2 q2 (.lst []) = H3 at s13 hN3 hS3
  refine ⟨_, rfl, _, cs.length, rfl, .inr ⟨_, hS3, by rw [List.length_map]⟩, _, rfl, _, fs.length, rfl, .inl ⟨_, .inl (.inl hN3), by rw [List.length_map, hnl]⟩, rfl, _, rfl, ?_⟩
  by_cases hcl : cs.length = fs.length
  rotate_left
  · rw [decide_eq_false (fun z => hcl (by have := V.int.inj z; omega))]
    refine iteT (k _ false s13 ⟨(fun z => nomatch z), fun ⟨cs', e, c, _⟩ => ?_⟩)
    have e2 := str_map_inj (PyData.tuple.inj e)
    subst e2
    exact absurd (by rw [c.length_eq, hnl]) hcl
  rw [decide_eq_true (by rw [hcl])]
  refine iteF ?_
  refine ⟨_, rfl, p, cs, rfl, hS3, fun ys q pm hss nq => ?_⟩
  have sq := same_upd (o := .lst (ys.map V.str)) nq
  have hys : upd H3 q (.lst (ys.map V.str)) q = some (.lst (ys.map V.str)) := upd_same
  refine ⟨_, rfl, fun _ => False, .list (ys.map PyData.str), .list ((fs.map nmS).map PyData.str), .lst id (.inl hys) (dtA_strs _), .lst id (.inl (sq _ _ hN3)) (dtA_strs _), shaped_strs fun z hz => ok_strOk ho z (pm.mem_iff.mp hz), shaped_strs (wg_strOk hw), ?_⟩
  rw [show PyData.eqv (.list (ys.map PyData.str)) (.list ((fs.map nmS).map PyData.str)) = decide (ys = fs.map nmS) by
    rw [show PyData.eqv (.list (ys.map PyData.str)) (.list ((fs.map nmS).map PyData.str)) = PyData.eqvAll (ys.map PyData.str) ((fs.map nmS).map PyData.str) by rw [PyData.eqv], eqvAll_strs]]
  have s34 := s13.trans sq
  refine ⟨_, rfl, ?_⟩
  by_cases hye : ys = fs.map nmS
  rotate_left
  · rw [decide_eq_false hye]
    refine iteT (k _ false s34 ⟨(fun z => nomatch z), fun ⟨cs', e, c1, _⟩ => ?_⟩)
    have e2 := str_map_inj (PyData.tuple.inj e)
    subst e2
    exact absurd ((names_asc (c1.nodup_iff.mpr nsd) (fun z => c1.mem_iff) pm hss).mpr hw.asc).symm hye
  have hperm : cs.Perm (fs.map nmS) := by
    rw [← hye]
    exact pm.symm
  rw [decide_eq_true hye]
  refine iteF ?_
  have hS4 := s34.seqT hSp
  have hoi := ord_iff hperm nsd (owers_irr hw.all) (fun x y h => owers_sub (fs := fs) (h := x) h)
  refine ⟨_, rfl, p, _, rfl, hS4, for_it (walk_enumT (K := K) (a := p) (xs := cs.map V.str)) (fun i σ H' => ∃ (o5 o6 : Option V), σ = [some (.ref a), some (.ref p), some (.ref Nm), none, none, o5, o6, none] ∧ Same (upd H3 q (.lst (ys.map V.str))) H' ∧ ∀ (i' : Nat) (x : Str), i' < i → cs[i']? = some x → ∀ y ∈ cs.drop (i' + 1), y ∉ owers fs x) ⟨_, _, rfl, .refl _, fun i' x h => absurd h (Nat.not_lt_zero _)⟩ (fun i σ H' _ h => ?_) (fun i x σ H5 H6 hi h y => ?_) fun σ H5 h => ?_⟩
  · obtain ⟨_, _, _, h, _⟩ := h
    exact h.seqT hS4
  · obtain ⟨o5, o6, rfl, s5, hbef⟩ := h
    obtain ⟨T, x1, y1, rfl, nT, rfl, hx1, hy1⟩ := y
    cases hx1
    obtain ⟨c, hc, rfl⟩ := str_at hy1
    have sT := s5.trans (same_upd (o := .tup [V.int (i : Nat), V.str c]) nT)
    refine ⟨T, _, rfl, .of upd_same, rfl, _, _, rfl, _, _, rfl, rfl, ?_⟩
    generalize upd H5 T (.tup [V.int (i : Nat), V.str c]) = H6 at sT
    have s6 := s34.trans sT
    refine ⟨_, rfl, _, rfl, _, _, rfl, rfl, _, rfl, nopart (sl_use (s6.seqT hSp) fun p2 H7 s7 hp2 => ?_)⟩
    rw [show ((i : Nat) : Int) + 1 = ((i + 1 : Nat) : Int) from rfl, cutV_fromN, ← List.map_drop] at hp2
    have hdl : (cs.drop (i + 1)).length ≤ cs.length := by rw [List.length_drop]; omega
    refine ⟨p2, rfl, ⟨_, hp2⟩, fun D3 nD3 => ?_⟩
    refine lc_it (walk_tup (K := K) (xs := (cs.drop (i + 1)).map V.str) (a := p2)) (fun j H' => Same H7 H' ∧ ∃ ws, H' D3 = some (.lst ws) ∧ ws.length ≤ j ∧ (ws = [] ↔ ∀ y ∈ (cs.drop (i + 1)).take j, y ∉ owers fs c)) ⟨same_upd nD3, [], upd_same, Nat.le_refl _, ⟨fun _ y h => absurd h (by simp), fun _ => rfl⟩⟩ (fun j H' _ h => h.1.seqT hp2) ?_ ?_
    · rintro j x H8 H9 hj ⟨s8, ws, hD, hwl, hall⟩ ⟨rfl, hx⟩
      obtain ⟨z, hz, rfl⟩ := str_at hx
      rw [List.length_map] at hj
      have ht2 : (cs.drop (i + 1)).take (j + 1) = (cs.drop (i + 1)).take j ++ [z] := by
        rw [List.take_add_one, hz]
        rfl
      have s9 := s6.trans (s7.trans s8)
      refine ⟨rfl, _, rfl, _, rfl, _, rfl, a, xs, fs, z, c, rfl, s9.seqT hS, hA.fut (.of_same s9), hw, fun HC sC => ⟨_, rfl, iteP (fun ho => ?_) fun ho => ?_⟩⟩
      · refine ⟨ws, sC _ _ hD, by omega, fun b' o z => ?_, ws ++ [.int 1], upd_same, by rw [List.length_append]; show ws.length + 1 ≤ j + 1; omega, ?_⟩
        · rw [upd_ne (ne_of_none z nD3)]
          exact sC _ _ (s8 _ _ z)
        · constructor
          · intro q
            simp at q
          · intro q
            exact absurd ho (q z (by rw [ht2]; simp))
      · refine ⟨s8.trans sC, ws, sC _ _ hD, by omega, ?_⟩
        rw [hall, ht2]
        constructor
        · intro q y hy
          rcases List.mem_append.mp hy with t | t
          · exact q y t
          · rw [List.mem_singleton.mp t]
            exact ho
        · intro q y hy
          exact q y (List.mem_append_left _ hy)
    rintro H8 ⟨s8, ws, hD, hwl, hall⟩
    rw [List.length_map, List.take_length] at hall
    refine ⟨Nat.zero_le _, fun q5 nq5 => ?_⟩
    have sC := same_upd (o := .lst []) nq5
    refine ⟨D3, q5, ws, rfl, rfl, .inl (.inl (sC _ _ hD)), .inl (.inl upd_same), _, rfl, ?_⟩
    have sF := sT.trans (s7.trans (s8.trans sC))
    by_cases hno : ∀ y ∈ cs.drop (i + 1), y ∉ owers fs c
    · rw [decide_eq_true (hall.mpr hno)]
      refine iteF ⟨_, _, rfl, sF, fun i' x hi' hx => ?_⟩
      rcases Nat.lt_succ_iff_lt_or_eq.mp hi' with t | t
      · exact hbef i' x t hx
      · subst t
        rw [hc] at hx
        cases hx
        exact hno
    · rw [decide_eq_false fun t => hno (hall.mp t)]
      refine iteT (k _ false (s34.trans sF) ⟨(fun z => nomatch z), fun ⟨cs', e, c1, c2⟩ => ?_⟩)
      have e2 := str_map_inj (PyData.tuple.inj e)
      subst e2
      exact absurd (hoi.mp c2 i c hc) hno
  · obtain ⟨o5, o6, rfl, s5, hbef⟩ := h
    refine k _ true (s34.trans s5) ⟨fun _ => ⟨cs, rfl, hperm, hoi.mpr fun i x hx => hbef i x ?_ hx⟩, fun _ => rfl⟩
    rw [List.length_map]
    exact (List.getElem?_eq_some_iff.mp hx).1
end
end K34
namespace K34
open PySem PySem.Spec PyProof.Rows L2 Sw StX RZ
theorem sz8 {n : Nat} (h : n ≤ 8) : n ≤ sizeLine := Nat.le_trans h (by rw [sizeLine_eq]; decide)
/-- a web on its way: w its weight, c its holdings -/
structure WbS (w c : Nat) (fs : List PyData) : Prop where
  all : fs.all firmD = true
  asc : ascS (fs.map nmS) = true
  sm : smA fs = true
  dp : ∀ f ∈ fs, f.depth ≤ 10
  wt : PyData.weightAll fs ≤ w
  cnt : (fs.flatMap hldL).length ≤ c
  few : fs.length ≤ 5
theorem WbS.mono {w c w' c' : Nat} {fs : List PyData} (h : WbS w c fs) (hw : w ≤ w') (hc : c ≤ c') : WbS w' c' fs := ⟨h.all, h.asc, h.sm, h.dp, Nat.le_trans h.wt hw, Nat.le_trans h.cnt hc, h.few⟩
theorem WbS.wg {w c : Nat} {fs : List PyData} (h : WbS w c fs) (hw : w ≤ 26900) (hc : c ≤ 3500) : Wg fs := by
  refine ⟨h.all, h.asc, h.sm, ⟨sm_ok (by simp only [smD]; exact h.sm), ?_, ?_⟩, by have := h.few; omega, Nat.le_trans h.cnt hc⟩
  · have := dpA_le.mpr h.dp
    simp only [PyData.depth]
    omega
  · have := h.wt
    simp only [PyData.weight]
    omega
theorem firm_cnt {f : PyData} (h : firmD f = true) : 4 * (hldL f).length ≤ f.weight := by
  obtain ⟨n, r, hs, rfl, _, _, _, hok⟩ := firm_shape2 h
  have key : ∀ hs : List PyData, (∀ x ∈ hs, holdD r x = true ∧ headIs n x = false) → 4 * hs.length ≤ PyData.weightAll hs := fun hs => by
    induction hs with
    | nil => intro _; exact Nat.le_refl _
    | cons x hs ih =>
      intro h
      obtain ⟨m, os, rfl, _, hos, _⟩ := hold_shape (h x List.mem_cons_self).1
      have h1 := len_wt os
      have h2 := List.length_pos_iff.mpr hos
      have := ih fun y hy => h y (List.mem_cons_of_mem _ hy)
      simp only [List.length_cons, PyData.weightAll, PyData.weight] at this ⊢
      omega
  have := key hs hok
  show 4 * hs.length ≤ _
  simp only [PyData.weight, PyData.weightAll]
  omega
theorem web_cnt : ∀ {fs : List PyData}, fs.all firmD = true → 4 * (fs.flatMap hldL).length ≤ PyData.weightAll fs
  | [], _ => Nat.le_refl _
  | f :: fs, h => by
    rw [List.all_cons, Bool.and_eq_true] at h
    have h1 := firm_cnt h.1
    have h2 := web_cnt h.2
    rw [List.flatMap_cons, List.length_append]
    simp only [PyData.weightAll]
    omega
theorem Wb.s {n : Nat} {d : PyData} (h : Wb n d) (hn : n ≤ 5) : ∃ fs, d = .tuple fs ∧ fs.length = n ∧ WbS 9600 2400 fs := by
  obtain ⟨sd, wb, fs, rfl, hl⟩ := h
  have hq : (fs.all firmD && ascS (fs.map nmS)) = true := wb
  rw [Bool.and_eq_true] at hq
  have h1 := sd.ok
  have h2 := sd.dp
  have h3 := sd.wt
  simp only [smD] at h1
  simp only [PyData.depth] at h2
  simp only [PyData.weight] at h3
  have := web_cnt hq.1
  exact ⟨fs, rfl, hl, hq.1, hq.2, h1, dpA_le.mp (by omega), h3, by omega, by omega⟩
theorem wt_set : ∀ {fs : List PyData} {i : Nat} {f v : PyData}, fs[i]? = some f → PyData.weightAll (fs.set i v) + f.weight = PyData.weightAll fs + v.weight
  | [], _, _, _, h => by simp at h
  | g :: fs, 0, f, v, h => by
    cases h
    simp only [List.set_cons_zero, PyData.weightAll]
    omega
  | g :: fs, i + 1, f, v, h => by
    have := wt_set (v := v) (show fs[i]? = some f from h)
    simp only [List.set_cons_succ, PyData.weightAll]
    omega
theorem cnt_set : ∀ {fs : List PyData} {i : Nat} {f v : PyData}, fs[i]? = some f → ((fs.set i v).flatMap hldL).length + (hldL f).length = (fs.flatMap hldL).length + (hldL v).length
  | [], _, _, _, h => by simp at h
  | g :: fs, 0, f, v, h => by
    cases h
    simp only [List.set_cons_zero, List.flatMap_cons, List.length_append]
    omega
  | g :: fs, i + 1, f, v, h => by
    have := cnt_set (v := v) (show fs[i]? = some f from h)
    simp only [List.set_cons_succ, List.flatMap_cons, List.length_append]
    omega
theorem WbS.put {w c a b : Nat} {fs hs hs' : List PyData} {i : Nat} {n : Str} {r : Int} (h : WbS w c fs) (hi : fs[i]? = some (.tuple [.str n, .int r, .tuple hs])) (h1 : ∀ x ∈ hs', holdD r x = true ∧ headIs n x = false)
    (h2 : smA hs' = true) (h3 : ∀ x ∈ hs', x.depth ≤ 8) (h4 : PyData.weightAll hs' ≤ PyData.weightAll hs + a) (h5 : hs'.length ≤ hs.length + b) : WbS (w + a) (c + b) (fs.set i (.tuple [.str n, .int r, .tuple hs'])) := by
  have hm := List.mem_of_getElem? hi
  have hf := List.all_eq_true.mp h.all _ hm
  have hsm := smA_iff.mp h.sm _ hm
  have hmem : ∀ x ∈ fs.set i (.tuple [.str n, .int r, .tuple hs']), x ∈ fs ∨ x = .tuple [.str n, .int r, .tuple hs'] := fun x hx => List.mem_or_eq_of_mem_set hx
  refine ⟨List.all_eq_true.mpr fun x hx => ?_, ?_, smA_iff.mpr fun x hx => ?_, fun x hx => ?_, ?_, ?_, by rw [List.length_set]; exact h.few⟩
  · rcases hmem x hx with q | rfl
    · exact List.all_eq_true.mp h.all x q
    · have q : (isNm (.str n) && (isIn 0 6 (.int r) && hldsD (.str n) (.int r) (.tuple hs))) = true := hf
      show (isNm (.str n) && (isIn 0 6 (.int r) && hldsD (.str n) (.int r) (.tuple hs'))) = true
      rw [Bool.and_eq_true, Bool.and_eq_true] at q ⊢
      refine ⟨q.1, q.2.1, ?_⟩
      show (hs'.all fun h => holdD r h && !headIs n h) = true
      rw [List.all_eq_true]
      intro y hy
      obtain ⟨t1, t2⟩ := h1 y hy
      rw [t1, t2]
      rfl
  · have e : (fs.set i (.tuple [.str n, .int r, .tuple hs'])).map nmS = fs.map nmS := by
      refine List.ext_getElem? fun j => ?_
      rw [List.getElem?_map, List.getElem?_map]
      by_cases e : i = j
      · subst e
        rw [List.getElem?_set_self (List.getElem?_eq_some_iff.mp hi).1, hi]
        rfl
      · rw [List.getElem?_set_ne e]
    rw [e]
    exact h.asc
  · rcases hmem x hx with q | rfl
    · exact smA_iff.mp h.sm x q
    · simp only [smD, smA, Bool.and_true, Bool.and_eq_true] at hsm ⊢
      exact ⟨hsm.1, hsm.2.1, h2⟩
  · rcases hmem x hx with q | rfl
    · exact h.dp x q
    · have := dpA_le.mpr h3
      simp only [PyData.depth, PyData.depthAll]
      omega
  · have := wt_set (v := .tuple [.str n, .int r, .tuple hs']) hi
    have := h.wt
    simp only [PyData.weight, PyData.weightAll] at *
    omega
  · have := cnt_set (v := .tuple [.str n, .int r, .tuple hs']) hi
    have := h.cnt
    simp only [hldL] at *
    omega
theorem wt_mem3 {f : PyData} : ∀ {fs : List PyData}, f ∈ fs → f.weight ≤ PyData.weightAll fs
  | g :: fs, h => by
    rcases List.mem_cons.mp h with q | q
    · rw [q]
      simp only [PyData.weightAll]
      omega
    · have := wt_mem3 q
      simp only [PyData.weightAll]
      omega
theorem ixN_at {n k : Nat} (h : k < n) : ixN n (k : Int) = some k := by
  unfold ixN
  rw [if_pos (by omega)]
  simp [h]
def rkF : PyData → Int
  | .tuple [_, .int r, _] => r
  | _ => 0
def posR (fs : List PyData) (k : Nat) : Bool := match fs[k]? with
  | some f => decide (0 < rkF f)
  | none => false
theorem posR_set {gs : List PyData} {i k : Nat} {f v : PyData} (h : gs[i]? = some f) (e : rkF v = rkF f) : posR (gs.set i v) k = posR gs k := by
  unfold posR
  by_cases q : i = k
  · subst q
    rw [List.getElem?_set_self (List.getElem?_eq_some_iff.mp h).1, h]
    simp only [e]
  · rw [List.getElem?_set_ne q]
/-- a holding of one due -/
theorem due_hold {r r2 c : Int} {n m : Str} {q : PyData} {hs2 : List PyData} (c0 : 0 ≤ c) (c1 : c < r) (r6 : r ≤ 6) (hq : NumE q) (hm : nameS m = true) (hs : smD (.tuple [.str m, .int r2, .tuple hs2]) = true) (hmn : m ≠ n) :
    (holdD r (.tuple [.str m, .tuple [.tuple [.str "due", .int c, q]]]) = true ∧ headIs n (.tuple [.str m, .tuple [.tuple [.str "due", .int c, q]]]) = false) ∧ smD (.tuple [.str m, .tuple [.tuple [.str "due", .int c, q]]]) = true ∧
      (PyData.tuple [.str m, .tuple [.tuple [.str "due", .int c, q]]]).depth ≤ 8 ∧ (PyData.tuple [.str m, .tuple [.tuple [.str "due", .int c, q]]]).weight ≤ 80 := by
  have hsd := SdA.cons (p := 1) (w1 := 6) (w2 := 60) (w := 100) (sd_str (x := "due") (by decide +kernel) (by decide +kernel)) (.cons (w1 := 3) (w2 := 44) (sd_int (k := 3) (i := c) (by omega) (by decide)) (.cons (w1 := 43) (w2 := 0) (sd_num hq).1 .nil (by decide)) (by decide)) (by decide)
  have h3 : ("due" : Str).cps.size = 3 := by decide +kernel
  have hc := (sd_int (p := 0) (k := 3) (i := c) (by omega) (by decide)).wt
  have hw := (sd_num hq).1.wt
  have hdp := hsd.tup.dp
  have hsm : smD (.str m) = true := by
    simp only [smD, smA, Bool.and_eq_true] at hs ⊢
    exact hs.1
  have hml : m.length ≤ 13 := by
    simp only [smD, Bool.and_eq_true, decide_eq_true_eq] at hsm
    exact hsm.1.2.2
  have hml2 : m.cps.size ≤ 13 := hml
  refine ⟨⟨?_, decide_eq_false hmn⟩, ?_, ?_, ?_⟩
  · show (nameS m && (true && (clm r (.tuple [.str "due", .int c, q]) && true))) = true
    rw [hm, clm_due c0 c1 (sd_num hq).2]
    rfl
  · have h4 := hsd.tup.ok
    simp only [smD, smA, Bool.and_true, Bool.and_eq_true] at hsm h4 ⊢
    exact ⟨hsm, h4⟩
  · simp only [PyData.depth, PyData.depthAll] at hdp ⊢
    omega
  · simp only [PyData.weight, PyData.weightAll, h3] at hc hw ⊢
    omega
end K34
namespace K34
open PySem PySem.Spec PyProof.Rows L2 Sw StX RZ
def natV (k : Nat) : V := .int (k : Int)
theorem perm_nats {zs : List V} {us : List Nat} (h : zs.Perm (us.map natV)) : ∃ ys : List Nat, zs = ys.map natV ∧ ys.Perm us := by
  have hs : ∀ z ∈ zs, ∃ x, z = natV x := fun z hz => by
    obtain ⟨x, _, e⟩ := List.mem_map.mp (h.mem_iff.mp hz)
    exact ⟨x, e.symm⟩
  have key : ∀ zs : List V, (∀ z ∈ zs, ∃ x, z = natV x) → ∃ ys : List Nat, zs = ys.map natV := fun zs => by
    induction zs with
    | nil => intro _; exact ⟨[], rfl⟩
    | cons z zs ih =>
      intro h
      obtain ⟨x, rfl⟩ := h z List.mem_cons_self
      obtain ⟨ys, rfl⟩ := ih fun y hy => h y (List.mem_cons_of_mem _ hy)
      exact ⟨x :: ys, rfl⟩
  obtain ⟨ys, rfl⟩ := key zs hs
  refine ⟨ys, rfl, ?_⟩
  have := h.map (fun v => match v with | V.int i => i.toNat | _ => 0)
  rw [List.map_map, List.map_map] at this
  have e : ((fun v => match v with | V.int i => i.toNat | _ => 0) ∘ natV) = id := funext fun k => by simp [natV]
  rw [e, List.map_id, List.map_id] at this
  exact this
section
variable {P : Program} {w : World} {K : PySem.W.Frag} {mg : Str → Option Value} {base : Heap}
def spCircled (K : PySem.W.Frag) : Sp := fun vs H Q _ => ∃ (b a : Addr) (mu : Addr → Prop) (xs : List V) (fs : List PyData), vs = [.ref b, .ref a] ∧ mu b ∧ BagAt H b ∧ MuOk mu H ∧ SqT K H a xs ∧ DtA K mT H xs fs ∧ WbS 9600 2400 fs ∧ (∀ H', Rel b H H' → Q .non H') ∧ ∀ v H' fs', fs'.length = fs.length → WbS 9800 2402 fs' → Rel b H H' → Dt K mT H' v (.tuple fs') → Q v H'
abbrev s_law_circled : Stmt := topS 36
theorem sc__law_circled : FnScope ["bag", "web", "able", "at", "firm", "one", "other", "found", "payer", "holder", "name", "ranks", "holdings", "due"] ["bag", "web"] (defScope s_law_circled) := ⟨rfl, rfl, rfl, by decide +kernel, rfl, by decide +kernel, by decide +kernel⟩
theorem ok__law_circled {f : Addr} {fd : FuncData} (F : Fun K "_law_circled" "_law_circled" s_law_circled f fd) (B : Bt mg) (c__law_take : CalG P w K mg base 1 "_law_take" spTake) (c__law_mixed : CalG P w K mg base 2 "_law_mixed" spMixed) (c__law_number : CalG P w K mg base 3 "_law_number" (spNumE K)) : FnG P w K mg base 4 f fd ["bag", "web"] (spCircled K) := by
  refine Fun.okG F sc__law_circled (fun vs H Q E h => ?_) (fun cdv A outer s H vs Q E hg hr h => ?_)
  · obtain ⟨_, _, _, _, _, rfl, _⟩ := h
    rfl
  obtain ⟨b, a, mu, xs, fs, rfl, hmu, hb, hM, hS, hA, hw, k0, k1⟩ := h
  have hu := Room.u64 hr
  refine ⟨_, (pss_cons (ps_setLc (i := 2) (own := [("at", 3), ("firm", 4)]) rfl sc__law_circled.nd rfl rfl (sw_true rfl rfl rfl (by decide +kernel)) (pi_enumT (by rfl) B.enum (pa_cons (pv 1) pa_nil)) (blkOk_by (own := [("at", 3), ("firm", 4)]) (N := ["bag", "web", "able", "at", "firm", "one", "other", "found", "payer", "holder", "name", "ranks", "holdings", "due"]) (sc := (defScope s_law_circled)) (by decide +kernel)) (fun _ _ _ _ _ => (pg_tupK (K := K) (hK := rfl) (n := 2) rfl (pgs_cons (pg_name (i := 3) sc__law_circled.nd rfl (Or.inl rfl)) (pgs_cons (pg_name (i := 4) sc__law_circled.nd rfl (Or.inl rfl)) pgs_nil)))) (fun _ _ _ _ _ => (pts_one (pt_cmpR op_gt (pe_ix (ix_tupK (K := K) rfl) (pv 4) pe_int (fun _ _ => rfl)) pe_int (nomark _)))) (fun _ _ _ _ _ => (pv 3)))
    (pss_cons (ps_if (pt_cmpR op_lt (pe_callB call_lenA (by rfl) B.len boot_len (pa_cons (pv 2) pa_nil)) pe_int (nomark _))
      (pss_one (ps_ret pe_non))
      pss_nil)
    (pss_cons (ps_asg (pe_slice sl_list (pc c__law_mixed hg hr (by omega) (by rfl) (pa_cons (pv 0) (pa_cons (pv 2) pa_nil))) po_none (po_some pe_int)) (pg_unl (n := 2) rfl (pgs_cons (pg_name (i := 5) sc__law_circled.nd rfl (Or.inl rfl)) (pgs_cons (pg_name (i := 6) sc__law_circled.nd rfl (Or.inl rfl)) pgs_nil))))
    (pss_cons (ps_set (i := 7) sc__law_circled.nd rfl (Or.inl rfl) (pe_callTy call_list_of (by rfl) B.list bb_list (pa_cons (pv 1) pa_nil)))
    (pss_cons (ps_for PassesOwn.never rfl (pi_tup (pe_tup (pa_cons (pe_tup (pa_cons (pv 5) (pa_cons (pv 6) pa_nil))) (pa_cons (pe_tup (pa_cons (pv 6) (pa_cons (pv 5) pa_nil))) pa_nil)))) (pg_tup (n := 2) rfl (pgs_cons (pg_name (i := 8) sc__law_circled.nd rfl (Or.inl rfl)) (pgs_cons (pg_name (i := 9) sc__law_circled.nd rfl (Or.inl rfl)) pgs_nil)))
      (pss_cons (ps_asg (pe_ix ix_list (pv 7) (pv 8) (fun _ _ => rfl)) (pg_tup (n := 3) rfl (pgs_cons (pg_name (i := 10) sc__law_circled.nd rfl (Or.inl rfl)) (pgs_cons (pg_name (i := 11) sc__law_circled.nd rfl (Or.inl rfl)) (pgs_cons (pg_name (i := 12) sc__law_circled.nd rfl (Or.inl rfl)) pgs_nil)))))
      (pss_cons (ps_set (i := 13) sc__law_circled.nd rfl (Or.inl rfl) (pe_tup (pa_cons pe_str (pa_cons (pc c__law_take hg hr (by omega) (by rfl) (pa_cons (pv 0) (pa_cons (pv 11) pa_nil))) (pa_cons (pc c__law_number hg hr (by omega) (by rfl) (pa_cons (pv 0) (pa_cons pe_int pa_nil))) pa_nil)))))
      (pss_one (ps_asg (pe_tup (pa_cons (pv 10) (pa_cons (pv 11) (pa_cons (pe_op op_catA (pv 12) (pe_tup (pa_cons (pe_tup (pa_cons (pe_ix ix_tup (pe_ix ix_list (pv 7) (pv 9) (fun _ _ => rfl)) pe_int (fun _ _ => rfl)) (pa_cons (pe_tup (pa_cons (pv 13) pa_nil)) pa_nil))) pa_nil))) pa_nil)))) (pg_sub (pv 7) (pv 8) set_list))))))
    (pss_one (ps_ret (pe_callTy call_tuple_of (by rfl) B.tuple bb_tuple (pa_cons (pv 7) pa_nil))))))))), ?_⟩
  have hxl := hA.length
  have hfew := hw.few
  have sl := sizeLine_eq
  have wg := hw.wg (by decide) (by decide)
  refine ⟨_, rfl, a, _, rfl, hS, fun D nD => ?_⟩
  refine lc_it (walk_enumT (K := K) (a := a) (xs := xs)) (fun i H' => Same H H' ∧ H' D = some (.lst (((List.range i).filter (posR fs)).map natV))) ⟨same_upd nD, by rw [upd_same]; rfl⟩ (fun i H' _ h => h.1.seqT hS) ?_ ?_
  · rintro i x H2 H3 hi ⟨s2, hD⟩ ⟨T, x1, y1, rfl, nT, rfl, hx1, hy1⟩
    cases hx1
    obtain ⟨f1, n, r, a3, zs, hs, hf, fm⟩ := wg.open hA hy1
    obtain ⟨af, rfl, hSf⟩ := fm.val
    have TD : T ≠ D := fun e => by rw [e, hD] at nT; cases nT
    have sT := s2.trans (same_upd (o := .tup [V.int (i : Nat), V.ref af]) nT)
    have hDT : upd H2 T (.tup [V.int (i : Nat), V.ref af]) D = some (.lst (((List.range i).filter (posR fs)).map natV)) := by rw [upd_ne TD.symm]; exact hD
    have hlen := List.length_filter_le (posR fs) (List.range i)
    rw [List.length_range] at hlen
    have hp : posR fs i = decide (0 < r) := by
      unfold posR
      rw [hf, fm.eq]
      rfl
    have ht : ((List.range (i + 1)).filter (posR fs)).map natV = ((List.range i).filter (posR fs)).map natV ++ if 0 < r then [natV i] else [] := by
      rw [List.range_succ, List.filter_append, List.map_append, List.filter_cons, hp]
      by_cases q : 0 < r
      · rw [decide_eq_true q, if_pos q]
        rfl
      · rw [decide_eq_false q, if_neg q]
        rfl
    refine ⟨T, _, rfl, .of upd_same, rfl, _, _, rfl, _, _, rfl, rfl, rfl, ?_⟩
    generalize upd H2 T (.tup [V.int (i : Nat), V.ref af]) = H3 at sT hDT
    refine ⟨_, rfl, af, _, 1, _, rfl, rfl, sT.seqT hSf, atI_nat (j := 1) rfl, _, _, rfl, rfl, _, rfl, iteP (fun hr0 => ?_) fun hr0 => ?_⟩
    · refine ⟨_, rfl, _, hDT, ?_, fun y o q => ?_, ?_⟩
      · rw [List.length_map]
        omega
      · rw [upd_ne (ne_of_none q nD)]
        exact sT _ _ q
      · rw [upd_same, ht, if_pos hr0]
        rfl
    · refine ⟨sT, ?_⟩
      rw [hDT, ht, if_neg hr0, List.append_nil]
  rintro H1 ⟨s1, hD⟩
  rw [hxl] at hD
  have hal : ∀ k ∈ (List.range fs.length).filter (posR fs), k < fs.length ∧ posR fs k = true := fun k hk => by
    obtain ⟨q1, q2⟩ := List.mem_filter.mp hk
    exact ⟨List.mem_range.mp q1, q2⟩
  have had : ((List.range fs.length).filter (posR fs)).Nodup := List.nodup_range.sublist List.filter_sublist
  have hall : ((List.range fs.length).filter (posR fs)).length ≤ 5 := Nat.le_trans (List.length_filter_le _ _) (by rw [List.length_range]; exact hfew)
  generalize (List.range fs.length).filter (posR fs) = AL at hD hal had hall
  have R1 := Rel.of_same hb s1
  refine ⟨_, rfl, _, AL.length, rfl, .inl ⟨_, .inl (.inl hD), by rw [List.length_map]⟩, _, _, rfl, rfl, _, rfl, iteP (fun hl => ?_) fun hl => ?_⟩
  · exact k0 H1 R1
  refine ⟨_, rfl, _, rfl, b, D, _, rfl, R1.bag, bag_ne hb nD, hD, by rw [List.length_map]; omega, fun p H2 zs R2 hp np hpm => ?_⟩
  obtain ⟨ks, rfl, hkp⟩ := perm_nats hpm
  obtain ⟨k1', k2', kr, rfl⟩ : ∃ k1 k2 kr, ks = k1 :: k2 :: kr := by
    have := hkp.length_eq
    match ks, this with
    | [], h => simp at h; omega
    | [_], h => simp at h; omega
    | k1 :: k2 :: kr, _ => exact ⟨k1, k2, kr, rfl⟩
  have hkd := hkp.nodup_iff.mpr had
  have hkne : k1' ≠ k2' := fun e => by
    rw [e] at hkd
    exact (List.nodup_cons.mp hkd).1 List.mem_cons_self
  obtain ⟨hk1, hr1⟩ := hal k1' (hkp.mem_iff.mp List.mem_cons_self)
  obtain ⟨hk2, hr2⟩ := hal k2' (hkp.mem_iff.mp (List.mem_cons_of_mem _ List.mem_cons_self))
  have R12 := R1.trans R2
  have ec : cutV ((k1' :: k2' :: kr).map natV) none (some 2) = [natV k1', natV k2'] := by
    rw [show (2 : Int) = ((2 : Nat) : Int) from rfl, cutV_upto]
    rfl
  refine nopart ⟨2, rfl, p, _, rfl, .inl (.inl hp), fun p2 np2 => ?_⟩
  have R13 := R12.same (same_upd (o := .lst (cutV ((k1' :: k2' :: kr).map natV) none (some 2))) np2)
  refine ⟨p2, [natV k1', natV k2'], rfl, .inl (.inl (by rw [upd_same, ec])), rfl, _, _, rfl, _, _, rfl, rfl, ?_⟩
  generalize upd H2 p2 (.lst (cutV ((k1' :: k2' :: kr).map natV) none (some 2))) = G at R13
  have hSG := sq_fut hS (Rel.futT R13 hb)
  have hAG := hA.fut (Rel.futT R13 hb)
  refine ⟨_, rfl, a, xs, rfl, .inr hSG, fun Fd nFd => ⟨_, rfl, _, rfl, sz8 (by simp), fun t1 nt1 => ⟨_, rfl, _, rfl, sz8 (by simp), fun t2 nt2 => ⟨sz8 (by simp), fun t3 nt3 => ⟨t3, rfl, ⟨[.ref t1, .ref t2], .of upd_same⟩, ?_⟩⟩⟩⟩⟩
  have e0 := same_upd (o := .lst xs) nFd
  have e1 := same_upd (o := .tup [natV k1', natV k2']) nt1
  have e2 := same_upd (o := .tup [natV k2', natV k1']) nt2
  have e3 := same_upd (o := .tup [V.ref t1, V.ref t2]) nt3
  have hF := (e1.trans (e2.trans e3)) _ _ (show upd G Fd (.lst xs) Fd = _ from upd_same)
  have h1 : SqT K _ t1 [natV k1', natV k2'] := (e2.trans e3).seqT (.of (upd_same (H := upd G Fd (.lst xs))))
  have h2 : SqT K _ t2 [natV k2', natV k1'] := e3.seqT (.of (upd_same (H := upd (upd G Fd (.lst xs)) t1 (.tup [natV k1', natV k2']))))
  have h3 : SqT K _ t3 [V.ref t1, V.ref t2] := .of (upd_same (H := upd (upd (upd G Fd (.lst xs)) t1 (.tup [natV k1', natV k2'])) t2 (.tup [natV k2', natV k1'])))
  have FdB := bag_ne R13.bag nFd
  have R14 := Rel.of_same R13.bag (e0.trans (e1.trans (e2.trans e3)))
  have hAF := hAG.fut (Rel.futT R14 R13.bag)
  generalize upd (upd (upd (upd G Fd (.lst xs)) t1 (.tup [natV k1', natV k2'])) t2 (.tup [natV k2', natV k1'])) t3 (.tup [V.ref t1, V.ref t2]) = G1 at hF h1 h2 h3 R14 hAF
  refine for_it (walk_tup (K := K) (xs := [.ref t1, .ref t2]) (a := t3)) (fun i σ H' => ∃ (o8 o9 o10 o11 o12 o13 : Option V) (ys : List V) (gs : List PyData), σ = [some (.ref b), some (.ref a), some (.ref D), none, none, some (natV k1'), some (natV k2'), some (.ref Fd), o8, o9, o10, o11, o12, o13] ∧ Rel b G H' ∧ Fut mT G1 H' ∧ H' Fd = some (.lst ys) ∧ DtA K mT H' ys gs ∧ WbS (9600 + 90 * i) (2400 + i) gs ∧ gs.length = fs.length ∧ posR gs k1' = true ∧ posR gs k2' = true) ⟨_, _, _, _, _, _, xs, fs, rfl, R14, .refl _, hF, hAF, hw, rfl, hr1, hr2⟩ (fun i σ H' _ h => ?_) (fun i x σ H3 H4 hi h y => ?_) fun σ H3 h => ?_
  · obtain ⟨_, _, _, _, _, _, _, _, _, _, h, _⟩ := h
    exact sq_fut h3 h
  · obtain ⟨o8, o9, o10, o11, o12, o13, ys, gs, rfl, R3, f3, hF3, hA3, hw3, hgl, hp1, hp2⟩ := h
    obtain ⟨rfl, hx⟩ := y
    obtain ⟨tx, pk, hk, rfl, hne, hppk, hpkl, hhkl, hSx⟩ : ∃ (tx : Addr) (pk hk : Nat), x = .ref tx ∧ pk ≠ hk ∧ posR gs pk = true ∧ pk < gs.length ∧ hk < gs.length ∧ SqT K G1 tx [natV pk, natV hk] := by
      match i, hx with
      | 0, hx => cases hx; exact ⟨t1, k1', k2', rfl, hkne, hp1, by omega, by omega, h1⟩
      | 1, hx => cases hx; exact ⟨t2, k2', k1', rfl, hkne.symm, hp2, by omega, by omega, h2⟩
      | i + 2, hx => simp at hx
    have wg3 := hw3.wg (by simp at hi; omega) (by simp at hi; omega)
    have hyl := hA3.length
    obtain ⟨vp, hvp⟩ : ∃ v, ys[pk]? = some v := ⟨_, List.getElem?_eq_getElem (by omega)⟩
    obtain ⟨vh, hvh⟩ : ∃ v, ys[hk]? = some v := ⟨_, List.getElem?_eq_getElem (by omega)⟩
    obtain ⟨f1, n, r, a3, zs, hs, hf, fm⟩ := wg3.open hA3 hvp
    obtain ⟨f2, m, r2, a4, zs2, hs2, hf2, fm2⟩ := wg3.open hA3 hvh
    obtain ⟨af, rfl, hSf⟩ := fm.val
    obtain ⟨ag, rfl, hSg⟩ := fm2.val
    have r0 : 0 < r := by
      unfold posR at hppk
      rw [hf, fm.eq] at hppk
      exact of_decide_eq_true hppk
    have hr6 := fm.r6
    have M3 := hM.rel ((R13.trans R3))
    refine ⟨tx, _, rfl, sq_fut hSx f3, rfl, _, _, rfl, _, _, rfl, rfl, ?_⟩
    refine ⟨_, rfl, _, rfl, Fd, ys, (pk : Int), _, rfl, rfl, .inl (.inl hF3), atI_nat (j := pk) hvp, af, _, rfl, hSf, rfl, _, _, rfl, _, _, rfl, _, _, rfl, rfl, ?_⟩
    refine ⟨_, rfl, _, rfl, b, r, rfl, R3.bag, r0, by omega, fun c H5 c0 c1 R5 => ⟨_, rfl, 9, by decide, by decide, b, mu, rfl, hmu, R5.bag, M3.rel R5, fun vn H6 dn hdn R6 hvn _ => ⟨sz8 (by simp), fun t4 nt4 => ?_⟩⟩⟩
    have q4 := same_upd (o := .tup [V.str "due", V.int c, vn]) nt4
    have R56 := R5.trans R6
    have hF6 := q4 _ _ (R56.keep _ _ FdB hF3)
    refine ⟨_, rfl, _, rfl, _, rfl, _, rfl, _, rfl, Fd, ys, (hk : Int), _, rfl, rfl, .inl (.inl hF6), atI_nat (j := hk) hvh, ag, _, 0, _, rfl, rfl, q4.seqT (sq_fut hSg (Rel.futT R56 R3.bag)), atI_nat (j := 0) rfl, _, rfl, sz8 (by simp), fun t5 nt5 => ⟨sz8 (by simp), fun t6 nt6 => ⟨sz8 (by simp), fun t7 nt7 => ?_⟩⟩⟩
    have q5 := same_upd (o := .tup [V.ref t4]) nt5
    have q6 := same_upd (o := .tup [V.str m, V.ref t5]) nt6
    have q7 := same_upd (o := .tup [V.ref t6]) nt7
    have d4 : Dt K mT (upd H6 t4 (.tup [V.str "due", V.int c, vn])) (.ref t4) (.tuple [.str "due", .int c, dn]) := tup_new nt4 (.cons (.str "due") (.cons (.int c) (.cons (Dt.pure (sd_num hdn).1.ok hvn) .nil)))
    have d5 := tup_new nt5 (.cons d4 .nil)
    have d6 := tup_new nt6 (.cons (.str m) (.cons d5 .nil))
    have d7 := d6.fut (.of_same q7)
    have hS7 : SqT K _ t7 [V.ref t6] := .of (upd_same (H := upd (upd (upd H6 t4 (.tup [V.str "due", V.int c, vn])) t5 (.tup [V.ref t4])) t6 (.tup [V.str m, V.ref t5])))
    have q47 := q4.trans (q5.trans (q6.trans q7))
    have hF7 := q47 _ _ (R56.keep _ _ FdB hF3)
    have f37 : Fut mT H4 _ := (Rel.futT R56 R3.bag).trans (.of_same q47)
    have R37 := R3.trans (R56.same q47)
    generalize upd (upd (upd (upd H6 t4 (.tup [V.str "due", V.int c, vn])) t5 (.tup [V.ref t4])) t6 (.tup [V.str m, V.ref t5])) t7 (.tup [V.ref t6]) = H7 at d7 hS7 hF7 f37 R37
    have hol := fm.hdt.length
    have hhl : hs.length ≤ 9800 := by
      have h1 := wt_mem3 (List.mem_of_getElem? hf)
      have h2 := hw3.wt
      rw [fm.eq] at h1
      have h3 := len_wt hs
      simp only [PyData.weight, PyData.weightAll] at h1
      simp at hi
      omega
    refine cat_use (sq_fut fm.hsq f37) hS7 (by rw [List.length_cons, List.length_nil]; omega) fun p8 H8 s8 hp8 => ⟨sz8 (by simp), fun t9 nt9 => ?_⟩
    have d8 : Dt K mT H8 (.ref p8) (.tuple (hs ++ [.tuple [.str m, .tuple [.tuple [.str "due", .int c, dn]]]])) := dt_tupS hp8 (((fm.hdt.fut f37).append (.cons d7 .nil)).fut (.of_same s8))
    have d9 := tup_new nt9 (.cons (.str n) (.cons (.int r) (.cons d8 .nil)))
    have q9 := same_upd (o := .tup [V.str n, V.int r, V.ref p8]) nt9
    have hF9 := q9 _ _ (s8 _ _ hF7)
    have f39 := f37.trans (.of_same (s8.trans q9))
    have R39 := (R37.same s8).same q9
    generalize upd H8 t9 (.tup [V.str n, V.int r, V.ref p8]) = H9 at d9 hF9 f39 R39
    refine ⟨_, rfl, _, rfl, Fd, ys, (pk : Int), pk, rfl, rfl, hF9, ixN_at (by omega), ?_⟩
    have hgp : gs[pk]? = some (.tuple [.str n, .int r, .tuple hs]) := by rw [hf, fm.eq]
    have hmn : m ≠ n := fun e => by
      have nd := asc_nodup hw3.asc
      have e1 : (gs.map nmS)[pk]? = some n := by rw [List.getElem?_map, hgp]; rfl
      have e2 : (gs.map nmS)[hk]? = some m := by rw [List.getElem?_map, hf2, fm2.eq]; rfl
      have l1 := (List.getElem?_eq_some_iff.mp e1).1
      exact hne ((List.getElem?_inj l1 nd).mp (by rw [e1, e2, e]))
    have hsm2 := smA_iff.mp hw3.sm _ (List.mem_of_getElem? hf2)
    rw [fm2.eq] at hsm2
    have hdp1 := hw3.dp _ (List.mem_of_getElem? hf)
    rw [fm.eq] at hdp1
    obtain ⟨g1, g2, g3, g4⟩ := due_hold (q := dn) c0 c1 hr6 hdn fm2.nok hsm2 hmn
    have hput := hw3.put (a := 90) (b := 1) (hs' := hs ++ [.tuple [.str m, .tuple [.tuple [.str "due", .int c, dn]]]]) hgp (fun x hx => ?_) (smA_iff.mpr fun x hx => ?_) (fun x hx => ?_) (by rw [wt_one]; omega) (by rw [List.length_append]; exact Nat.le_refl _)
    · exact ⟨_, _, _, _, _, _, _, _, rfl, R39.at R13.bag nFd, f3.trans (f39.trans (futT_lst hF9)), upd_same, dtA_set (hA3.fut (f39.trans (futT_lst hF9))) (d9.fut (futT_lst hF9)), hput.mono (by omega) (by omega), by rw [List.length_set]; exact hgl, (posR_set (v := .tuple [.str n, .int r, .tuple (hs ++ [.tuple [.str m, .tuple [.tuple [.str "due", .int c, dn]]]])]) hgp rfl).trans hp1, (posR_set (v := .tuple [.str n, .int r, .tuple (hs ++ [.tuple [.str m, .tuple [.tuple [.str "due", .int c, dn]]]])]) hgp rfl).trans hp2⟩
    · rcases List.mem_append.mp hx with q | q
      · exact fm.hok x q
      · rw [List.mem_singleton.mp q]
        exact g1
    · rcases List.mem_append.mp hx with q | q
      · exact smA_iff.mp fm.hsm x q
      · rw [List.mem_singleton.mp q]
        exact g2
    · rcases List.mem_append.mp hx with q | q
      · have := dpA_le.mp (Nat.le_refl (PyData.depthAll hs)) x q
        simp only [PyData.depth, PyData.depthAll] at hdp1
        omega
      · rw [List.mem_singleton.mp q]
        exact g3
  · obtain ⟨o8, o9, o10, o11, o12, o13, ys, gs, rfl, R3, f3, hF3, hA3, hw3, hgl, hp1, hp2⟩ := h
    refine ⟨_, rfl, Fd, ys, rfl, .inl ⟨.inl (.inl hF3), fun l nl => ?_⟩⟩
    exact k1 _ _ gs hgl (hw3.mono (show 9600 + 90 * 2 ≤ 9800 by decide) (show 2400 + 2 ≤ 2402 by decide)) ((R13.trans R3).same (same_upd nl)) (tup_new nl hA3)
end
end K34
namespace K34
open PySem PySem.Spec PyProof.Rows L2 Sw StX RZ
section
variable {P : Program} {w : World} {K : PySem.W.Frag} {mg : Str → Option Value} {base : Heap}
def spUnfounded (K : PySem.W.Frag) : Sp := fun vs H Q _ => ∃ (b a : Addr) (xs : List V) (fs : List PyData), vs = [.ref b, .ref a] ∧ BagAt H b ∧ SqT K H a xs ∧ DtA K mT H xs fs ∧ WbS 9800 2402 fs ∧ fs ≠ [] ∧ ∀ v H' fs', WbS 26000 2402 fs' → Rel b H H' → Dt K mT H' v (.tuple fs') → Q v H'
abbrev s_law_unfounded : Stmt := topS 37
theorem sc__law_unfounded : FnScope ["bag", "web", "at", "name", "ranks", "holdings", "names", "left", "firm", "holder", "options"] ["bag", "web"] (defScope s_law_unfounded) := ⟨rfl, rfl, rfl, by decide +kernel, rfl, by decide +kernel, by decide +kernel⟩
theorem ok__law_unfounded {f : Addr} {fd : FuncData} (F : Fun K "_law_unfounded" "_law_unfounded" s_law_unfounded f fd) (B : Bt mg) (c__law_take : CalG P w K mg base 1 "_law_take" spTake) : FnG P w K mg base 2 f fd ["bag", "web"] (spUnfounded K) := by
  refine Fun.okG F sc__law_unfounded (fun vs H Q E h => ?_) (fun cdv A outer s H vs Q E hg hr h => ?_)
  · obtain ⟨_, _, _, _, rfl, _⟩ := h
    rfl
  obtain ⟨b, a, xs, fs, rfl, hb, hS, hA, hw, hne, k⟩ := h
  have hu := Room.u64 hr
  refine ⟨_, (pss_cons (ps_set (i := 2) sc__law_unfounded.nd rfl (Or.inl rfl) (pc c__law_take hg hr (by omega) (by rfl) (pa_cons (pv 0) (pa_cons (pe_callB call_lenA (by rfl) B.len boot_len (pa_cons (pv 1) pa_nil)) pa_nil))))
    (pss_cons (ps_asg (pe_ix ix_tup (pv 1) (pv 2) (fun _ _ => rfl)) (pg_tup (n := 3) rfl (pgs_cons (pg_name (i := 3) sc__law_unfounded.nd rfl (Or.inl rfl)) (pgs_cons (pg_name (i := 4) sc__law_unfounded.nd rfl (Or.inl rfl)) (pgs_cons (pg_name (i := 5) sc__law_unfounded.nd rfl (Or.inl rfl)) pgs_nil)))))
    (pss_cons (ps_par (i := 6) (j := 7) rfl sc__law_unfounded.nd rfl rfl (by decide) rfl rfl (pa_cons (pe_lc (own := [("firm", 8)]) rfl sc__law_unfounded.nd (pi_tup (pv 1)) (blkOk_by (own := [("firm", 8)]) (N := ["bag", "web", "at", "name", "ranks", "holdings", "names", "left", "firm", "holder", "options"]) (sc := (defScope s_law_unfounded)) (by decide +kernel)) (fun _ _ _ _ _ => (pg_name (i := 8) sc__law_unfounded.nd rfl (Or.inl rfl))) (fun _ _ _ _ _ => pts_nil) (fun _ _ _ _ _ => (pe_ix (ix_tupK (K := K) rfl) (pv 8) pe_int (fun _ _ => rfl)))) (pa_cons (pe_lst pa_nil) pa_nil)) (by rfl))
    (pss_cons (ps_for PassesOwn.never rfl (pi_tup (pv 5)) (pg_tup (n := 2) rfl (pgs_cons (pg_name (i := 9) sc__law_unfounded.nd rfl (Or.inl rfl)) (pgs_cons (pg_name (i := 10) sc__law_unfounded.nd rfl (Or.inl rfl)) pgs_nil)))
      (pss_one (ps_if (PW.pt (pw_or (pt_cmpR (op_inT (K := K) rfl) (pv 9) (pv 6) (by rfl)) (pw_or (pt_cmpR op_ne (pe_callB call_lenA (by rfl) B.len boot_len (pa_cons (pv 10) pa_nil)) pe_int (nomark _)) (pw_or1 (pt_cmpR op_ne (pe_ix ix_tup (pe_ix ix_tup (pv 10) pe_int (fun _ _ => rfl)) pe_int (fun _ _ => rfl)) pe_str (nomark _))))))
        (pss_one (ps_expr (pe_bm PySem.F.plainAttrs_list PySem.F.slot_list_append PySem.F.type_list_append mt_append (pv 7) (pa_cons (pe_tup (pa_cons (pv 9) (pa_cons (pv 10) pa_nil))) pa_nil))))
        (pss_one (ps_if (pt_cmpR op_eq (pc c__law_take hg hr (by omega) (by rfl) (pa_cons (pv 0) (pa_cons pe_int pa_nil))) pe_int (nomark _))
          (pss_one (ps_expr (pe_bm PySem.F.plainAttrs_list PySem.F.slot_list_append PySem.F.type_list_append mt_append (pv 7) (pa_cons (pe_tup (pa_cons (pv 9) (pa_cons (pe_op op_catA (pv 10) (pe_tup (pa_cons (pe_tup (pa_cons pe_str pa_nil)) pa_nil))) pa_nil))) pa_nil))))
          pss_nil)))))
    (pss_one (ps_ret (pe_op op_catA (pe_op op_catA (pe_slice sl_tupA (pv 1) po_none (po_some (pv 2))) (pe_tup (pa_cons (pe_tup (pa_cons (pv 3) (pa_cons (pv 4) (pa_cons (pe_callTy call_tuple_of (by rfl) B.tuple bb_tuple (pa_cons (pv 7) pa_nil)) pa_nil)))) pa_nil))) (pe_slice sl_tupA (pv 1) (po_some (pe_op op_add (pv 2) pe_int)) po_none)))))))), ?_⟩
  have hxl := hA.length
  have hfew := hw.few
  have sl := sizeLine_eq
  have wg := hw.wg (by decide) (by decide)
  have hpos := List.length_pos_iff.mpr hne
  refine ⟨_, rfl, _, rfl, _, xs.length, rfl, .inr ⟨_, hS, rfl⟩, b, _, rfl, hb, by omega, by omega, fun at' H1 a0 a1 R1 => ?_⟩
  obtain ⟨k0, rfl⟩ : ∃ k0 : Nat, at' = (k0 : Int) := ⟨at'.toNat, by omega⟩
  have hS1 := sq_fut hS (Rel.futT R1 hb)
  have hA1 := hA.fut (Rel.futT R1 hb)
  obtain ⟨vp, hvp⟩ : ∃ v, xs[k0]? = some v := ⟨_, List.getElem?_eq_getElem (by omega)⟩
  obtain ⟨f1, n, r, a3, zs, hs, hf, fm⟩ := wg.open hA1 hvp
  obtain ⟨af, rfl, hSf⟩ := fm.val
  refine ⟨_, rfl, _, rfl, a, xs, (k0 : Int), _, rfl, rfl, hS1, atI_nat (j := k0) hvp, af, _, rfl, hSf, rfl, _, _, rfl, _, _, rfl, _, _, rfl, rfl, ?_⟩
  refine ⟨_, rfl, a, rfl, ⟨xs, hS1⟩, fun Nm nN => lc_names (Nat.le_of_ble_eq_true rfl) hS1 hA1 wg nN fun H2 s2 hN => ⟨Nat.zero_le _, fun Lf nL => ⟨_, _, rfl, ?_⟩⟩⟩
  have R2 := R1.same s2
  have LfB := bag_ne R2.bag nL
  have e3 := same_upd (o := .lst []) nL
  have hN3 := e3 _ _ hN
  have hSz : SqT K (upd H2 Lf (.lst [])) a3 zs := (s2.trans e3).seqT fm.hsq
  have NmB := bag_ne R1.bag nN
  have hzl := fm.hdt.length
  have hcw := firm_cnt (List.all_eq_true.mp hw.all _ (List.mem_of_getElem? hf))
  have hww := wt_mem3 (List.mem_of_getElem? hf)
  have hwt := hw.wt
  have hcn := hw.cnt
  have hdp1 := hw.dp _ (List.mem_of_getElem? hf)
  rw [fm.eq] at hcw hww hdp1
  have hsl : 4 * hs.length ≤ 9800 := by
    have : (hldL (.tuple [.str n, .int r, .tuple hs])).length = hs.length := rfl
    omega
  have f13 : Fut mT H1 (upd H2 Lf (.lst [])) := .of_same (s2.trans e3)
  have hcnt1 : hs.length ≤ 2402 := by
    have := flat_part (g := hldL) hf
    rw [fm.eq] at this
    have e : (hldL (.tuple [.str n, .int r, .tuple hs])).length = hs.length := rfl
    omega
  generalize hG1 : upd H2 Lf (.lst []) = G1 at e3 hN3 hSz f13
  have hL1 : G1 Lf = some (.lst []) := by rw [← hG1, upd_same]
  have b1 := R2.bag.same e3
  refine ⟨_, rfl, a3, rfl, ⟨zs, hSz⟩, for_it (walk_tup (K := K) (xs := zs) (a := a3)) (fun i σ H' => ∃ (o9 o10 : Option V) (ys : List V) (gs : List PyData), σ = [some (.ref b), some (.ref a), some (.int (k0 : Int)), some (.str n), some (.int r), some (.ref a3), some (.ref Nm), some (.ref Lf), none, o9, o10] ∧ Rel b H2 H' ∧ Fut mT G1 H' ∧ H' Lf = some (.lst ys) ∧ DtA K mT H' ys gs ∧ (∀ x ∈ gs, holdD r x = true ∧ headIs n x = false) ∧ smA gs = true ∧ (∀ x ∈ gs, x.depth ≤ 8) ∧ PyData.weightAll gs ≤ PyData.weightAll (hs.take i) + 6 * i ∧ gs.length ≤ i) ⟨_, _, [], [], rfl, Rel.of_same R2.bag e3, .refl _, hL1, .nil, (fun _ h => nomatch h), rfl, (fun _ h => nomatch h), Nat.zero_le _, Nat.le_refl _⟩ (fun i σ H' _ h => ?_) (fun i x σ H3 H4 hi h y => ?_) fun σ H3 h => ?_⟩
  · obtain ⟨_, _, _, _, _, _, h, _⟩ := h
    exact sq_fut hSz h
  · obtain ⟨o9, o10, ys, gs, rfl, R3, f3, hL3, hA3, hok3, hsm3, hdp3, hwt3, hln3⟩ := h
    obtain ⟨rfl, hx⟩ := y
    have fmF := fm.fut (f13.trans f3)
    obtain ⟨e, m, ao, us, os, he, hv, hmn⟩ := fmF.hold hx
    obtain ⟨ah, rfl, hSh⟩ := hv.val
    have hem := List.mem_of_getElem? he
    have hyl := hA3.length
    have htk : PyData.weightAll (hs.take (i + 1)) = PyData.weightAll (hs.take i) + e.weight + 1 := by
      rw [List.take_add_one, he]
      exact wt_one _ _
    have edp : e.depth ≤ 8 := by
      have := dpA_le.mp (Nat.le_refl (PyData.depthAll hs)) e hem
      simp only [PyData.depth, PyData.depthAll] at hdp1
      omega
    have hsme := smA_iff.mp fm.hsm e hem
    -- one more, weighed
    have fin : ∀ (H' : Hp) (vv : V) (g : PyData) (oa ob : Option V), Rel b H4 H' → H' Lf = some (.lst ys) → Dt K mT H' vv g → (holdD r g = true ∧ headIs n g = false) → smD g = true → g.depth ≤ 8 → g.weight ≤ e.weight + 6 →
        ∃ (o9 o10 : Option V) (ys' : List V) (gs : List PyData), [some (.ref b), some (.ref a), some (.int (k0 : Int)), some (.str n), some (.int r), some (.ref a3), some (.ref Nm), some (.ref Lf), none, oa, ob] = [some (.ref b), some (.ref a), some (.int (k0 : Int)), some (.str n), some (.int r), some (.ref a3), some (.ref Nm), some (.ref Lf), none, o9, o10] ∧ Rel b H2 (upd H' Lf (.lst (ys ++ [vv]))) ∧ Fut mT G1 (upd H' Lf (.lst (ys ++ [vv]))) ∧ upd H' Lf (.lst (ys ++ [vv])) Lf = some (.lst ys') ∧ DtA K mT (upd H' Lf (.lst (ys ++ [vv]))) ys' gs ∧ (∀ x ∈ gs, holdD r x = true ∧ headIs n x = false) ∧ smA gs = true ∧ (∀ x ∈ gs, x.depth ≤ 8) ∧ PyData.weightAll gs ≤ PyData.weightAll (hs.take (i + 1)) + 6 * (i + 1) ∧ gs.length ≤ i + 1 := fun H' vv g oa ob RR hL' dv g1 g2 g3 g4 => by
      have ff := futT_lst (o := .lst (ys ++ [vv])) hL'
      refine ⟨_, _, _, gs ++ [g], rfl, (R3.trans RR).at R2.bag nL, f3.trans ((Rel.futT RR R3.bag).trans ff), upd_same, ((hA3.fut (Rel.futT RR R3.bag)).fut ff).append (.cons (dv.fut ff) .nil), fun x hx => ?_, smA_iff.mpr fun x hx => ?_, fun x hx => ?_, by rw [wt_one]; omega, by rw [List.length_append]; show gs.length + 1 ≤ i + 1; omega⟩
      · rcases List.mem_append.mp hx with q | q
        · exact hok3 x q
        · rw [List.mem_singleton.mp q]
          exact g1
      · rcases List.mem_append.mp hx with q | q
        · exact smA_iff.mp hsm3 x q
        · rw [List.mem_singleton.mp q]
          exact g2
      · rcases List.mem_append.mp hx with q | q
        · exact hdp3 x q
        · rw [List.mem_singleton.mp q]
          exact g3
    have skip : ∀ (H' : Hp) (oa ob : Option V), Rel b H4 H' → H' Lf = some (.lst ys) →
        ∃ (o9 o10 : Option V) (ys' : List V) (gs : List PyData), [some (.ref b), some (.ref a), some (.int (k0 : Int)), some (.str n), some (.int r), some (.ref a3), some (.ref Nm), some (.ref Lf), none, oa, ob] = [some (.ref b), some (.ref a), some (.int (k0 : Int)), some (.str n), some (.int r), some (.ref a3), some (.ref Nm), some (.ref Lf), none, o9, o10] ∧ Rel b H2 H' ∧ Fut mT G1 H' ∧ H' Lf = some (.lst ys') ∧ DtA K mT H' ys' gs ∧ (∀ x ∈ gs, holdD r x = true ∧ headIs n x = false) ∧ smA gs = true ∧ (∀ x ∈ gs, x.depth ≤ 8) ∧ PyData.weightAll gs ≤ PyData.weightAll (hs.take (i + 1)) + 6 * (i + 1) ∧ gs.length ≤ i + 1 := fun H' oa ob RR hL' =>
      ⟨_, _, _, gs, rfl, R3.trans RR, f3.trans (Rel.futT RR R3.bag), hL', hA3.fut (Rel.futT RR R3.bag), hok3, hsm3, hdp3, by omega, by omega⟩
    have hdE : Dt K mT H4 (.ref ah) e := by
      obtain ⟨e', he', hd'⟩ := fmF.hdt.get hx
      rw [he] at he'
      cases he'
      exact hd'
    refine ⟨ah, _, rfl, hSh, rfl, _, _, rfl, _, _, rfl, rfl, ?_⟩
    have hNn := R3.keep _ _ NmB hN
    have hsT : (holdD r e = true ∧ headIs n e = false) := fm.hok e hem
    have app : ∀ t : Addr, H4 t = none → Rel b H4 (upd H4 t (.tup [.str m, .ref ao])) ∧ upd H4 t (.tup [.str m, .ref ao]) Lf = some (.lst ys) ∧ Dt K mT (upd H4 t (.tup [.str m, .ref ao])) (.ref t) e := fun t nt => by
      refine ⟨Rel.of_same R3.bag (same_upd nt), same_upd nt _ _ hL3, ?_⟩
      rw [hv.eq]
      exact tup_new nt (.cons (.str m) (.cons (dt_tupS hv.osq hv.odt) .nil))
    have hyl3 : ys.length < sizeLine := by rw [hyl]; omega
    have hul := hv.odt.length
    refine ⟨_, rfl, _, rfl, m, Nm, fs.map nmS, rfl, rfl, .inl (.inl (.inl hNn)), _, rfl, iteB (fun hin => ?_) fun hin => ?_⟩
    · exact ⟨_, rfl, ty_lst hL3, _, rfl, _, rfl, sz8 (by simp), fun t nt => ⟨Lf, _, _, rfl, rfl, (app t nt).2.1, hyl3, fin _ _ _ _ _ (app t nt).1 (app t nt).2.1 (app t nt).2.2 hsT hsme edp (by omega)⟩⟩
    refine ⟨_, rfl, _, us.length, rfl, .inr ⟨_, hv.osq, rfl⟩, rfl, _, rfl, ?_⟩
    by_cases hl1 : us.length = 1
    rotate_left
    · rw [decide_eq_false (fun z => hl1 (by have := V.int.inj z; omega))]
      refine iteT ?_
      exact ⟨_, rfl, ty_lst hL3, _, rfl, _, rfl, sz8 (by simp), fun t nt => ⟨Lf, _, _, rfl, rfl, (app t nt).2.1, hyl3, fin _ _ _ _ _ (app t nt).1 (app t nt).2.1 (app t nt).2.2 hsT hsme edp (by omega)⟩⟩
    rw [decide_eq_true (show V.int ((us.length : Nat) : Int) = V.int 1 by rw [hl1]; rfl)]
    refine iteF ?_
    obtain ⟨c, rfl⟩ : ∃ c, os = [c] := by
      match os, (by omega : os.length = 1) with
      | [c], _ => exact ⟨c, rfl⟩
    obtain ⟨w0, ps, rfl, _, _⟩ := clm_tup (hv.cm c List.mem_cons_self).clm
    obtain ⟨y, _, rfl, ee, r1⟩ := hv.odt.one rfl
    cases ee
    obtain ⟨a2, u2, rfl, hS2, hA2⟩ := r1.tupAt
    cases hA2 with
    | @cons y ys' _ _ hy hys =>
    cases hy
    refine ⟨_, rfl, ao, _, 0, _, rfl, rfl, hv.osq, atI_nat (j := 0) rfl, a2, _, 0, _, rfl, rfl, hS2, atI_nat (j := 0) rfl, rfl, _, rfl, ?_⟩
    by_cases hw0 : w0 = "shares"
    rotate_left
    · rw [decide_eq_false (fun z => hw0 (V.str.inj z))]
      refine iteT ?_
      exact ⟨_, rfl, ty_lst hL3, _, rfl, _, rfl, sz8 (by simp), fun t nt => ⟨Lf, _, _, rfl, rfl, (app t nt).2.1, hyl3, fin _ _ _ _ _ (app t nt).1 (app t nt).2.1 (app t nt).2.2 hsT hsme edp (by omega)⟩⟩
    rw [hw0, decide_eq_true rfl]
    refine iteF ?_
    refine ⟨_, rfl, b, 2, rfl, R3.bag, by decide, by decide, fun vt H5 v0 v1 R5 => ⟨rfl, _, rfl, iteP (fun hz => ?_) fun hz => ?_⟩⟩
    · have hL5 := R5.keep _ _ LfB hL3
      refine ⟨_, rfl, ty_lst hL5, _, rfl, _, rfl, sz8 (by simp), fun t1 nt1 => ⟨sz8 (by simp), fun t2 nt2 => ?_⟩⟩
      have q1 := same_upd (o := .tup [V.str "none"]) nt1
      have q2 := same_upd (o := .tup [V.ref t1]) nt2
      have d1 : Dt K mT (upd H5 t1 (.tup [V.str "none"])) (.ref t1) (.tuple [.str "none"]) := tup_new nt1 (.cons (.str "none") .nil)
      refine cat_use ((q1.trans q2).seqT (sq_fut hv.osq (Rel.futT R5 R3.bag))) (.of upd_same) (by rw [hl1, List.length_cons, List.length_nil]; omega) fun p8 H8 s8 hp8 => ⟨sz8 (by simp), fun t nt => ?_⟩
      have q3 := same_upd (o := .tup [V.str m, V.ref p8]) nt
      have q13 := ((q1.trans q2).trans s8).trans q3
      have d8 := dt_tupS hp8 (((hv.odt.fut (Rel.futT R5 R3.bag)).fut (.of_same ((q1.trans q2).trans s8))).append (.cons (d1.fut (.of_same (q2.trans s8))) .nil))
      have d9 := tup_new nt (.cons (.str m) (.cons d8 .nil))
      have hw4 : ("none" : Str).cps.size = 4 := by decide +kernel
      have hnsm : smD (.tuple [.str "none"]) = true := by decide +kernel
      have hee := hv.eq
      refine ⟨Lf, _, _, rfl, rfl, q13 _ _ hL5, hyl3, fin _ _ _ _ _ (R5.same q13) (q13 _ _ hL5) d9 ?_ ?_ ?_ ?_⟩
      · rw [hee] at hsT
        refine ⟨?_, hsT.2⟩
        show (nameS m && (true && clmA r ([.tuple (.str w0 :: ps)] ++ [.tuple [.str "none"]]))) = true
        rw [hv.nok, clmA_all, List.all_append, ← clmA_all]
        have h2 : clmA r [.tuple (.str w0 :: ps)] = true := by
          rw [clmA_all, List.all_eq_true]
          exact fun x hx => (hv.cm x hx).clm
        rw [h2]
        show (true && (true && (true && (clm r (.tuple [.str "none"]) && true)))) = true
        rw [clm_none]
        rfl
      · rw [hee] at hsme
        have h6 : smA [PyData.tuple [.str "none"]] = true := by simp only [smA, hnsm, Bool.and_true]
        simp only [smD, smA, Bool.and_true, Bool.and_eq_true, List.cons_append, List.nil_append] at hsme h6 ⊢
        exact ⟨hsme.1, hsme.2, h6⟩
      · rw [hee] at edp
        simp only [PyData.depth, PyData.depthAll, List.cons_append, List.nil_append] at edp ⊢
        omega
      · rw [hee]
        simp only [PyData.weight, PyData.weightAll, List.cons_append, List.nil_append, hw4]
        omega
    · exact skip H5 _ _ R5 (R5.keep _ _ LfB hL3)
  · obtain ⟨o9, o10, ys, gs, rfl, R3, f3, hL3, hA3, hok3, hsm3, hdp3, hwt3, hln3⟩ := h
    rw [List.take_of_length_le (by omega)] at hwt3
    have hyl := hA3.length
    have F3 := f13.trans f3
    have hS3 := sq_fut hS1 F3
    have hA3' := hA1.fut F3
    refine ⟨_, rfl, nopart ⟨_, rfl, _, rfl, sl_use hS3 fun p1 H5 s5 hp1 => ?_⟩⟩
    rw [cutV_upto] at hp1
    refine ⟨_, rfl, _, rfl, _, rfl, Lf, ys, rfl, .inl ⟨.inl (.inl (s5 _ _ hL3)), fun l nl => ⟨sz8 (by simp), fun t6 nt6 => ⟨sz8 (by simp), fun t7 nt7 => ?_⟩⟩⟩⟩
    have q1 := same_upd (o := .tup ys) nl
    have q2 := same_upd (o := .tup [V.str n, V.int r, V.ref l]) nt6
    have q3 := same_upd (o := .tup [V.ref t6]) nt7
    have dl := tup_new nl (hA3.fut (.of_same s5))
    have d6 := tup_new nt6 (.cons (.str n) (.cons (.int r) (.cons dl .nil)))
    have q123 := (q1.trans q2).trans q3
    have hS7 : SqT K _ t7 [V.ref t6] := .of (upd_same (H := upd (upd H5 l (.tup ys)) t6 (.tup [V.str n, V.int r, V.ref l])))
    have d7 := d6.fut (.of_same q3)
    have hp7 := q123.seqT hp1
    have s57 := s5.trans q123
    generalize upd (upd (upd H5 l (.tup ys)) t6 (.tup [V.str n, V.int r, V.ref l])) t7 (.tup [V.ref t6]) = H7 at hS7 d7 hp7 s57
    refine cat_use hp7 hS7 (by rw [List.length_take, List.length_cons, List.length_nil]; omega) fun p8 H8 s8 hp8 => ?_
    refine ⟨_, rfl, _, rfl, _, _, rfl, rfl, _, rfl, nopart (sl_use ((s57.trans s8).seqT hS3) fun p9 H9 s9 hp9 => ?_)⟩
    rw [show ((k0 : Nat) : Int) + 1 = ((k0 + 1 : Nat) : Int) from rfl, cutV_fromN] at hp9
    refine cat_use (s9.seqT hp8) hp9 (by rw [List.length_append, List.length_take, List.length_drop, List.length_cons, List.length_nil]; omega) fun pA HA sA hpA => ?_
    have sF := (s57.trans s8).trans (s9.trans sA)
    have hfs : fs[k0]? = some (.tuple [.str n, .int r, .tuple hs]) := by rw [hf, fm.eq]
    have eset : fs.take k0 ++ [.tuple [.str n, .int r, .tuple gs]] ++ fs.drop (k0 + 1) = fs.set k0 (.tuple [.str n, .int r, .tuple gs]) := by
      rw [List.set_eq_take_append_cons_drop, if_pos (by omega), List.append_assoc]
      rfl
    have hput := hw.put (a := 14412) (b := 0) (hs' := gs) hfs hok3 hsm3 hdp3 (by omega) (by omega)
    refine k _ _ _ (hput.mono (by decide) (by decide)) ((R2.trans R3).same sF) (dt_tupS hpA ?_)
    rw [← eset]
    exact (((hA3'.fut (.of_same sF)).take k0).append (.cons (d7.fut (.of_same (s8.trans (s9.trans sA)))) .nil)).append ((hA3'.fut (.of_same sF)).drop (k0 + 1))
end
end K34
namespace K34
open PySem PySem.Spec PyProof.Rows L2 Sw StX RZ
def RNM : List Str := ["cow", "doe", "elk", "fox"]
def RAL : List Str := ["cow", "doe", "elk", "fox", "x", "y", "zoo"]
theorem ral_ok : ∀ n ∈ RAL, nameS n = true ∧ smD (.str n) = true ∧ (PyData.str n).weight ≤ 3 := by decide +kernel
theorem rnm_nd : RNM.Nodup := by decide +kernel
theorem rnm_zoo : ∀ n ∈ RNM, ltS n "zoo" = true ∧ "zoo" ≠ n ∧ n ∈ RAL ∧ "x" ≠ n ∧ "y" ≠ n := by decide +kernel
theorem asc_snoc : ∀ {ns : List Str} {z : Str}, ascS ns = true → (∀ x ∈ ns, ltS x z = true) → ascS (ns ++ [z]) = true
  | [], _, _, _ => rfl
  | [x], z, _, h => by
    show (ltS x z && true) = true
    rw [h x List.mem_cons_self]
    rfl
  | x :: y :: r, z, h0, h => by
    have e : (ltS x y && ascS (y :: r)) = true := h0
    rw [Bool.and_eq_true] at e
    show (ltS x y && ascS ((y :: r) ++ [z])) = true
    rw [e.1, asc_snoc e.2 fun w hw => h w (List.mem_cons_of_mem _ hw)]
    rfl
/-- good holdings of a firm -/
structure GH (nm : Str) (r : Int) (w c : Nat) (hs : List PyData) : Prop where
  ok : ∀ x ∈ hs, holdD r x = true ∧ headIs nm x = false
  sm : smA hs = true
  dp : ∀ x ∈ hs, x.depth ≤ 8
  wt : PyData.weightAll hs ≤ w
  cnt : hs.length ≤ c
/-- one of them -/
structure GH1 (nm : Str) (r : Int) (w : Nat) (x : PyData) : Prop where
  ok : holdD r x = true ∧ headIs nm x = false
  sm : smD x = true
  dp : x.depth ≤ 8
  wt : x.weight ≤ w
theorem GH1.mono {nm : Str} {r : Int} {w w' : Nat} {x : PyData} (h : GH1 nm r w x) (hw : w ≤ w') : GH1 nm r w' x := ⟨h.ok, h.sm, h.dp, Nat.le_trans h.wt hw⟩
theorem GH.nil {nm : Str} {r : Int} : GH nm r 0 0 [] := ⟨(fun _ h => nomatch h), rfl, (fun _ h => nomatch h), Nat.le_refl _, Nat.le_refl _⟩
theorem GH.ins {nm : Str} {r : Int} {w c v : Nat} {hs : List PyData} {x : PyData} (h : GH nm r w c hs) (g : GH1 nm r v x) (k : Nat) : GH nm r (w + v + 1) (c + 1) (hs.take k ++ [x] ++ hs.drop k) := by
  have hm : ∀ y ∈ hs.take k ++ [x] ++ hs.drop k, y ∈ hs ∨ y = x := fun y hy => by
    rcases List.mem_append.mp hy with q | q
    · rcases List.mem_append.mp q with q | q
      · exact .inl (List.mem_of_mem_take q)
      · exact .inr (List.mem_singleton.mp q)
    · exact .inl (List.mem_of_mem_drop q)
  have h1 := h.wt
  have h2 := g.wt
  have h3 := h.cnt
  refine ⟨fun y hy => (hm y hy).elim (h.ok y) (fun e => e ▸ g.ok), smA_iff.mpr fun y hy => (hm y hy).elim (smA_iff.mp h.sm y) (fun e => e ▸ g.sm), fun y hy => (hm y hy).elim (h.dp y) (fun e => e ▸ g.dp), by rw [wtA_insert]; omega, ?_⟩
  rw [List.length_append, List.length_append, List.length_singleton, List.length_take, List.length_drop]
  omega
theorem GH.snoc {nm : Str} {r : Int} {w c v : Nat} {hs : List PyData} {x : PyData} (h : GH nm r w c hs) (g : GH1 nm r v x) : GH nm r (w + v + 1) (c + 1) (hs ++ [x]) := by
  have := h.ins g hs.length
  rwa [List.take_length, List.drop_length, List.append_nil] at this
theorem GH.mono {nm : Str} {r : Int} {w c w' c' : Nat} {hs : List PyData} (h : GH nm r w c hs) (hw : w ≤ w') (hc : c ≤ c') : GH nm r w' c' hs := ⟨h.ok, h.sm, h.dp, Nat.le_trans h.wt hw, Nat.le_trans h.cnt hc⟩
theorem firm_ok {nm : Str} {r : Int} {w c : Nat} {hs : List PyData} (hn : nm ∈ RAL) (r0 : 0 ≤ r) (r6 : r ≤ 6) (h : GH nm r w c hs) : firmD (.tuple [.str nm, .int r, .tuple hs]) = true ∧ smD (.tuple [.str nm, .int r, .tuple hs]) = true ∧
    (PyData.tuple [.str nm, .int r, .tuple hs]).depth ≤ 10 ∧ (PyData.tuple [.str nm, .int r, .tuple hs]).weight ≤ w + 9 := by
  obtain ⟨n1, n2, n3⟩ := ral_ok nm hn
  have hi := (sd_int (p := 0) (k := 3) (i := r) (by omega) (by decide))
  have h1 := h.wt
  have h2 := hi.wt
  have h3 := dpA_le.mpr h.dp
  refine ⟨?_, ?_, ?_, ?_⟩
  · show (nameS nm && (decide (0 ≤ r ∧ r ≤ 6) && (hs.all fun h => holdD r h && !headIs nm h))) = true
    rw [n1, decide_eq_true ⟨r0, r6⟩, Bool.true_and, Bool.true_and, List.all_eq_true]
    intro x hx
    obtain ⟨a, b⟩ := h.ok x hx
    rw [a, b]
    rfl
  · have h4 := hi.ok
    have h5 := h.sm
    simp only [smD, smA, Bool.and_true, Bool.and_eq_true] at n2 h4 ⊢
    exact ⟨n2, h4, h5⟩
  · simp only [PyData.depth, PyData.depthAll]
    omega
  · simp only [PyData.weight, PyData.weightAll] at n3 h2 ⊢
    omega
/-- a good claim -/
structure GC (r : Int) (w : Nat) (x : PyData) : Prop where
  ok : clm r x = true
  sm : smD x = true
  dp : x.depth ≤ 6
  wt : x.weight ≤ w
theorem gh1 {nm p : Str} {r : Int} {w : Nat} {os : List PyData} (hp : p ∈ RAL) (hn : p ≠ nm) (ne : os ≠ []) (h : ∀ c ∈ os, clm r c = true ∧ smD c = true ∧ c.depth ≤ 6) (hw : PyData.weightAll os ≤ w) : GH1 nm r (w + 5) (.tuple [.str p, .tuple os]) := by
  obtain ⟨n1, n2, n3⟩ := ral_ok p hp
  have e : (!os.isEmpty) = true := by
    cases os with
    | nil => exact absurd rfl ne
    | cons _ _ => rfl
  have hcl : clmA r os = true := by
    rw [clmA_all, List.all_eq_true]
    exact fun c hc => (h c hc).1
  have hsm : smA os = true := smA_iff.mpr fun c hc => (h c hc).2.1
  have hdp := dpA_le.mpr fun c hc => (h c hc).2.2
  refine ⟨⟨?_, decide_eq_false hn⟩, ?_, ?_, ?_⟩
  · show (nameS p && (!os.isEmpty && clmA r os)) = true
    rw [n1, e, hcl]
    rfl
  · simp only [smD] at n2 ⊢
    simp only [smA, smD, n2, hsm, Bool.and_self]
  · simp only [PyData.depth, PyData.depthAll]
    omega
  · simp only [PyData.weight, PyData.weightAll] at n3 ⊢
    omega
theorem gc_shares {r : Int} {q : PyData} (h : NumE q) : GC r 52 (.tuple [.str "shares", q]) := by
  have hsd := SdA.cons (p := 1) (w1 := 6) (w2 := 44) (w := 95) (sd_str (x := "shares") (by decide +kernel) (by decide +kernel)) (.cons (w1 := 43) (w2 := 0) (sd_num h).1 .nil (by decide)) (by decide)
  have h2 : ("shares" : Str).cps.size = 6 := by decide +kernel
  have h1 := (sd_num h).1.wt
  refine ⟨clm_shares (sd_num h).2, hsd.tup.ok, Nat.le_trans hsd.tup.dp (by decide), ?_⟩
  simp only [PyData.weight, PyData.weightAll, h2]
  omega
theorem gc_due {r c : Int} {q : PyData} (c0 : 0 ≤ c) (c1 : c < r) (r6 : r ≤ 6) (h : NumE q) : GC r 53 (.tuple [.str "due", .int c, q]) := by
  have hsd := SdA.cons (p := 1) (w1 := 6) (w2 := 60) (w := 100) (sd_str (x := "due") (by decide +kernel) (by decide +kernel)) (.cons (w1 := 3) (w2 := 44) (sd_int (k := 3) (i := c) (by omega) (by decide)) (.cons (w1 := 43) (w2 := 0) (sd_num h).1 .nil (by decide)) (by decide)) (by decide)
  have h3 : ("due" : Str).cps.size = 3 := by decide +kernel
  have hc := (sd_int (p := 0) (k := 3) (i := c) (by omega) (by decide)).wt
  have hw := (sd_num h).1.wt
  refine ⟨clm_due c0 c1 (sd_num h).2, hsd.tup.ok, Nat.le_trans hsd.tup.dp (by decide), ?_⟩
  simp only [PyData.weight, PyData.weightAll, h3] at hc hw ⊢
  omega
theorem num_11 : NumE (.tuple [.int 1, .int 1]) := ⟨⟨1, 1, rfl, by decide, by decide, by decide, by decide, by decide⟩, by decide +kernel⟩
theorem num_21 : NumE (.tuple [.int 2, .int 1]) := ⟨⟨2, 1, rfl, by decide, by decide, by decide, by decide, by decide⟩, by decide +kernel⟩
theorem num_31 : NumE (.tuple [.int 3, .int 1]) := ⟨⟨3, 1, rfl, by decide, by decide, by decide, by decide, by decide⟩, by decide +kernel⟩
/-- all but b and f is kept -/
def KF (b f : Addr) (G H : Hp) : Prop := ∀ a o, a ≠ b → a ≠ f → G a = some o → H a = some o
theorem KF.refl {b f : Addr} {G : Hp} : KF b f G G := fun _ _ _ _ e => e
theorem KF.rel {b f : Addr} {G H H' : Hp} (k : KF b f G H) (r : Rel b H H') : KF b f G H' := fun a o n m e => r.keep a o n (k a o n m e)
theorem KF.same {b f : Addr} {G H H' : Hp} (k : KF b f G H) (r : Same H H') : KF b f G H' := fun a o n m e => r a o (k a o n m e)
theorem KF.put {b f : Addr} {G H : Hp} {u : HO} (k : KF b f G H) : KF b f G (upd H f u) := fun a o n m e => by
  rw [upd_ne m]
  exact k a o n m e
/-- the rings -/
structure RingOk (H : Hp) (ns : List Str) (RL : List (Addr × List Str)) : Prop where
  at_ : ∀ p ∈ RL, H p.1 = some (.lst (p.2.map V.str))
  nd : ∀ p ∈ RL, p.2.Nodup
  two : ∀ p ∈ RL, 2 ≤ p.2.length
  four : ∀ p ∈ RL, p.2.length ≤ 4
  sub : ∀ p ∈ RL, ∀ x ∈ p.2, x ∈ ns
  all : ∀ x ∈ ns, ∃ p ∈ RL, x ∈ p.2
  few : RL.length ≤ 2
theorem rings_use {K : PySem.W.Frag} {σ : L2.St} {H : Hp} {Q : VK} {Nm Or : Addr} {ns os : List Str} (h1 : σ[1]? = some (some (.ref Nm))) (h2 : σ[2]? = some (some (.ref Or))) (hN : H Nm = some (.lst (ns.map V.str))) (hO : H Or = some (.lst (os.map V.str)))
    (hos : os.Perm ns) (l2 : 2 ≤ ns.length) (l4 : ns.length ≤ 4) (nd : ns.Nodup) (k : ∀ Rg H' RL, Same H H' → H Rg = none → H' Rg = some (.lst (RL.map fun p => V.ref p.1)) → RingOk H' ns RL → Q (.ref Rg) H') :
    tIf (tTest (tOp rEq (tCB (fun xs H_1 Q => ∃ x n, xs = [x] ∧ LenV K x H_1 n ∧ Q (V.int ((n : Nat) : Int)) H_1) (tCons (tVar 1) tNil)) (tC (V.int 4)))) (tLst (tCons (tSl (rSlL K) (tVar 2) tNoPart (tPart (tC (V.int 2)))) (tCons (tSl (rSlL K) (tVar 2) (tPart (tC (V.int 2))) tNoPart) tNil))) (tLst (tCons (tVar 2) tNil)) σ H Q := by
  have hol := hos.length_eq
  have ond := hos.nodup_iff.mpr nd
  refine ⟨_, h1, _, ns.length, rfl, .inl ⟨_, .inl (.inl hN), by rw [List.length_map]⟩, rfl, _, rfl, iteEq (fun e => ?_) fun e => ?_⟩
  · refine ⟨_, h2, nopart ⟨2, rfl, Or, _, rfl, .inl (.inl hO), fun p1 n1 => ⟨_, h2, 2, rfl, nopart ⟨Or, _, rfl, .inl (.inl (same_upd n1 _ _ hO)), fun p2 n2 => ⟨sz8 (by simp), fun Rg nR => ?_⟩⟩⟩⟩⟩
    have q1 := same_upd (o := .lst (cutV (os.map V.str) none (some 2))) n1
    have q2 := same_upd (o := .lst (cutV (os.map V.str) (some 2) none)) n2
    have q3 := same_upd (o := .lst [V.ref p1, V.ref p2]) nR
    have c1 : cutV (os.map V.str) none (some 2) = (os.take 2).map V.str := by rw [show (2 : Int) = ((2 : Nat) : Int) from rfl, cutV_upto, List.map_take]
    have c2 : cutV (os.map V.str) (some 2) none = (os.drop 2).map V.str := by rw [show (2 : Int) = ((2 : Nat) : Int) from rfl, cutV_fromN, List.map_drop]
    refine k Rg _ [(p1, os.take 2), (p2, os.drop 2)] ((q1.trans q2).trans q3) (same_none (q1.trans q2) nR) upd_same ⟨?_, ?_, ?_, ?_, ?_, ?_, Nat.le_refl _⟩
    · intro p hp
      rcases List.mem_cons.mp hp with rfl | hp
      · exact (q2.trans q3) _ _ (by rw [upd_same, c1])
      · rw [List.mem_singleton.mp hp]
        exact q3 _ _ (by rw [upd_same, c2])
    · intro p hp
      rcases List.mem_cons.mp hp with rfl | hp
      · exact ond.sublist (List.take_sublist _ _)
      · rw [List.mem_singleton.mp hp]
        exact ond.sublist (List.drop_sublist _ _)
    · intro p hp
      rcases List.mem_cons.mp hp with rfl | hp
      · show 2 ≤ (os.take 2).length
        rw [List.length_take]
        omega
      · rw [List.mem_singleton.mp hp]
        show 2 ≤ (os.drop 2).length
        rw [List.length_drop]
        omega
    · intro p hp
      rcases List.mem_cons.mp hp with rfl | hp
      · show (os.take 2).length ≤ 4
        rw [List.length_take]
        omega
      · rw [List.mem_singleton.mp hp]
        show (os.drop 2).length ≤ 4
        rw [List.length_drop]
        omega
    · intro p hp x hx
      rcases List.mem_cons.mp hp with rfl | hp
      · exact hos.mem_iff.mp (List.mem_of_mem_take hx)
      · rw [List.mem_singleton.mp hp] at hx
        exact hos.mem_iff.mp (List.mem_of_mem_drop hx)
    · intro x hx
      have := hos.mem_iff.mpr hx
      rw [← List.take_append_drop 2 os] at this
      rcases List.mem_append.mp this with q | q
      · exact ⟨(p1, os.take 2), List.mem_cons_self, q⟩
      · exact ⟨(p2, os.drop 2), by simp, q⟩
  · refine ⟨_, h2, sz8 (by simp), fun Rg nR => ?_⟩
    have q3 := same_upd (o := .lst [V.ref Or]) nR
    refine k Rg _ [(Or, os)] q3 nR upd_same ⟨?_, ?_, ?_, ?_, ?_, ?_, show 1 ≤ 2 by decide⟩
    · intro p hp
      rw [List.mem_singleton.mp hp]
      exact q3 _ _ hO
    · intro p hp
      rw [List.mem_singleton.mp hp]
      exact ond
    · intro p hp
      rw [List.mem_singleton.mp hp]
      show 2 ≤ os.length
      omega
    · intro p hp
      rw [List.mem_singleton.mp hp]
      show os.length ≤ 4
      omega
    · intro p hp x hx
      rw [List.mem_singleton.mp hp] at hx
      exact hos.mem_iff.mp hx
    · intro x hx
      exact ⟨(Or, os), List.mem_singleton.mpr rfl, hos.mem_iff.mpr hx⟩
section
variable {P : Program} {w : World} {K : PySem.W.Frag} {mg : Str → Option Value} {base : Heap}
def spRing (K : PySem.W.Frag) : Sp := fun vs H Q _ => ∃ (b : Addr) (mu : Addr → Prop), vs = [.ref b] ∧ mu b ∧ BagAt H b ∧ MuOk mu H ∧ ∀ v H' fs, WbS 9600 2400 fs → Rel b H H' → Dt K mT H' v (.tuple fs) → Q v H'
abbrev s_law_ring_web : Stmt := topS 44
theorem sc__law_ring_web : FnScope ["bag", "names", "order", "found", "rings", "name", "ring", "one", "behind", "ranks", "due", "two", "holdings", "more", "holding", "zoo"] ["bag"] (defScope s_law_ring_web) := ⟨rfl, rfl, rfl, by decide +kernel, rfl, by decide +kernel, by decide +kernel⟩
theorem ok__law_ring_web {f : Addr} {fd : FuncData} (F : Fun K "_law_ring_web" "_law_ring_web" s_law_ring_web f fd) (B : Bt mg) (TSO : mg "sorted" = none) (c__law_take : CalG P w K mg base 1 "_law_take" spTake) (c__law_some : CalG P w K mg base 2 "_law_some" spSome) (c__law_mixed : CalG P w K mg base 2 "_law_mixed" spMixed) (c__law_number : CalG P w K mg base 3 "_law_number" (spNumE K)) : FnG P w K mg base 4 f fd ["bag"] (spRing K) := by
  refine Fun.okG F sc__law_ring_web (fun vs H Q E h => ?_) (fun cdv A outer s H vs Q E hg hr h => ?_)
  · obtain ⟨_, _, rfl, _⟩ := h
    rfl
  obtain ⟨b, mu, rfl, hmu, hb, hM, k⟩ := h
  have hu := Room.u64 hr
  refine ⟨_, (pss_cons (ps_set (i := 1) sc__law_ring_web.nd rfl (Or.inl rfl) (pe_callB cr_sortedS (by rfl) TSO bb_sorted (pa_cons (pe_slice sl_list (pc c__law_mixed hg hr (by omega) (by rfl) (pa_cons (pv 0) (pa_cons (pe_lst (pa_cons pe_str (pa_cons pe_str (pa_cons pe_str (pa_cons pe_str pa_nil))))) pa_nil))) po_none (po_some (pc c__law_some hg hr (by omega) (by rfl) (pa_cons (pv 0) (pa_cons (pe_lst (pa_cons pe_int (pa_cons pe_int (pa_cons pe_int (pa_cons pe_int (pa_cons pe_int pa_nil)))))) pa_nil))))) pa_nil)))
    (pss_cons (ps_par (i := 2) (j := 3) rfl sc__law_ring_web.nd rfl rfl (by decide) rfl rfl (pa_cons (pc c__law_mixed hg hr (by omega) (by rfl) (pa_cons (pv 0) (pa_cons (pv 1) pa_nil))) (pa_cons (pe_lst pa_nil) pa_nil)) (by rfl))
    (pss_cons (ps_set (i := 4) sc__law_ring_web.nd rfl (Or.inl rfl) (pe_ifExp (pt_cmpR op_eq (pe_callB call_lenA (by rfl) B.len boot_len (pa_cons (pv 1) pa_nil)) pe_int (nomark _)) (pe_lst (pa_cons (pe_slice sl_list (pv 2) po_none (po_some pe_int)) (pa_cons (pe_slice sl_list (pv 2) (po_some pe_int) po_none) pa_nil))) (pe_lst (pa_cons (pv 2) pa_nil))))
    (pss_cons (ps_for PassesOwn.never rfl (pi_list (pv 1)) (pg_name (i := 5) sc__law_ring_web.nd rfl (Or.inr rfl))
      (pss_cons (ps_set (i := 6) sc__law_ring_web.nd rfl (Or.inl rfl) (pe_ix ix_list (pe_lc (own := [("one", 7)]) rfl sc__law_ring_web.nd (pi_list (pv 4)) (blkOk_by (own := [("one", 7)]) (N := ["bag", "names", "order", "found", "rings", "name", "ring", "one", "behind", "ranks", "due", "two", "holdings", "more", "holding", "zoo"]) (sc := (defScope s_law_ring_web)) (by decide +kernel)) (fun _ _ _ _ _ => (pg_name (i := 7) sc__law_ring_web.nd rfl (Or.inl rfl))) (fun _ _ _ _ _ => (pts_one (pt_cmpR (op_inT (K := K) rfl) (pv 5) (pv 7) (by rfl)))) (fun _ _ _ _ _ => (pv 7))) pe_int (fun _ _ => rfl)))
      (pss_cons (ps_set (i := 8) sc__law_ring_web.nd rfl (Or.inl rfl) (pe_ix ix_list (pv 6) (pe_op op_mod (pe_op op_add (pe_bm PySem.F.plainAttrs_list PySem.F.slot_list_index PySem.F.type_list_index mt_index (pv 6) (pa_cons (pv 5) pa_nil)) pe_int) (pe_callB call_lenA (by rfl) B.len boot_len (pa_cons (pv 6) pa_nil))) (fun _ _ => rfl)))
      (pss_cons (ps_par (i := 9) (j := 10) rfl sc__law_ring_web.nd rfl rfl (by decide) rfl rfl (pa_cons (pe_op op_add pe_int (pc c__law_take hg hr (by omega) (by rfl) (pa_cons (pv 0) (pa_cons pe_int pa_nil)))) (pa_cons (pe_tup (pa_cons pe_str (pa_cons pe_int (pa_cons (pc c__law_number hg hr (by omega) (by rfl) (pa_cons (pv 0) (pa_cons pe_int pa_nil))) pa_nil)))) pa_nil)) (by rfl))
      (pss_cons (ps_asg (pe_tup (pa_cons (pe_tup (pa_cons pe_str (pa_cons (pe_tup (pa_cons pe_int (pa_cons pe_int pa_nil))) pa_nil))) (pa_cons (pe_tup (pa_cons pe_str (pa_cons (pe_tup (pa_cons pe_int (pa_cons pe_int pa_nil))) pa_nil))) pa_nil))) (pg_tup (n := 2) rfl (pgs_cons (pg_name (i := 7) sc__law_ring_web.nd rfl (Or.inl rfl)) (pgs_cons (pg_name (i := 11) sc__law_ring_web.nd rfl (Or.inl rfl)) pgs_nil))))
      (pss_cons (ps_set (i := 12) sc__law_ring_web.nd rfl (Or.inl rfl) (pe_lst (pa_cons (pe_tup (pa_cons pe_str (pa_cons (pe_tup (pa_cons (pe_tup (pa_cons pe_str (pa_cons (pc c__law_number hg hr (by omega) (by rfl) (pa_cons (pv 0) (pa_cons pe_int pa_nil))) pa_nil))) pa_nil)) pa_nil))) (pa_cons (pe_tup (pa_cons (pv 8) (pa_cons (pe_op op_catA (pe_tup (pa_cons (pv 10) pa_nil)) (pe_op op_repU (pe_tup (pa_cons (pv 7) pa_nil)) (pc c__law_take hg hr (by omega) (by rfl) (pa_cons (pv 0) (pa_cons pe_int pa_nil))))) pa_nil))) pa_nil))))
      (pss_cons (ps_set (i := 13) sc__law_ring_web.nd rfl (Or.inl rfl) (pe_lst (pa_cons (pe_tup (pa_cons pe_str (pa_cons (pe_tup (pa_cons (pe_tup (pa_cons pe_str (pa_cons (pe_op op_sub (pv 9) pe_int) (pa_cons (pe_tup (pa_cons pe_int (pa_cons pe_int pa_nil))) pa_nil)))) pa_nil)) pa_nil))) (pa_cons (pe_tup (pa_cons (pv 8) (pa_cons (pe_tup (pa_cons (pv 7) pa_nil)) pa_nil))) (pa_cons (pe_tup (pa_cons (pe_ix ix_list (pv 2) pe_int (fun _ _ => rfl)) (pa_cons (pe_tup (pa_cons (pv 11) pa_nil)) pa_nil))) pa_nil)))))
      (pss_cons (ps_for PassesOwn.never rfl (pi_list (pe_slice sl_list (pv 13) po_none (po_some (pc c__law_some hg hr (by omega) (by rfl) (pa_cons (pv 0) (pa_cons (pe_lst (pa_cons pe_int (pa_cons pe_int (pa_cons pe_int (pa_cons pe_int pa_nil))))) pa_nil)))))) (pg_name (i := 14) sc__law_ring_web.nd rfl (Or.inl rfl))
        (pss_one (ps_if (pt_cmpR op_ne (pe_ix ix_tup (pv 14) pe_int (fun _ _ => rfl)) (pv 5) (nomark _))
          (pss_one (ps_expr (pe_bm PySem.F.plainAttrs_list PySem.F.slot_list_insert PySem.F.type_list_insert mt_insert (pv 12) (pa_cons (pc c__law_take hg hr (by omega) (by rfl) (pa_cons (pv 0) (pa_cons (pe_op op_add (pe_callB call_lenA (by rfl) B.len boot_len (pa_cons (pv 12) pa_nil)) pe_int) pa_nil))) (pa_cons (pv 14) pa_nil)))))
          pss_nil)))
      (pss_cons (ps_set (i := 12) sc__law_ring_web.nd rfl (Or.inl rfl) (pe_op op_cat (pv 12) (pe_op op_rep (pe_lst (pa_cons (pe_tup (pa_cons pe_str (pa_cons (pe_tup (pa_cons (pv 7) pa_nil)) pa_nil))) pa_nil)) (pe_callTy call_int1 (by rfl) B.int bb_int (pa_cons (pe_cmpR op_eq (pc c__law_take hg hr (by omega) (by rfl) (pa_cons (pv 0) (pa_cons pe_int pa_nil))) pe_int (nomark _)) pa_nil)))))
      (pss_one (ps_expr (pe_bm PySem.F.plainAttrs_list PySem.F.slot_list_append PySem.F.type_list_append mt_append (pv 3) (pa_cons (pe_tup (pa_cons (pv 5) (pa_cons (pv 9) (pa_cons (pe_callTy call_tuple_of (by rfl) B.tuple bb_tuple (pa_cons (pv 12) pa_nil)) pa_nil)))) pa_nil)))))))))))))
    (pss_cons (ps_set (i := 15) sc__law_ring_web.nd rfl (Or.inl rfl) (pe_lst (pa_cons (pe_tup (pa_cons pe_str (pa_cons (pe_tup (pa_cons (pe_tup (pa_cons pe_str (pa_cons (pe_tup (pa_cons pe_int (pa_cons pe_int pa_nil))) pa_nil))) pa_nil)) pa_nil))) (pa_cons (pe_tup (pa_cons pe_str (pa_cons (pe_tup (pa_cons (pe_tup (pa_cons pe_str (pa_cons pe_int (pa_cons (pe_tup (pa_cons pe_int (pa_cons pe_int pa_nil))) pa_nil)))) (pa_cons (pe_tup (pa_cons pe_str (pa_cons (pe_tup (pa_cons pe_int (pa_cons pe_int pa_nil))) pa_nil))) pa_nil))) pa_nil))) pa_nil))))
    (pss_cons (ps_set (i := 15) sc__law_ring_web.nd rfl (Or.inl rfl) (pe_op op_cat (pv 15) (pe_op op_rep (pe_lst (pa_cons (pe_tup (pa_cons (pe_ix ix_list (pv 2) pe_int (fun _ _ => rfl)) (pa_cons (pe_tup (pa_cons (pe_tup (pa_cons pe_str (pa_cons (pe_tup (pa_cons pe_int (pa_cons pe_int pa_nil))) pa_nil))) pa_nil)) pa_nil))) pa_nil)) (pe_callTy call_int1 (by rfl) B.int bb_int (pa_cons (pe_cmpR op_eq (pc c__law_take hg hr (by omega) (by rfl) (pa_cons (pv 0) (pa_cons pe_int pa_nil))) pe_int (nomark _)) pa_nil)))))
    (pss_one (ps_ret (pe_op op_catA (pe_callTy call_tuple_of (by rfl) B.tuple bb_tuple (pa_cons (pv 3) pa_nil)) (pe_tup (pa_cons (pe_tup (pa_cons pe_str (pa_cons pe_int (pa_cons (pe_callTy call_tuple_of (by rfl) B.tuple bb_tuple (pa_cons (pv 15) pa_nil)) pa_nil)))) pa_nil))))))))))), ?_⟩
  have sz9 : ∀ {xs : List V}, xs.length ≤ 1000 → xs.length ≤ sizeLine := fun h => Nat.le_of_lt (small1000 h)
  -- names
  refine ⟨_, rfl, sz9 (by simp), fun p1 n1 => ?_⟩
  have s1 := same_upd (o := .lst (RNM.map V.str)) n1
  refine ⟨b, p1, _, rfl, hb.same s1, bag_ne hb n1, upd_same, by simp, fun p2 H2 zs R2 hp2 np2 hz => ?_⟩
  obtain ⟨zn, rfl, hzn⟩ := perm_strs (us := RNM) hz
  have R2' := (Rel.of_same hb s1).trans R2
  refine nopart ?_
  refine Sw.gn_some (K := K) (b := b) (mu := mu) (H0 := H2) (D := fun d => ∃ j : Nat, d = .int j ∧ 2 ≤ j ∧ j ≤ 4) (n := 5) hmu rfl (gnA_cons hmu (Sw.ge_int.gn ⟨2, rfl, by decide, by decide⟩) (gnA_cons hmu (Sw.ge_int.gn ⟨3, rfl, by decide, by decide⟩) (gnA_cons hmu (Sw.ge_int.gn ⟨2, rfl, by decide, by decide⟩) (gnA_cons hmu (Sw.ge_int.gn ⟨4, rfl, by decide, by decide⟩) (gnA_cons hmu (Sw.ge_int.gn ⟨4, rfl, by decide, by decide⟩) gnA_nil))))) (by decide) (by decide) H2 (.refl R2'.bag) (hM.rel R2') _ fun v6 H3 d6 hd6 R3 hv6 => ?_
  obtain ⟨n, rfl, m0, m1⟩ := hd6
  cases hv6
  have p2b : p2 ≠ b := bag_ne (hb.same s1) np2
  have hp3 := R3.keep _ _ p2b hp2
  refine ⟨n, rfl, p2, _, rfl, .inl (.inl hp3), fun p3 n3 => ?_⟩
  have s3 := same_upd (o := .lst (cutV (zn.map V.str) none (some (n : Int)))) n3
  refine ⟨p3, zn.take n, rfl, .inl (.inl (by rw [upd_same, cutV_upto, List.map_take])), by rw [List.length_take]; omega, fun ns Nm pm hs nNm => ?_⟩
  have sN := same_upd (o := .lst (ns.map V.str)) nNm
  have RN := ((R2'.trans R3).same s3).same sN
  have hNm : (upd (upd H3 p3 (.lst (cutV (zn.map V.str) none (some (n : Int))))) Nm (.lst (ns.map V.str))) Nm = some (.lst (ns.map V.str)) := upd_same
  have NmB := bag_ne ((R2'.trans R3).same s3).bag nNm
  have hzl : zn.length = 4 := hzn.length_eq
  have hns : ∀ x ∈ ns, x ∈ RNM := fun x hx => hzn.mem_iff.mp (List.mem_of_mem_take (pm.mem_iff.mp hx))
  have hnl : ns.length = n := by rw [pm.length_eq, List.length_take]; omega
  have hasc : ascS ns = true := str_nodup (ns := zn.take n) pm ((List.take_sublist _ _).nodup (hzn.nodup_iff.mpr rnm_nd)) hs
  revert RN hNm
  generalize upd (upd H3 p3 (.lst (cutV (zn.map V.str) none (some (n : Int))))) Nm (.lst (ns.map V.str)) = H4
  intro RN hNm
  refine ⟨_, rfl, _, rfl, b, Nm, _, rfl, RN.bag, NmB, hNm, by rw [List.length_map]; omega, fun Or H5 zs R5 hOr nOr hz2 => ?_⟩
  obtain ⟨os, rfl, hos⟩ := perm_strs hz2
  have OrB := bag_ne RN.bag nOr
  have hol : os.length = n := by rw [hos.length_eq, hnl]
  refine ⟨Nat.zero_le _, fun Fd nFd => ⟨_, _, rfl, ?_⟩⟩
  have FdB := bag_ne (RN.trans R5).bag nFd
  have ndn := asc_nodup hasc
  have hNm5 := R5.keep _ _ NmB hNm
  have eF := same_upd (o := .lst []) nFd
  refine rings_use (K := K) rfl rfl (eF _ _ hNm5) (eF _ _ hOr) hos (by omega) (by omega) ndn fun Rg H6 RL s6 nRg hRg ring => ?_
  have R06 : Rel b H (upd H5 Fd (.lst [])) := (RN.trans R5).same eF
  have hF6 := s6 _ _ (show upd H5 Fd (.lst []) Fd = _ from upd_same)
  have hN6 := s6 _ _ (eF _ _ hNm5)
  have hO6 := s6 _ _ (eF _ _ hOr)
  have RgF : Rg ≠ Fd := fun e => by rw [e, upd_same] at nRg; cases nRg
  have RgB := bag_ne R06.bag nRg
  have R5_6 : Rel b H5 H6 := Rel.of_same (RN.trans R5).bag (eF.trans s6)
  have ringB : ∀ p ∈ RL, p.1 ≠ b ∧ p.1 ≠ Fd := fun p hp => by
    have h1 := ring.at_ p hp
    refine ⟨fun e => ?_, fun e => ?_⟩
    · rw [e] at h1
      obtain ⟨x0, y0, z0, l0, cs, q, _⟩ := R5_6.bag
      rw [h1] at q
      have q2 := Option.some.inj q
      injection q2 with q3
      cases hp2 : p.2 with
      | nil => rw [hp2] at q3; cases q3
      | cons a l => rw [hp2] at q3; simp at q3
    · rw [e, hF6] at h1
      have h2 := ring.two p hp
      have : p.2.map V.str = [] := by injection (Option.some.inj h1).symm
      rw [List.map_eq_nil_iff] at this
      rw [this] at h2
      simp at h2
  have OrF : Or ≠ Fd := fun e => by rw [e, hF6] at hO6; have := (Option.some.inj hO6); injection this with q; have h3 := congrArg List.length q; simp at h3; omega
  have NmF : Nm ≠ Fd := fun e => by rw [e, hF6] at hN6; have := (Option.some.inj hN6); injection this with q; have h3 := congrArg List.length q; simp at h3; omega
  obtain ⟨o0, os', rfl⟩ : ∃ o0 os', os = o0 :: os' := by
    cases os with
    | nil => simp at hol; omega
    | cons a b => exact ⟨a, b, rfl⟩
  have ho0 : o0 ∈ ns := hos.mem_iff.mp List.mem_cons_self
  refine ⟨_, rfl, Nm, rfl, ⟨_, .inl (.inl hN6)⟩, for_it (walk_list (K := K) (a := Nm) (xs := ns.map V.str)) (fun i σ H' => ∃ (o5 o6 o7 o8 o9 o10 o11 o12 o13 o14 : Option V) (ys : List V) (fs : List PyData), σ = [some (.ref b), some (.ref Nm), some (.ref Or), some (.ref Fd), some (.ref Rg), o5, o6, o7, o8, o9, o10, o11, o12, o13, o14, none] ∧ Rel b H5 H' ∧ KF b Fd H6 H' ∧ H' Fd = some (.lst ys) ∧ DtA K mT H' ys fs ∧ fs.all firmD = true ∧ smA fs = true ∧ (∀ f ∈ fs, f.depth ≤ 10) ∧ fs.map nmS = ns.take i ∧ PyData.weightAll fs ≤ 1000 * i ∧ (fs.flatMap hldL).length ≤ 6 * i) ⟨_, _, _, _, _, _, _, _, _, _, [], [], rfl, R5_6, .refl, hF6, .nil, rfl, rfl, (fun _ h => nomatch h), rfl, Nat.zero_le _, Nat.zero_le _⟩ (fun i σ H' _ h => ?_) (fun i x σ H7 H8 hi h y => ?_) fun σ H7 h => ?_⟩
  · obtain ⟨_, _, _, _, _, _, _, _, _, _, _, _, _, _, h, _⟩ := h
    exact .inl (.inl (h _ _ NmB NmF hN6))
  · obtain ⟨o5, o6, o7, o8, o9, o10, o11, o12, o13, o14, ys, fs, rfl, R7, k7, hF7, hA7, hall, hsm, hdp, hnm, hwt, hcn⟩ := h
    obtain ⟨rfl, hx⟩ := y
    obtain ⟨nm, hnm', rfl⟩ := str_at hx
    have hnmN := List.mem_of_getElem? hnm'
    have hnmR := hns nm hnmN
    obtain ⟨rz1, rz2, rz3, rz4, rz5⟩ := rnm_zoo nm hnmR
    have hRg8 := k7 _ _ RgB RgF hRg
    have hO8 := k7 _ _ OrB OrF hO6
    have ring8 : ∀ p ∈ RL, H8 p.1 = some (.lst (p.2.map V.str)) := fun p hp => k7 _ _ (ringB p hp).1 (ringB p hp).2 (ring.at_ p hp)
    have bag8 := R7.bag
    have M8 := hM.rel (((RN.trans R5)).trans R7)
    -- the ring
    obtain ⟨pq, hpq, hinq⟩ := ring.all nm hnmN
    have hinF : pq ∈ RL.filter fun p => decide (nm ∈ p.2) := List.mem_filter.mpr ⟨hpq, decide_eq_true hinq⟩
    obtain ⟨p0, prest, hpr⟩ : ∃ p0 prest, (RL.filter fun p => decide (nm ∈ p.2)) = p0 :: prest := by
      cases q : RL.filter fun p => decide (nm ∈ p.2) with
      | nil => rw [q] at hinF; exact absurd hinF List.not_mem_nil
      | cons a b => exact ⟨a, b, rfl⟩
    have hp0m : p0 ∈ RL.filter fun p => decide (nm ∈ p.2) := by rw [hpr]; exact List.mem_cons_self
    obtain ⟨hp0R, hp0n⟩ := List.mem_filter.mp hp0m
    have hp0n : nm ∈ p0.2 := of_decide_eq_true hp0n
    refine ⟨_, rfl, Rg, rfl, ⟨_, .inl (.inl hRg8)⟩, fun D nD => ?_⟩
    have hfew := ring.few
    refine lc_it (walk_list (K := K) (a := Rg) (xs := RL.map fun p => V.ref p.1)) (fun j H' => Same H8 H' ∧ H' D = some (.lst (((RL.take j).filter fun p => decide (nm ∈ p.2)).map fun p => V.ref p.1))) ⟨same_upd nD, by rw [upd_same]; rfl⟩ (fun j H' _ h => .inl (.inl (h.1 _ _ hRg8))) ?_ ?_
    · rintro j x H9 HA hj ⟨s9, hD9⟩ ⟨rfl, hxj⟩
      rw [List.getElem?_map] at hxj
      obtain ⟨pj, hpj, rfl⟩ : ∃ pj, RL[j]? = some pj ∧ x = .ref pj.1 := by
        cases e : RL[j]? with
        | none => rw [e] at hxj; cases hxj
        | some y => rw [e] at hxj; cases hxj; exact ⟨y, rfl, rfl⟩
      have hpm := List.mem_of_getElem? hpj
      have ht : ((RL.take (j + 1)).filter fun p => decide (nm ∈ p.2)).map (fun p => V.ref p.1) = ((RL.take j).filter fun p => decide (nm ∈ p.2)).map (fun p => V.ref p.1) ++ if nm ∈ pj.2 then [V.ref pj.1] else [] := by
        rw [List.take_add_one, hpj, List.filter_append, List.map_append]
        by_cases q : nm ∈ pj.2 <;> simp [q]
      have hlen := List.length_filter_le (fun p : Addr × List Str => decide (nm ∈ p.2)) (RL.take j)
      rw [List.length_take] at hlen
      refine ⟨rfl, _, rfl, _, rfl, nm, pj.1, pj.2, rfl, rfl, .inl (.inl (.inl (s9 _ _ (ring8 pj hpm)))), _, rfl, iteP (fun hin => ?_) fun hin => ?_⟩
      · refine ⟨_, rfl, _, hD9, ?_, fun b' o q => ?_, ?_⟩
        · rw [List.length_map]
          exact small1000 (by omega)
        · rw [upd_ne (ne_of_none q nD)]
          exact s9 _ _ q
        · rw [upd_same, ht, if_pos hin]
      · refine ⟨s9, ?_⟩
        rw [hD9, ht, if_neg hin, List.append_nil]
    rintro H9 ⟨s9, hD9⟩
    rw [List.length_map, List.take_length, hpr] at hD9
    have hr9 := s9 _ _ (ring8 p0 hp0R)
    -- behind
    obtain ⟨j, z, e1, e2, e3⟩ := idx_str hp0n
    obtain ⟨n', hj, rfl⟩ := str_at e1
    have en : n' = nm := by simpa [eqV] using e2
    subst en
    have hjl := (List.getElem?_eq_some_iff.mp hj).1
    have h2l := ring.two p0 hp0R
    have h4l := ring.four p0 hp0R
    have hml : (j + 1) % p0.2.length < p0.2.length := Nat.mod_lt _ (by omega)
    obtain ⟨bh, hbh⟩ : ∃ bh, p0.2[(j + 1) % p0.2.length]? = some bh := ⟨_, List.getElem?_eq_getElem hml⟩
    have hbne : bh ≠ n' := fun e => by
      have e4 := (List.getElem?_inj hml (ring.nd p0 hp0R)).mp (show p0.2[(j + 1) % p0.2.length]? = p0.2[j]? by rw [hbh, hj, e])
      by_cases q : j + 1 < p0.2.length
      · rw [Nat.mod_eq_of_lt q] at e4
        omega
      · rw [show j + 1 = p0.2.length by omega, Nat.mod_self] at e4
        omega
    have hbN := ring.sub p0 hp0R bh (List.mem_of_getElem? hbh)
    obtain ⟨_, _, hbR, _, _⟩ := rnm_zoo bh (hns bh hbN)
    refine ⟨D, _, 0, .ref p0.1, rfl, rfl, .inl (.inl hD9), atI_nat (j := 0) rfl, ?_⟩
    refine ⟨_, rfl, _, rfl, ty_lst hr9, _, rfl, p0.1, _, _, j, _, rfl, rfl, .inl (.inl hr9), rfl, flatT, e1, e2, e3, _, _, rfl, rfl, _, rfl, _, p0.2.length, rfl, .inl ⟨_, .inl (.inl hr9), by rw [List.length_map]⟩, _, _, rfl, rfl, by omega, p0.1, _, _, .str bh, rfl, rfl, .inl (.inl hr9), ?_, ?_⟩
    · rw [show ((j : Int) + 1) % (p0.2.length : Int) = (((j + 1) % p0.2.length : Nat) : Int) from rfl]
      exact atI_nat (by rw [List.getElem?_map, hbh]; rfl)
    have R9 := R7.same s9
    have bag9 := R9.bag
    have M9 := M8.rel (Rel.of_same bag8 s9)
    refine ⟨_, rfl, b, 2, rfl, bag9, by decide, by decide, fun c HA c0 c1 RA => ⟨_, _, rfl, rfl, _, rfl, 9, by decide, by decide, b, mu, rfl, hmu, RA.bag, M9.rel RA, fun vn HB dn hdn RB hvn _ => ⟨sz9 (by simp), fun t1 nt1 => ⟨_, _, rfl, ?_⟩⟩⟩⟩
    have u1 := same_upd (o := .tup [V.str "due", V.int 0, vn]) nt1
    have dDue : Dt K mT (upd HB t1 (.tup [V.str "due", V.int 0, vn])) (.ref t1) (.tuple [.str "due", .int 0, dn]) := tup_new nt1 (.cons (.str "due") (.cons (.int 0) (.cons (Dt.pure (sd_num hdn).1.ok hvn) .nil)))
    have RAB := (RA.trans RB).same u1
    refine ⟨sz9 (by simp), fun a1 na1 => ⟨sz9 (by simp), fun a2 na2 => ⟨sz9 (by simp), fun a3 na3 => ⟨sz9 (by simp), fun a4 na4 => ⟨sz9 (by simp), fun a5 na5 => ⟨a5, _, rfl, .of upd_same, rfl, _, _, rfl, _, _, rfl, rfl, ?_⟩⟩⟩⟩⟩⟩
    have w1 := same_upd (o := .tup [V.int 1, V.int 1]) na1
    have w2 := same_upd (o := .tup [V.str "shares", V.ref a1]) na2
    have w3 := same_upd (o := .tup [V.int 2, V.int 1]) na3
    have w4 := same_upd (o := .tup [V.str "shares", V.ref a3]) na4
    have w5 := same_upd (o := .tup [V.ref a2, V.ref a4]) na5
    have dOne := (tup_new (K := K) (mu := mT) na2 (.cons (.str "shares") (.cons (tup_new na1 (.cons (.int 1) (.cons (.int 1) .nil))) .nil))).fut (mu := mT) (.of_same ((w3.trans w4).trans w5))
    have dTwo := (tup_new (K := K) (mu := mT) na4 (.cons (.str "shares") (.cons (tup_new na3 (.cons (.int 2) (.cons (.int 1) .nil))) .nil))).fut (mu := mT) (.of_same w5)
    have wAll := (((w1.trans w2).trans w3).trans w4).trans w5
    have dDue1 := dDue.fut (.of_same wAll)
    have RC1 := RAB.same wAll
    generalize upd (upd (upd (upd (upd (upd HB t1 (.tup [V.str "due", V.int 0, vn])) a1 (.tup [V.int 1, V.int 1])) a2 (.tup [V.str "shares", V.ref a1])) a3 (.tup [V.int 2, V.int 1])) a4 (.tup [V.str "shares", V.ref a3])) a5 (.tup [V.ref a2, V.ref a4]) = C1 at dOne dTwo dDue1 RC1
    have hr1 : 1 ≤ 1 + c ∧ 1 + c ≤ 2 := by omega
    have M1 := M9.rel RC1
    have RC1' : Rel b H9 C1 := RC1
    have gcOne : GC (1 + c) 52 (.tuple [.str "shares", .tuple [.int 1, .int 1]]) := gc_shares num_11
    have gcTwo : GC (1 + c) 52 (.tuple [.str "shares", .tuple [.int 2, .int 1]]) := gc_shares num_21
    have gcDue : GC (1 + c) 53 (.tuple [.str "due", .int 0, dn]) := gc_due (by decide) (by omega) (by omega) hdn
    -- holdings
    refine ⟨_, rfl, 3, by decide, by decide, b, mu, rfl, hmu, RC1.bag, M1, fun vq HC dq hdq RC hvq _ => ⟨sz9 (by simp), fun u1' nu1 => ⟨sz9 (by simp), fun u2' nu2 => ⟨sz9 (by simp), fun u3' nu3 => ⟨_, rfl, _, rfl, sz9 (by simp), fun u4' nu4 => ⟨_, rfl, sz9 (by simp), fun u5' nu5 => ?_⟩⟩⟩⟩⟩⟩
    have x1 := same_upd (o := .tup [V.str "shares", vq]) nu1
    have x2 := same_upd (o := .tup [V.ref u1']) nu2
    have x3 := same_upd (o := .tup [V.str "x", V.ref u2']) nu3
    have x4 := same_upd (o := .tup [V.ref t1]) nu4
    have x5 := same_upd (o := .tup [V.ref a2]) nu5
    have x15 := (((x1.trans x2).trans x3).trans x4).trans x5
    have dX := (tup_new (K := K) (mu := mT) nu3 (.cons (.str "x") (.cons (tup_new nu2 (.cons (tup_new nu1 (.cons (.str "shares") (.cons (Dt.pure (mv := mT) (sd_num hdq).1.ok hvq) .nil))) .nil)) .nil))).fut (.of_same (x4.trans x5))
    have hS4 : SqT K _ u4' [V.ref t1] := x5.seqT (.of (upd_same (H := upd (upd (upd HC u1' (.tup [V.str "shares", vq])) u2' (.tup [V.ref u1'])) u3' (.tup [V.str "x", V.ref u2']))))
    have hS5 : SqT K _ u5' [V.ref a2] := .of (upd_same (H := upd (upd (upd (upd HC u1' (.tup [V.str "shares", vq])) u2' (.tup [V.ref u1'])) u3' (.tup [V.str "x", V.ref u2'])) u4' (.tup [V.ref t1])))
    have RC2 := RC1.trans (RC.same x15)
    have F2 : Fut mT C1 _ := (Rel.futT RC RC1.bag).trans (.of_same x15)
    generalize upd (upd (upd (upd (upd HC u1' (.tup [V.str "shares", vq])) u2' (.tup [V.ref u1'])) u3' (.tup [V.str "x", V.ref u2'])) u4' (.tup [V.ref t1])) u5' (.tup [V.ref a2]) = C2 at dX hS4 hS5 RC2 F2
    refine ⟨_, rfl, b, 2, rfl, RC2.bag, by decide, by decide, fun cc HD cc0 cc1 RD => ⟨u5', cc, _, rfl, rfl, sq_fut hS5 (Rel.futT RD RC2.bag), by simp, cc0, by omega, by simp, fun u6' HE sE hu6 => ?_⟩⟩
    have F3 := F2.trans ((Rel.futT RD RC2.bag).trans (.of_same sE))
    have F23 : Fut mT C2 HE := (Rel.futT RD RC2.bag).trans (.of_same sE)
    have RC3 := (RC2.trans RD).same sE
    refine cat_use (sq_fut hS4 F23) hu6 (by simp only [List.length_flatten, List.map_replicate, List.sum_replicate_nat, List.length_cons, List.length_nil]; have := sizeLine_eq; omega) fun u7' HF sF hu7 => ⟨sz9 (by simp), fun u8' nu8 => ⟨sz9 (by simp), fun Hg nHg => ?_⟩⟩
    have y1 := same_upd (o := .tup [V.str bh, V.ref u7']) nu8
    have y2 := same_upd (o := .lst [V.ref u3', V.ref u8']) nHg
    have F34 : Fut mT C2 HF := F23.trans (.of_same sF)
    have F14 : Fut mT C1 HF := F3.trans (.of_same sF)
    have dB : Dt K mT (upd HF u8' (.tup [V.str bh, V.ref u7'])) (.ref u8') (.tuple [.str bh, .tuple ([.tuple [.str "due", .int 0, dn]] ++ List.replicate cc.toNat (.tuple [.str "shares", .tuple [.int 1, .int 1]]))]) :=
      tup_new nu8 (.cons (.str bh) (.cons (dt_tupS hu7 ((DtA.cons (dDue1.fut F14) .nil).append (dtA_rep (dOne.fut F14) cc.toNat))) .nil))
    have dX4 := (dX.fut F34).fut (.of_same y1)
    have dHs : DtA K mT (upd HF u8' (.tup [V.str bh, V.ref u7'])) [V.ref u3', V.ref u8'] _ := .cons dX4 (.cons dB .nil)
    have gX : GH1 n' (1 + c) 58 (.tuple [.str "x", .tuple [.tuple [.str "shares", dq]]]) := gh1 (w := 53) (by decide) rz4 (by simp) (fun c' hc => by
      rw [List.mem_singleton.mp hc]
      exact ⟨(gc_shares (r := 1 + c) hdq).ok, (gc_shares (r := 1 + c) hdq).sm, (gc_shares (r := 1 + c) hdq).dp⟩) (by
      have := (gc_shares (r := 1 + c) hdq).wt
      simp only [PyData.weightAll]
      omega)
    have hccn : cc.toNat ≤ 1 := by omega
    have gB : GH1 n' (1 + c) 112 (.tuple [.str bh, .tuple ([.tuple [.str "due", .int 0, dn]] ++ List.replicate cc.toNat (.tuple [.str "shares", .tuple [.int 1, .int 1]]))]) := gh1 (w := 107) hbR hbne (by simp) (fun c' hc => by
      rcases List.mem_append.mp hc with q | q
      · rw [List.mem_singleton.mp q]
        exact ⟨gcDue.ok, gcDue.sm, gcDue.dp⟩
      · rw [(List.mem_replicate.mp q).2]
        exact ⟨gcOne.ok, gcOne.sm, gcOne.dp⟩) (by
      have h1 := gcDue.wt
      have h2 := gcOne.wt
      rcases Nat.le_one_iff_eq_zero_or_eq_one.mp hccn with q | q
      · rw [q]
        simp only [List.replicate, List.append_nil, PyData.weightAll] at h1 h2 ⊢
        omega
      · rw [q]
        simp only [List.replicate, List.cons_append, List.nil_append, PyData.weightAll] at h1 h2 ⊢
        omega)
    have gh0 := (GH.nil.snoc gX).snoc gB
    have RC4 := (RC3.same sF).same y1
    have HgN : H9 Hg = none := RC4.some nHg
    have HgB := bag_ne RC4.bag nHg
    have F15 := F14.trans (.of_same y1)
    generalize upd HF u8' (.tup [V.str bh, V.ref u7']) = C4 at dHs RC4 nHg F15 y2
    have hHg0 : upd C4 Hg (.lst [V.ref u3', V.ref u8']) Hg = some (.lst [V.ref u3', V.ref u8']) := upd_same
    have F16 := F15.trans (.of_same y2)
    have dHs5 := dHs.fut (.of_same y2)
    have RC5 := RC4.same y2
    have R45 := Rel.of_same RC4.bag y2
    generalize upd C4 Hg (.lst [V.ref u3', V.ref u8']) = C5 at hHg0 F16 dHs5 RC5 R45
    -- more
    have hO5 := RC5.keep _ _ OrB (s9 _ _ hO8)
    refine ⟨_, rfl, _, _, rfl, rfl, sz9 (by simp), fun v1 nv1 => ⟨sz9 (by simp), fun v2 nv2 => ⟨sz9 (by simp), fun v3 nv3 => ⟨sz9 (by simp), fun v4 nv4 => ⟨_, rfl, _, rfl, sz9 (by simp), fun v5 nv5 => ⟨sz9 (by simp), fun v6 nv6 => ?_⟩⟩⟩⟩⟩⟩
    have z1 := same_upd (o := .tup [V.int 3, V.int 1]) nv1
    have z2 := same_upd (o := .tup [V.str "due", V.int (1 + c - 1), V.ref v1]) nv2
    have z3 := same_upd (o := .tup [V.ref v2]) nv3
    have z4 := same_upd (o := .tup [V.str "y", V.ref v3]) nv4
    have z5 := same_upd (o := .tup [V.ref a2]) nv5
    have z6 := same_upd (o := .tup [V.str bh, V.ref v5]) nv6
    have z16 := ((((z1.trans z2).trans z3).trans z4).trans z5).trans z6
    have dM1 := (tup_new (K := K) (mu := mT) nv4 (.cons (.str "y") (.cons (tup_new nv3 (.cons (tup_new nv2 (.cons (.str "due") (.cons (.int (1 + c - 1)) (.cons (tup_new nv1 (.cons (.int 3) (.cons (.int 1) .nil))) .nil)))) .nil)) .nil))).fut (.of_same (z5.trans z6))
    have dM2 := tup_new (K := K) (mu := mT) nv6 (.cons (.str bh) (.cons (tup_new nv5 (.cons ((dOne.fut F16).fut (.of_same (((z1.trans z2).trans z3).trans z4))) .nil)) .nil))
    have hO6' := z16 _ _ hO5
    have dTwo6 := (dTwo.fut F16).fut (.of_same z16)
    have hHg6 := z16 _ _ hHg0
    have dHs6 := dHs5.fut (.of_same z16)
    have RC6 := RC5.same z16
    have R46 := R45.same z16
    generalize upd (upd (upd (upd (upd (upd C5 v1 (.tup [V.int 3, V.int 1])) v2 (.tup [V.str "due", V.int (1 + c - 1), V.ref v1])) v3 (.tup [V.ref v2])) v4 (.tup [V.str "y", V.ref v3])) v5 (.tup [V.ref a2])) v6 (.tup [V.str bh, V.ref v5]) = C6 at dM1 dM2 hO6' dTwo6 hHg6 dHs6 RC6 R46
    refine ⟨_, rfl, Or, _, 0, .str o0, rfl, rfl, .inl (.inl hO6'), atI_nat (j := 0) rfl, _, rfl, sz9 (by simp), fun v7 nv7 => ⟨sz9 (by simp), fun v8 nv8 => ⟨sz9 (by simp), fun Mo nMo => ?_⟩⟩⟩
    have q7 := same_upd (o := .tup [V.ref a4]) nv7
    have q8 := same_upd (o := .tup [V.str o0, V.ref v7]) nv8
    have q9 := same_upd (o := .lst [V.ref v4, V.ref v6, V.ref v8]) nMo
    have dM3 := tup_new (K := K) (mu := mT) nv8 (.cons (.str o0) (.cons (tup_new nv7 (.cons dTwo6 .nil)) .nil))
    have q79 := (q7.trans q8).trans q9
    have dMo : DtA K mT (upd (upd (upd C6 v7 (.tup [V.ref a4])) v8 (.tup [V.str o0, V.ref v7])) Mo (.lst [V.ref v4, V.ref v6, V.ref v8])) [V.ref v4, V.ref v6, V.ref v8] _ := .cons (dM1.fut (.of_same q79)) (.cons (dM2.fut (.of_same q79)) (.cons (dM3.fut (.of_same q9)) .nil))
    have hMo := upd_same (H := upd (upd C6 v7 (.tup [V.ref a4])) v8 (.tup [V.str o0, V.ref v7])) (a := Mo) (o := .lst [V.ref v4, V.ref v6, V.ref v8])
    have hHg7 := q79 _ _ hHg6
    have dHs7 := dHs6.fut (.of_same q79)
    have RC7 := RC6.same q79
    have R47 := R46.same q79
    have MoB := bag_ne ((RC6.same q7).same q8).bag nMo
    have MoHg : Mo ≠ Hg := fun e => by rw [e, (q7.trans q8) _ _ hHg6] at nMo; cases nMo
    generalize upd (upd (upd C6 v7 (.tup [V.ref a4])) v8 (.tup [V.str o0, V.ref v7])) Mo (.lst [V.ref v4, V.ref v6, V.ref v8]) = C7 at dMo hMo hHg7 dHs7 RC7 R47
    have hr6 : 1 + c ≤ 6 := by omega
    -- each of them, if it is no holding of the firm's own
    have gMo : ∀ e ∈ ([.tuple [.str "y", .tuple [.tuple [.str "due", .int (1 + c - 1), .tuple [.int 3, .int 1]]]], .tuple [.str bh, .tuple [.tuple [.str "shares", .tuple [.int 1, .int 1]]]], .tuple [.str o0, .tuple [.tuple [.str "shares", .tuple [.int 2, .int 1]]]]] : List PyData), ∃ hn os, e = .tuple [.str hn, .tuple os] ∧ (hn ≠ n' → GH1 n' (1 + c) 70 e) := fun e he => by
      have one : ∀ {x : PyData} {w : Nat}, GC (1 + c) w x → w ≤ 60 → PyData.weightAll [x] ≤ 61 ∧ ∀ c' ∈ [x], clm (1 + c) c' = true ∧ smD c' = true ∧ c'.depth ≤ 6 := fun g hw => by
        have := g.wt
        refine ⟨by simp only [PyData.weightAll]; omega, fun c' hc => ?_⟩
        rw [List.mem_singleton.mp hc]
        exact ⟨g.ok, g.sm, g.dp⟩
      obtain ⟨_, _, hoR, _, _⟩ := rnm_zoo o0 (hns o0 ho0)
      have g3 := gc_due (r := 1 + c) (c := 1 + c - 1) (by omega) (by omega) hr6 num_31
      simp only [List.mem_cons, List.not_mem_nil, or_false] at he
      rcases he with rfl | rfl | rfl
      · exact ⟨_, _, rfl, fun hne => gh1 (w := 61) (by decide) hne (by simp) (one g3 (by decide)).2 (one g3 (by decide)).1 |>.mono (by decide)⟩
      · exact ⟨_, _, rfl, fun hne => gh1 (w := 61) hbR hne (by simp) (one gcOne (by decide)).2 (one gcOne (by decide)).1 |>.mono (by decide)⟩
      · exact ⟨_, _, rfl, fun hne => gh1 (w := 61) hoR hne (by simp) (one gcTwo (by decide)).2 (one gcTwo (by decide)).1 |>.mono (by decide)⟩
    refine ⟨_, rfl, nopart ?_⟩
    refine Sw.gn_some (K := K) (b := b) (mu := mu) (H0 := C7) (D := fun d => ∃ j : Nat, d = .int j ∧ j ≤ 3) (n := 4) hmu rfl (gnA_cons hmu (Sw.ge_int.gn ⟨0, rfl, by decide⟩) (gnA_cons hmu (Sw.ge_int.gn ⟨1, rfl, by decide⟩) (gnA_cons hmu (Sw.ge_int.gn ⟨3, rfl, by decide⟩) (gnA_cons hmu (Sw.ge_int.gn ⟨0, rfl, by decide⟩) gnA_nil)))) (by decide) (by decide) C7 (.refl RC7.bag) (M9.rel RC7) _ fun vk C8 dk hdk R8' hvk => ?_
    obtain ⟨kk, rfl, hkk⟩ := hdk
    cases hvk
    refine ⟨kk, rfl, Mo, _, rfl, .inl (.inl (R8'.keep _ _ MoB hMo)), fun Ms nMs => ⟨Ms, rfl, ⟨_, .inl (.inl upd_same)⟩, ?_⟩⟩
    have qs := same_upd (o := .lst (cutV [V.ref v4, V.ref v6, V.ref v8] none (some (kk : Int)))) nMs
    have ecut : cutV [V.ref v4, V.ref v6, V.ref v8] none (some (kk : Int)) = [V.ref v4, V.ref v6, V.ref v8].take kk := cutV_upto _ _
    rw [ecut] at qs ⊢
    have hMs := upd_same (H := C8) (a := Ms) (o := .lst ([V.ref v4, V.ref v6, V.ref v8].take kk))
    have hHg8 := qs _ _ (R8'.keep _ _ HgB hHg7)
    have F78 : Fut mT C7 (upd C8 Ms (.lst ([V.ref v4, V.ref v6, V.ref v8].take kk))) := (Rel.futT R8' RC7.bag).trans (.of_same qs)
    have dHs8 := dHs7.fut F78
    have dMo8 := (dMo.fut F78).take kk
    have R48 := (R47.trans R8').same qs
    have MsB := bag_ne R8'.bag nMs
    have MsHg : Ms ≠ Hg := fun e => by rw [e, R8'.keep _ _ HgB hHg7] at nMs; cases nMs
    generalize upd C8 Ms (.lst ([V.ref v4, V.ref v6, V.ref v8].take kk)) = C9 at hMs hHg8 dHs8 dMo8 R48 F78
    have bagC9 := R48.bag
    refine for_it (walk_list (K := K) (a := Ms) (xs := [V.ref v4, V.ref v6, V.ref v8].take kk)) (fun i' σ H' => ∃ (o14 : Option V) (zs : List V) (hs : List PyData), σ = [some (.ref b), some (.ref Nm), some (.ref Or), some (.ref Fd), some (.ref Rg), some (.str n'), some (.ref p0.1), some (.ref a2), some (.str bh), some (.int (1 + c)), some (.ref t1), some (.ref a4), some (.ref Hg), some (.ref Mo), o14, none] ∧ Rel b C4 H' ∧ KF b Hg C9 H' ∧ Fut mT C9 H' ∧ H' Hg = some (.lst zs) ∧ DtA K mT H' zs hs ∧ GH n' (1 + c) (172 + 71 * i') (2 + i') hs) ⟨_, _, _, rfl, R48, .refl, .refl _, hHg8, dHs8, gh0⟩ (fun i' σ H' _ h => ?_) (fun i' x σ Ha Hb' hi' h y => ?_) fun σ Ha h => ?_
    · obtain ⟨_, _, _, _, _, h, _⟩ := h
      exact .inl (.inl (h _ _ MsB MsHg hMs))
    · obtain ⟨o14, zs, hs, rfl, Ra, ka, fa, hHa, dHa, gha⟩ := h
      obtain ⟨rfl, hxm⟩ := y
      obtain ⟨e, he, hxe⟩ := dMo8.get hxm
      obtain ⟨hn, oss, ee, gee⟩ := gMo e (List.mem_of_mem_take (List.mem_of_getElem? he))
      have hxa := hxe.fut fa
      subst ee
      obtain ⟨ae, xe, rfl, hSe, hAe⟩ := hxa.tupAt
      obtain ⟨g1, g2, _, _, rfl, ee, gz1, gz2⟩ := hAe.two rfl
      cases ee
      cases gz1
      have hzl := dHa.length
      have hgc := gha.cnt
      have hkt : i' < 3 := by
        rw [List.length_take] at hi'
        simp at hi'
        omega
      refine ⟨_, rfl, ae, _, 0, .str hn, rfl, rfl, hSe, atI_nat (j := 0) rfl, _, rfl, rfl, _, rfl, ?_⟩
      by_cases hnn : hn = n'
      · rw [decide_eq_true (by rw [hnn])]
        exact iteF ⟨_, zs, hs, rfl, Ra, ka, fa, hHa, dHa, gha.mono (by omega) (by omega)⟩
      · rw [decide_eq_false (fun z => hnn (V.str.inj z))]
        refine iteT ?_
        refine ⟨_, rfl, ty_lst hHa, _, rfl, _, rfl, _, zs.length, rfl, .inl ⟨_, .inl (.inl hHa), rfl⟩, _, _, rfl, rfl, b, _, rfl, Ra.bag, by omega, by omega, fun cn HE c0' c1' RE => ⟨_, rfl, ?_⟩⟩
        obtain ⟨kn, rfl⟩ : ∃ kn : Nat, cn = (kn : Int) := ⟨cn.toNat, by omega⟩
        have hHE := RE.keep _ _ HgB hHa
        refine ⟨Hg, zs, _, _, rfl, rfl, hHE, small1000 (by omega), by omega, by omega, ?_⟩
        rw [Int.toNat_natCast]
        have fE := (Rel.futT RE Ra.bag).trans (futT_lst (o := .lst (zs.take kn ++ [V.ref ae] ++ zs.drop kn)) hHE)
        exact ⟨_, _, _, rfl, (Ra.trans RE).at RC4.bag nHg, (ka.rel RE).put, fa.trans fE, upd_same, (((dHa.fut fE).take kn).append (.cons (hxa.fut fE) .nil)).append ((dHa.fut fE).drop kn), (gha.ins (gee hnn) kn).mono (by omega) (by omega)⟩
    · obtain ⟨o14, zs, hs, rfl, Ra, ka, fa, hHa, dHa, gha⟩ := h
      have hkl : ([V.ref v4, V.ref v6, V.ref v8].take kk).length ≤ 3 := by
        rw [List.length_take]
        simp
        omega
      have gha := gha.mono (w' := 385) (c' := 5) (by omega) (by omega)
      have hzl := dHa.length
      have hgc := gha.cnt
      have FC := F16
      have FaAll : Fut mT C4 Ha := (Rel.futT Ra RC4.bag)
      have dOneA := (dOne.fut F15).fut FaAll
      refine ⟨_, rfl, _, rfl, sz9 (by simp), fun zz1 nz1 => ⟨sz9 (by simp), fun zz2 nz2 => ⟨sz9 (by simp), fun Lz nLz => ?_⟩⟩⟩
      have k1 := same_upd (o := .tup [V.ref a2]) nz1
      have k2 := same_upd (o := .tup [V.str "zoo", V.ref zz1]) nz2
      have k3 := same_upd (o := .lst [V.ref zz2]) nLz
      have dZ := (tup_new nz2 (.cons (.str "zoo") (.cons (tup_new nz1 (.cons dOneA .nil)) .nil))).fut (.of_same k3)
      have hLz := upd_same (H := upd (upd Ha zz1 (.tup [V.ref a2])) zz2 (.tup [V.str "zoo", V.ref zz1])) (a := Lz) (o := .lst [V.ref zz2])
      have k13 := (k1.trans k2).trans k3
      have hHb := k13 _ _ hHa
      have dHb := dHa.fut (.of_same k13)
      have Rb := Ra.same k13
      have LzB := bag_ne ((Ra.same k1).same k2).bag nLz
      generalize upd (upd (upd Ha zz1 (.tup [V.ref a2])) zz2 (.tup [V.str "zoo", V.ref zz1])) Lz (.lst [V.ref zz2]) = Hb1 at dZ hLz hHb dHb Rb
      refine ⟨_, rfl, b, 3, rfl, Rb.bag, by decide, by decide, fun ct HT ct0 ct1 RT => ⟨rfl, .inr ⟨_, rfl, ?_⟩⟩⟩
      have hLzT := RT.keep _ _ LzB hLz
      have hHT := RT.keep _ _ HgB hHb
      have fT := Rel.futT RT Rb.bag
      have gZ : GH1 n' (1 + c) 58 (.tuple [.str "zoo", .tuple [.tuple [.str "shares", .tuple [.int 1, .int 1]]]]) := gh1 (w := 53) (by decide) rz2 (by simp) (fun c' hc => by
        rw [List.mem_singleton.mp hc]
        exact ⟨gcOne.ok, gcOne.sm, gcOne.dp⟩) (by
        have := gcOne.wt
        simp only [PyData.weightAll]
        omega)
      have fin : ∀ (kz : Int), (kz = 0 ∨ kz = 1) → ∃ hs', DtA K mT HT (zs ++ (List.replicate kz.toNat [V.ref zz2]).flatten) hs' ∧ GH n' (1 + c) 444 6 hs' := fun kz hkz => by
        rcases hkz with rfl | rfl
        · refine ⟨hs, ?_, gha.mono (by omega) (by omega)⟩
          simpa using dHb.fut fT
        · exact ⟨hs ++ [_], (dHb.fut fT).append (.cons (dZ.fut fT) .nil), gha.snoc gZ⟩
      obtain ⟨hs', dHs', gh'⟩ := fin (if decide (V.int ct = V.int 0) = true then 1 else 0) (by split <;> simp)
      have hkz : (if decide (V.int ct = V.int 0) = true then (1 : Int) else 0) = 0 ∨ (if decide (V.int ct = V.int 0) = true then (1 : Int) else 0) = 1 := by split <;> simp
      generalize (if decide (V.int ct = V.int 0) = true then (1 : Int) else 0) = kz at dHs' hkz ⊢
      refine ⟨Lz, kz, _, rfl, rfl, hLzT, by rcases hkz with rfl | rfl <;> decide, by rcases hkz with rfl | rfl <;> decide, by have := sizeLine_eq; rcases hkz with rfl | rfl <;> simp <;> omega, fun pz npz => ⟨Hg, pz, zs, _, rfl, rfl, same_upd npz _ _ hHT, upd_same, ?_, fun Hn nHn => ?_⟩⟩
      · have := sizeLine_eq
        rcases hkz with rfl | rfl <;> simp <;> omega
      have m1 := same_upd (o := .lst (List.replicate kz.toNat [V.ref zz2]).flatten) npz
      have m2 := same_upd (o := .lst (zs ++ (List.replicate kz.toNat [V.ref zz2]).flatten)) nHn
      have hFdX : ∀ {HX : Hp}, Rel b C4 HX → HX Fd = some (.lst ys) := fun R => R.keep _ _ FdB (RC4.keep _ _ FdB (s9 _ _ hF7))
      have RX := ((Rb.trans RT).same m1).same m2
      have dHs2 := dHs'.fut (.of_same (m1.trans m2))
      have hHn := upd_same (H := upd HT pz (.lst (List.replicate kz.toNat [V.ref zz2]).flatten)) (a := Hn) (o := .lst (zs ++ (List.replicate kz.toNat [V.ref zz2]).flatten))
      generalize upd (upd HT pz (.lst (List.replicate kz.toNat [V.ref zz2]).flatten)) Hn (.lst (zs ++ (List.replicate kz.toNat [V.ref zz2]).flatten)) = HX at RX dHs2 hHn
      have hyl := hA7.length
      refine ⟨_, rfl, ty_lst (hFdX RX), _, rfl, _, rfl, _, rfl, Hn, _, rfl, .inl ⟨.inl (.inl hHn), fun l nl => ⟨sz9 (by simp), fun t5 nt5 => ?_⟩⟩⟩
      have r1 := same_upd (o := .tup (zs ++ (List.replicate kz.toNat [V.ref zz2]).flatten)) nl
      have r2 := same_upd (o := .tup [V.str n', V.int (1 + c), V.ref l]) nt5
      have dF := tup_new nt5 (.cons (.str n') (.cons (.int (1 + c)) (.cons (tup_new nl dHs2) .nil)))
      have RY := (RX.same r1).same r2
      have RYall : Rel b H8 _ := (Rel.of_same bag8 s9).trans (RC4.trans RY)
      obtain ⟨f1, f2, f3, f4⟩ := firm_ok rz3 (by omega) hr6 gh'
      have hin : i < ns.length := (List.getElem?_eq_some_iff.mp hnm').1
      have hfl : fs.length = i := by
        have := congrArg List.length hnm
        rw [List.length_map, List.length_take] at this
        omega
      have hFY := hFdX RY
      have fY := (Rel.futT RYall bag8).trans (futT_lst (o := .lst (ys ++ [V.ref t5])) hFY)
      refine ⟨Fd, ys, _, rfl, rfl, hFY, small1000 (by omega), ?_⟩
      refine ⟨_, _, _, _, _, _, _, _, _, _, _, fs ++ [_], rfl, (R7.trans RYall).at (RN.trans R5).bag nFd, (k7.rel RYall).put, upd_same, (hA7.fut fY).append (.cons (dF.fut (futT_lst hFY)) .nil), ?_, smA_iff.mpr fun x hx => ?_, fun x hx => ?_, ?_, ?_, ?_⟩
      · rw [List.all_append, hall, List.all_cons, f1]
        rfl
      · rcases List.mem_append.mp hx with q | q
        · exact smA_iff.mp hsm x q
        · rw [List.mem_singleton.mp q]
          exact f2
      · rcases List.mem_append.mp hx with q | q
        · exact hdp x q
        · rw [List.mem_singleton.mp q]
          exact f3
      · rw [List.map_append, hnm, List.take_add_one, hnm']
        rfl
      · rw [wt_one]
        omega
      · have := gh'.cnt
        rw [List.flatMap_append, List.length_append]
        show _ + ([PyData.tuple [.str n', .int (1 + c), .tuple hs']].flatMap hldL).length ≤ _
        simp only [List.flatMap_cons, List.flatMap_nil, List.append_nil, hldL]
        omega
  · obtain ⟨o5, o6, o7, o8, o9, o10, o11, o12, o13, o14, ys, fs, rfl, R7, k7, hF7, hA7, hall, hsm, hdp, hnm, hwt, hcn⟩ := h
    rw [List.length_map] at hnm hwt hcn
    rw [List.take_length] at hnm
    obtain ⟨_, rzo, hoR, _, _⟩ := rnm_zoo o0 (hns o0 ho0)
    have g11 : GC 1 52 (.tuple [.str "shares", .tuple [.int 1, .int 1]]) := gc_shares num_11
    have g21 : GC 1 52 (.tuple [.str "shares", .tuple [.int 2, .int 1]]) := gc_shares num_21
    have gD : GC 1 53 (.tuple [.str "due", .int 0, .tuple [.int 2, .int 1]]) := gc_due (by decide) (by decide) (by decide) num_21
    have gX : GH1 "zoo" 1 58 (.tuple [.str "x", .tuple [.tuple [.str "shares", .tuple [.int 1, .int 1]]]]) := gh1 (w := 53) (by decide) (by decide) (by simp) (fun c' hc => by
      rw [List.mem_singleton.mp hc]
      exact ⟨g11.ok, g11.sm, g11.dp⟩) (by
      have := g11.wt
      simp only [PyData.weightAll]
      omega)
    have gY : GH1 "zoo" 1 112 (.tuple [.str "y", .tuple [.tuple [.str "due", .int 0, .tuple [.int 2, .int 1]], .tuple [.str "shares", .tuple [.int 2, .int 1]]]]) := gh1 (w := 107) (by decide) (by decide) (by simp) (fun c' hc => by
      rcases List.mem_cons.mp hc with q | q
      · rw [q]
        exact ⟨gD.ok, gD.sm, gD.dp⟩
      · rw [List.mem_singleton.mp q]
        exact ⟨g21.ok, g21.sm, g21.dp⟩) (by
      have h1 := gD.wt
      have h2 := g21.wt
      simp only [PyData.weightAll] at h1 h2 ⊢
      omega)
    have gO : GH1 "zoo" 1 58 (.tuple [.str o0, .tuple [.tuple [.str "shares", .tuple [.int 1, .int 1]]]]) := gh1 (w := 53) hoR (fun e => rzo e.symm) (by simp) (fun c' hc => by
      rw [List.mem_singleton.mp hc]
      exact ⟨g11.ok, g11.sm, g11.dp⟩) (by
      have := g11.wt
      simp only [PyData.weightAll]
      omega)
    have gz0 := (GH.nil.snoc gX).snoc gY
    refine ⟨sz9 (by simp), fun b1 nb1 => ⟨sz9 (by simp), fun b2 nb2 => ⟨sz9 (by simp), fun b3 nb3 => ⟨sz9 (by simp), fun b4 nb4 => ⟨sz9 (by simp), fun b5 nb5 => ⟨sz9 (by simp), fun b6 nb6 => ⟨sz9 (by simp), fun b7 nb7 => ⟨sz9 (by simp), fun b8 nb8 => ⟨sz9 (by simp), fun b9 nb9 => ⟨sz9 (by simp), fun b10 nb10 => ⟨sz9 (by simp), fun Zo nZo => ?_⟩⟩⟩⟩⟩⟩⟩⟩⟩⟩⟩
    have q1 := same_upd (o := .tup [V.int 1, V.int 1]) nb1
    have q2 := same_upd (o := .tup [V.str "shares", V.ref b1]) nb2
    have q3 := same_upd (o := .tup [V.ref b2]) nb3
    have q4 := same_upd (o := .tup [V.str "x", V.ref b3]) nb4
    have q5 := same_upd (o := .tup [V.int 2, V.int 1]) nb5
    have q6 := same_upd (o := .tup [V.str "due", V.int 0, V.ref b5]) nb6
    have q7 := same_upd (o := .tup [V.int 2, V.int 1]) nb7
    have q8 := same_upd (o := .tup [V.str "shares", V.ref b7]) nb8
    have q9 := same_upd (o := .tup [V.ref b6, V.ref b8]) nb9
    have q10 := same_upd (o := .tup [V.str "y", V.ref b9]) nb10
    have q11 := same_upd (o := .lst [V.ref b4, V.ref b10]) nZo
    have dX := (tup_new (K := K) (mu := mT) nb4 (.cons (.str "x") (.cons (tup_new nb3 (.cons (tup_new nb2 (.cons (.str "shares") (.cons (tup_new nb1 (.cons (.int 1) (.cons (.int 1) .nil))) .nil))) .nil)) .nil))).fut (.of_same ((((((q5.trans q6).trans q7).trans q8).trans q9).trans q10).trans q11))
    have d6 := (tup_new (K := K) (mu := mT) nb6 (.cons (.str "due") (.cons (.int 0) (.cons (tup_new nb5 (.cons (.int 2) (.cons (.int 1) .nil))) .nil)))).fut (.of_same (q7.trans q8))
    have d8 := tup_new (K := K) (mu := mT) nb8 (.cons (.str "shares") (.cons (tup_new nb7 (.cons (.int 2) (.cons (.int 1) .nil))) .nil))
    have dY := (tup_new (K := K) (mu := mT) nb10 (.cons (.str "y") (.cons (tup_new nb9 (.cons d6 (.cons d8 .nil))) .nil))).fut (.of_same q11)
    have dZs : DtA K mT _ [V.ref b4, V.ref b10] _ := .cons dX (.cons dY .nil)
    have hZo := upd_same (H := upd (upd (upd (upd (upd (upd (upd (upd (upd (upd H7 b1 (.tup [V.int 1, V.int 1])) b2 (.tup [V.str "shares", V.ref b1])) b3 (.tup [V.ref b2])) b4 (.tup [V.str "x", V.ref b3])) b5 (.tup [V.int 2, V.int 1])) b6 (.tup [V.str "due", V.int 0, V.ref b5])) b7 (.tup [V.int 2, V.int 1])) b8 (.tup [V.str "shares", V.ref b7])) b9 (.tup [V.ref b6, V.ref b8])) b10 (.tup [V.str "y", V.ref b9])) (a := Zo) (o := .lst [V.ref b4, V.ref b10])
    have qAll := (((((((((q1.trans q2).trans q3).trans q4).trans q5).trans q6).trans q7).trans q8).trans q9).trans q10).trans q11
    have ZoB : Zo ≠ b := bag_ne (R7.bag.same ((((((((((q1.trans q2).trans q3).trans q4).trans q5).trans q6).trans q7).trans q8).trans q9).trans q10))) nZo
    have R8 := Rel.of_same R7.bag qAll
    generalize upd (upd (upd (upd (upd (upd (upd (upd (upd (upd (upd H7 b1 (.tup [V.int 1, V.int 1])) b2 (.tup [V.str "shares", V.ref b1])) b3 (.tup [V.ref b2])) b4 (.tup [V.str "x", V.ref b3])) b5 (.tup [V.int 2, V.int 1])) b6 (.tup [V.str "due", V.int 0, V.ref b5])) b7 (.tup [V.int 2, V.int 1])) b8 (.tup [V.str "shares", V.ref b7])) b9 (.tup [V.ref b6, V.ref b8])) b10 (.tup [V.str "y", V.ref b9])) Zo (.lst [V.ref b4, V.ref b10]) = H8 at dZs hZo R8
    have hO8 := R8.keep _ _ OrB (k7 _ _ OrB OrF hO6)
    refine ⟨_, rfl, _, rfl, Or, _, 0, .str o0, rfl, rfl, .inl (.inl hO8), atI_nat (j := 0) rfl, sz9 (by simp), fun c1 nc1 => ⟨sz9 (by simp), fun c2 nc2 => ⟨sz9 (by simp), fun c3 nc3 => ⟨sz9 (by simp), fun c4 nc4 => ⟨sz9 (by simp), fun Lz nLz => ?_⟩⟩⟩⟩⟩
    have e1 := same_upd (o := .tup [V.int 1, V.int 1]) nc1
    have e2 := same_upd (o := .tup [V.str "shares", V.ref c1]) nc2
    have e3 := same_upd (o := .tup [V.ref c2]) nc3
    have e4 := same_upd (o := .tup [V.str o0, V.ref c3]) nc4
    have e5 := same_upd (o := .lst [V.ref c4]) nLz
    have dO := (tup_new (K := K) (mu := mT) nc4 (.cons (.str o0) (.cons (tup_new nc3 (.cons (tup_new nc2 (.cons (.str "shares") (.cons (tup_new nc1 (.cons (.int 1) (.cons (.int 1) .nil))) .nil))) .nil)) .nil))).fut (.of_same e5)
    have hLz := upd_same (H := upd (upd (upd (upd H8 c1 (.tup [V.int 1, V.int 1])) c2 (.tup [V.str "shares", V.ref c1])) c3 (.tup [V.ref c2])) c4 (.tup [V.str o0, V.ref c3])) (a := Lz) (o := .lst [V.ref c4])
    have LzB := bag_ne (R8.bag.same (((e1.trans e2).trans e3).trans e4)) nLz
    have e15 := (((e1.trans e2).trans e3).trans e4).trans e5
    have R9 := R8.same e15
    have hZ9 := e15 _ _ hZo
    have dZ9 := dZs.fut (.of_same e15)
    generalize upd (upd (upd (upd (upd H8 c1 (.tup [V.int 1, V.int 1])) c2 (.tup [V.str "shares", V.ref c1])) c3 (.tup [V.ref c2])) c4 (.tup [V.str o0, V.ref c3])) Lz (.lst [V.ref c4]) = H9 at dO hLz R9 hZ9 dZ9
    refine ⟨_, rfl, b, 4, rfl, R9.bag, by decide, by decide, fun ct HT ct0 ct1 RT => ⟨rfl, .inr ⟨_, rfl, ?_⟩⟩⟩
    have hLzT := RT.keep _ _ LzB hLz
    have hZT := RT.keep _ _ ZoB hZ9
    have fT := Rel.futT RT R9.bag
    have fin : ∀ (kz : Int), (kz = 0 ∨ kz = 1) → ∃ hs', DtA K mT HT ([V.ref b4, V.ref b10] ++ (List.replicate kz.toNat [V.ref c4]).flatten) hs' ∧ GH "zoo" 1 231 3 hs' := fun kz hkz => by
      rcases hkz with rfl | rfl
      · refine ⟨_, ?_, gz0.mono (by omega) (by omega)⟩
        simpa using dZ9.fut fT
      · exact ⟨_ ++ [_], (dZ9.fut fT).append (.cons (dO.fut fT) .nil), gz0.snoc gO⟩
    obtain ⟨hs', dHs', gh'⟩ := fin (if decide (V.int ct = V.int 0) = true then 1 else 0) (by split <;> simp)
    have hkz : (if decide (V.int ct = V.int 0) = true then (1 : Int) else 0) = 0 ∨ (if decide (V.int ct = V.int 0) = true then (1 : Int) else 0) = 1 := by split <;> simp
    generalize (if decide (V.int ct = V.int 0) = true then (1 : Int) else 0) = kz at dHs' hkz ⊢
    refine ⟨Lz, kz, _, rfl, rfl, hLzT, by rcases hkz with rfl | rfl <;> decide, by rcases hkz with rfl | rfl <;> decide, by have := sizeLine_eq; rcases hkz with rfl | rfl <;> simp <;> omega, fun pz npz => ⟨Zo, pz, _, _, rfl, rfl, same_upd npz _ _ hZT, upd_same, ?_, fun Zn nZn => ?_⟩⟩
    · have := sizeLine_eq
      rcases hkz with rfl | rfl <;> simp <;> omega
    have m1 := same_upd (o := .lst (List.replicate kz.toNat [V.ref c4]).flatten) npz
    have m2 := same_upd (o := .lst ([V.ref b4, V.ref b10] ++ (List.replicate kz.toNat [V.ref c4]).flatten)) nZn
    have RX := ((R9.trans RT).same m1).same m2
    have dHs2 := dHs'.fut (.of_same (m1.trans m2))
    have hZn := upd_same (H := upd HT pz (.lst (List.replicate kz.toNat [V.ref c4]).flatten)) (a := Zn) (o := .lst ([V.ref b4, V.ref b10] ++ (List.replicate kz.toNat [V.ref c4]).flatten))
    generalize upd (upd HT pz (.lst (List.replicate kz.toNat [V.ref c4]).flatten)) Zn (.lst ([V.ref b4, V.ref b10] ++ (List.replicate kz.toNat [V.ref c4]).flatten)) = HX at RX dHs2 hZn
    have hFX := RX.keep _ _ FdB hF7
    have hAX := hA7.fut (Rel.futT RX R7.bag)
    have hyl := hA7.length
    have hfl : fs.length = ns.length := by
      have := congrArg List.length hnm
      rwa [List.length_map] at this
    refine ⟨_, rfl, Fd, ys, rfl, .inl ⟨.inl (.inl hFX), fun l nl => ⟨_, rfl, Zn, _, rfl, .inl ⟨.inl (.inl (same_upd nl _ _ hZn)), fun l2 nl2 => ⟨sz9 (by simp), fun t6 nt6 => ⟨sz9 (by simp), fun t7 nt7 => ?_⟩⟩⟩⟩⟩⟩
    have r1 := same_upd (o := .tup ys) nl
    have r2 := same_upd (o := .tup ([V.ref b4, V.ref b10] ++ (List.replicate kz.toNat [V.ref c4]).flatten)) nl2
    have r3 := same_upd (o := .tup [V.str "zoo", V.int 1, V.ref l2]) nt6
    have r4 := same_upd (o := .tup [V.ref t6]) nt7
    have dF := tup_new nt6 (.cons (.str "zoo") (.cons (.int 1) (.cons (tup_new nl2 (dHs2.fut (.of_same r1))) .nil)))
    have hSl : SqT K _ l ys := ((r2.trans r3).trans r4).seqT (.of (upd_same (H := HX)))
    obtain ⟨f1, f2, f3, f4⟩ := firm_ok (nm := "zoo") (by decide) (by decide) (by decide) gh'
    refine cat_use hSl (.of upd_same) (by rw [List.length_cons, List.length_nil]; have := sizeLine_eq; omega) fun p8 H10 s8 hp8 => ?_
    have sF := (((r1.trans r2).trans r3).trans r4).trans s8
    refine k _ _ (fs ++ [_]) ⟨?_, ?_, smA_iff.mpr fun x hx => ?_, fun x hx => ?_, ?_, ?_, ?_⟩ (((RN.trans R5).trans (R7.trans RX)).same sF) (dt_tupS hp8 ((hAX.fut (.of_same sF)).append (.cons (dF.fut (.of_same (r4.trans s8))) .nil)))
    · rw [List.all_append, hall, List.all_cons, f1]
      rfl
    · rw [List.map_append, hnm]
      exact asc_snoc hasc fun x hx => (rnm_zoo x (hns x hx)).1
    · rcases List.mem_append.mp hx with q | q
      · exact smA_iff.mp hsm x q
      · rw [List.mem_singleton.mp q]
        exact f2
    · rcases List.mem_append.mp hx with q | q
      · exact hdp x q
      · rw [List.mem_singleton.mp q]
        exact f3
    · rw [wt_one]
      omega
    · have := gh'.cnt
      rw [List.flatMap_append, List.length_append]
      show _ + ([PyData.tuple [.str "zoo", .int 1, .tuple hs']].flatMap hldL).length ≤ _
      simp only [List.flatMap_cons, List.flatMap_nil, List.append_nil, hldL]
      omega
    · rw [List.length_append]
      show fs.length + 1 ≤ 5
      omega
end
end K34
namespace K34
open PySem PySem.Spec PyProof.Rows L2 Sw StX RZ
section
variable {P : Program} {w : World} {K : PySem.W.Frag} {mg : Str → Option Value} {base : Heap}
def spAnyWeb (K : PySem.W.Frag) : Sp := fun vs H Q _ => ∃ (b : Addr) (mu : Addr → Prop), vs = [.ref b] ∧ mu b ∧ BagAt H b ∧ MuOk mu H ∧ ∀ v H' fs, WbS 26000 2402 fs → Rel b H H' → Dt K mT H' v (.tuple fs) → Q v H'
abbrev s_law_any_web : Stmt := topS 43
theorem sc__law_any_web : FnScope ["bag", "web", "way"] ["bag"] (defScope s_law_any_web) := ⟨rfl, rfl, rfl, by decide +kernel, rfl, by decide +kernel, by decide +kernel⟩
theorem ok__law_any_web {f : Addr} {fd : FuncData} (F : Fun K "_law_any_web" "_law_any_web" s_law_any_web f fd) (B : Bt mg) (c__law_take : CalG P w K mg base 1 "_law_take" spTake) (c__law_some : CalG P w K mg base 2 "_law_some" spSome) (c__law_web : CalG P w K mg base 22 "_law_web" (spWeb K)) (c__law_circled : CalG P w K mg base 4 "_law_circled" (spCircled K)) (c__law_unfounded : CalG P w K mg base 2 "_law_unfounded" (spUnfounded K)) (c__law_ring_web : CalG P w K mg base 4 "_law_ring_web" (spRing K)) : FnG P w K mg base 23 f fd ["bag"] (spAnyWeb K) := by
  refine Fun.okG F sc__law_any_web (fun vs H Q E h => ?_) (fun cdv A outer s H vs Q E hg hr h => ?_)
  · obtain ⟨_, _, rfl, _⟩ := h
    rfl
  obtain ⟨b, mu, rfl, hmu, hb, hM, k⟩ := h
  have hu := Room.u64 hr
  refine ⟨_, (pss_cons (ps_set (i := 1) sc__law_any_web.nd rfl (Or.inl rfl) (pc c__law_web hg hr (by omega) (by rfl) (pa_cons (pv 0) (pa_cons (pc c__law_some hg hr (by omega) (by rfl) (pa_cons (pv 0) (pa_cons (pe_lst (pa_cons pe_int (pa_cons pe_int (pa_cons pe_int (pa_cons pe_int (pa_cons pe_int pa_nil)))))) pa_nil))) (pa_cons (pc c__law_some hg hr (by omega) (by rfl) (pa_cons (pv 0) (pa_cons (pe_lst (pa_cons pe_int (pa_cons pe_int (pa_cons pe_int pa_nil)))) pa_nil))) pa_nil)))))
    (pss_cons (ps_set (i := 2) sc__law_any_web.nd rfl (Or.inl rfl) (pc c__law_take hg hr (by omega) (by rfl) (pa_cons (pv 0) (pa_cons pe_int pa_nil))))
    (pss_cons (ps_if (pt_cmpR op_eq (pv 2) pe_int (nomark _))
      (pss_one (ps_ret (pc c__law_ring_web hg hr (by omega) (by rfl) (pa_cons (pv 0) pa_nil))))
      pss_nil)
    (C8.pss_cut (ps_if (pt_cmpR op_in_seq (pv 2) (pe_tup (pa_cons pe_int (pa_cons pe_int pa_nil))) (by rfl))
      (pss_one (ps_set (i := 1) sc__law_any_web.nd rfl (Or.inl rfl) (pe_orT (pc c__law_circled hg hr (by omega) (by rfl) (pa_cons (pv 0) (pa_cons (pv 1) pa_nil))) (pe_one (pv 1)))))
      pss_nil)
    (pss_one (ps_ret (pe_ifExp (PW.pt (pw_and (pt_cmpR op_in_seq (pv 2) (pe_tup (pa_cons pe_int (pa_cons pe_int pa_nil))) (by rfl)) (pw_and1 (pt_cmpR (op_neNilT (K := K) rfl hu) (pv 1) (pe_tup pa_nil) (nomark _))))) (pc c__law_unfounded hg hr (by omega) (by rfl) (pa_cons (pv 0) (pa_cons (pv 1) pa_nil))) (pv 1)))))))), ?_⟩
  have sz9 : ∀ {xs : List V}, xs.length ≤ 1000 → xs.length ≤ sizeLine := fun h => Nat.le_of_lt (small1000 h)
  refine ⟨_, rfl, ?_⟩
  refine Sw.gn_some (K := K) (b := b) (mu := mu) (H0 := H) (D := fun d => ∃ j : Nat, d = .int j ∧ j ≤ 4) (n := 5) hmu rfl (gnA_cons hmu (Sw.ge_int.gn ⟨2, rfl, by decide⟩) (gnA_cons hmu (Sw.ge_int.gn ⟨3, rfl, by decide⟩) (gnA_cons hmu (Sw.ge_int.gn ⟨1, rfl, by decide⟩) (gnA_cons hmu (Sw.ge_int.gn ⟨4, rfl, by decide⟩) (gnA_cons hmu (Sw.ge_int.gn ⟨0, rfl, by decide⟩) gnA_nil))))) (by decide) (by decide) H (.refl hb) hM _ fun v1 H1 d1 hd1 R1 hv1 => ?_
  obtain ⟨n, rfl, hn⟩ := hd1
  cases hv1
  refine Sw.gn_some (K := K) (b := b) (mu := mu) (H0 := H1) (D := fun d => ∃ j : Nat, d = .int j ∧ j ≤ 4) (n := 3) hmu rfl (gnA_cons hmu (Sw.ge_int.gn ⟨3, rfl, by decide⟩) (gnA_cons hmu (Sw.ge_int.gn ⟨2, rfl, by decide⟩) (gnA_cons hmu (Sw.ge_int.gn ⟨1, rfl, by decide⟩) gnA_nil))) (by decide) (by decide) H1 (.refl R1.bag) (hM.rel R1) _ fun v2 H2 d2 hd2 R2 hv2 => ?_
  obtain ⟨m, rfl, hm⟩ := hd2
  cases hv2
  have R12 := R1.trans R2
  refine ⟨b, mu, n, m, rfl, hn, hm, hmu, R12.bag, hM.rel R12, fun v H3 d hw R3 hd => ?_⟩
  obtain ⟨fs, rfl, hfl, ws⟩ := hw.s (by omega)
  have hd := Dt.pure (mv := mT) (by simp only [smD]; exact ws.sm) hd
  have R13 := R12.trans R3
  refine ⟨_, rfl, b, 6, rfl, R13.bag, by decide, by decide, fun way H4 w0 w1 R4 => ?_⟩
  have R14 := R13.trans R4
  have hd4 := hd.fut (Rel.futT R4 R13.bag)
  refine ⟨_, rfl, rfl, _, rfl, iteEq (fun e5 => ?_) fun e5 => ?_⟩
  · exact ⟨_, rfl, b, mu, rfl, hmu, R14.bag, hM.rel R14, fun v' H5 fs' ws' R5 hd' => k v' H5 fs' (ws'.mono (by decide) (by decide)) (R14.trans R5) hd'⟩
  refine ⟨fun σ' H' => ∃ (a : Addr) (xs : List V) (fs : List PyData), σ' = [some (.ref b), some (.ref a), some (.int way)] ∧ Rel b H H' ∧ SqT K H' a xs ∧ DtA K mT H' xs fs ∧ WbS 9800 2402 fs, ?_, ?_⟩
  · obtain ⟨a, xs, rfl, hS, hA⟩ := hd4.tupAt
    have inT : ∀ {σ : L2.St} {H' : Hp} {Q' : (Bool → Hp → Prop)} {x y : Int}, σ[2]? = some (some (.int way)) → (∀ H'' bb, Same H' H'' → Q' bb H'') → tTest (tOp (rIn K false) (tVar 2) (tTup (tCons (tC (V.int x)) (tCons (tC (V.int y)) tNil)))) σ H' Q' := fun h2 q =>
      ⟨_, h2, sz9 (by simp), fun t nt => ⟨t, [V.int _, V.int _], rfl, .inr (.of upd_same), rfl, rfl, _, rfl, q _ _ (same_upd nt)⟩⟩
    refine inT rfl fun H5 bb s5 => ?_
    have R5 := R14.same s5
    have hS5 := s5.seqT hS
    have hA5 := hA.fut (.of_same s5)
    have ws8 := ws.mono (w' := 9800) (c' := 2402) (by decide) (by decide)
    cases bb with
    | false => exact iteF ⟨a, xs, fs, rfl, R5, hS5, hA5, ws8⟩
    | true =>
      refine iteT ?_
      refine ⟨_, rfl, _, rfl, b, a, mu, xs, fs, rfl, hmu, R5.bag, hM.rel R5, hS5, hA5, ws, fun H6 R6 => ⟨false, rfl, ?_⟩, fun v' H6 fs' hl' ws' R6 hd' => ?_⟩
      · exact ⟨_, rfl, a, xs, fs, rfl, R5.trans R6, sq_fut hS5 (Rel.futT R6 R5.bag), hA5.fut (Rel.futT R6 R5.bag), ws8⟩
      · obtain ⟨a', xs', rfl, hS', hA'⟩ := hd'.tupAt
        have hl2 := hA'.length
        refine ⟨!xs'.isEmpty, .inr (.inl ⟨xs', hS', rfl⟩), ?_⟩
        cases xs' with
        | nil => exact ⟨_, rfl, a, xs, fs, rfl, R5.trans R6, sq_fut hS5 (Rel.futT R6 R5.bag), hA5.fut (Rel.futT R6 R5.bag), ws8⟩
        | cons x0 xr => exact ⟨a', x0 :: xr, fs', rfl, R5.trans R6, hS', hA', ws'⟩
  · rintro σ' H5 ⟨a, xs, fs, rfl, R5, hS, hA, ws5⟩
    have fin : ∀ H6, Same H5 H6 → Q (.ref a) H6 := fun H6 s6 => k _ H6 fs (ws5.mono (by decide) (by decide)) (R5.same s6) (dt_tupS (s6.seqT hS) (hA.fut (.of_same s6)))
    refine ⟨_, rfl, sz9 (by simp), fun t nt => ⟨t, [V.int _, V.int _], rfl, .inr (.of upd_same), rfl, rfl, _, rfl, ?_⟩⟩
    have s6 := same_upd (o := .tup [V.int 2, V.int 3]) nt
    refine iteB (fun hb2 => ?_) fun hb2 => ?_
    · refine ⟨_, rfl, Nat.zero_le _, fun q nq => ⟨a, q, xs, rfl, rfl, (s6.trans (same_upd nq)).seqT hS, .of upd_same, _, rfl, ?_⟩⟩
      have s7 := s6.trans (same_upd (o := .tup []) nq)
      by_cases hx0 : xs = []
      · rw [decide_eq_true hx0]
        exact iteF ⟨_, rfl, fin _ s7⟩
      · rw [decide_eq_false hx0]
        refine iteT ?_
        have hl := hA.length
        refine ⟨_, rfl, _, rfl, b, a, xs, fs, rfl, (R5.same s7).bag, s7.seqT hS, hA.fut (.of_same s7), ws5, fun e => hx0 (List.eq_nil_of_length_eq_zero (by rw [hl, e]; rfl)), fun v' H8 fs' ws' R8 hd' => ?_⟩
        exact k v' H8 fs' ws' ((R5.same s7).trans R8) hd'
    · exact ⟨_, rfl, fin _ s6⟩
end
end K34
namespace K34
open PySem PySem.Spec PyProof.Rows L2 Sw StX RZ
theorem gv_disp1i {K : PySem.W.Frag} {b : Addr} {mu : Addr → Prop} {σ : L2.St} {H0 : Hp} {D : PyData → Prop} {te : TE} {k : Int} {d : PyData} (hm : mu b) (h : ∀ mv : Addr → Prop, mv b → Ge K b mv σ H0 te d) (hd : D (.dict [(.int k, d)])) :
    Gv K b mu σ H0 (tDispN [(tC (.int k), te)]) D := fun H hb m Q q p np ns => by
  have npb : p ≠ b := fun z => by
    obtain ⟨_, _, _, _, _, e, _⟩ := hb.bag
    rw [z, e] at np
    cases np
  have r0 := Rel.of_same hb.bag (same_upd (o := .dK []) np)
  refine h (fun a => mu a ∨ a = p) (.inl hm) (upd H p (.dK [])) (hb.trans r0) (fun a z => ?_) _ fun v H1 r1 e1 => ?_
  · rcases z with z | rfl
    · exact (m.rel r0) a z
    · exact .inl (by rw [upd_same]; exact fun z => nomatch z)
  have hp := r1.keep _ _ npb upd_same
  refine ⟨hp, [(.inl k, v)], rfl, by simp, q _ _ _ hd ((r0.trans r1).at hb.bag np) (.dct (m.new np ns) (.inl upd_same) ?_) (own_not (fun _ z => nomatch z))⟩
  refine .cons (k := .inl k) ((e1.fut (mu := fun a => mu a ∨ a = p) fun c o e z => ?_).less fun a z => .inl z) .nil
  by_cases c1 : c = p
  · subst c1
    rw [hp] at e
    cases e
    rcases z with z | ⟨xs, z⟩ | ⟨ob, u, z⟩
    · exact absurd (.inr rfl) z
    · cases z
    · cases z
  · rw [upd_ne c1]
    exact e
theorem ge_pow {K : PySem.W.Frag} {b : Addr} {mu : Addr → Prop} {σ : L2.St} {H0 : Hp} {i j : Int} (hc : CPow i j) : Ge K b mu σ H0 (tOp (rI CPow fun i j => .int (i ^ j.toNat)) (tC (.int i)) (tC (.int j))) (.int (i ^ j.toNat)) := fun H hb _ _ q => ⟨i, j, rfl, rfl, hc, q _ H (.refl hb.bag) (.int _)⟩
theorem gvL_use {K : PySem.W.Frag} {b : Addr} {mu : Addr → Prop} {σ : L2.St} {H : Hp} {ta : TA} {g : TG} {D : PyData → Prop} {n : Nat} {E : Ends} (h : GvA K b mu σ H ta D n) (hb : BagAt H b) (m : MuOk mu H) (hn : n ≤ 1000) (k : ∀ p H' vs ds, ds.length = n → (∀ d ∈ ds, D d) → Rel b H H' → DtA K mu H' vs ds → H' p = some (.lst vs) → p ≠ b → g (.ref p) σ H' E.nx) : tAsg (tLst ta) g E σ H := by
  refine h H (.refl hb) m _ fun vs H1 ds hl hd R e _ => ⟨Nat.le_of_lt (small1000 (by rw [e.length, hl]; exact hn)), fun p np => ?_⟩
  exact k p _ vs ds hl hd (R.same (same_upd np)) (e.fut (.of_same (same_upd np))) upd_same (bag_ne R.bag np)
theorem gvT_use {K : PySem.W.Frag} {b : Addr} {mu : Addr → Prop} {σ : L2.St} {H : Hp} {ta : TA} {D : PyData → Prop} {n : Nat} {Q : VK} (h : GvA K b mu σ H ta D n) (hb : BagAt H b) (m : MuOk mu H) (hn : n ≤ 1000) (k : ∀ p H' vs ds, ds.length = n → (∀ d ∈ ds, D d) → Rel b H H' → DtA K mu H' vs ds → H' p = some (.lst vs) → p ≠ b → Q (.ref p) H') : tLst ta σ H Q := by
  refine h H (.refl hb) m _ fun vs H1 ds hl hd R e _ => ⟨Nat.le_of_lt (small1000 (by rw [e.length, hl]; exact hn)), fun p np => ?_⟩
  exact k p _ vs ds hl hd (R.same (same_upd np)) (e.fut (.of_same (same_upd np))) upd_same (bag_ne R.bag np)
def lenT (d : PyData) : Nat := match d with
  | .tuple ts => ts.length
  | _ => 0
/-- a small datum -/
def Om (d : PyData) : Prop := okD d = true ∧ d.depth ≤ 4 ∧ d.weight ≤ 1000 ∧ lenT d ≤ 50
instance (d : PyData) : Decidable (Om d) := inferInstanceAs (Decidable (okD d = true ∧ d.depth ≤ 4 ∧ d.weight ≤ 1000 ∧ lenT d ≤ 50))
section
variable {P : Program} {w : World} {K : PySem.W.Frag} {mg : Str → Option Value} {base : Heap}
def spOdd (K : PySem.W.Frag) : Sp := fun vs H Q _ => ∃ (b : Addr) (mu : Addr → Prop), vs = [.ref b] ∧ mu b ∧ BagAt H b ∧ MuOk mu H ∧ ∀ v H' d, Om d → Rel b H H' → Dt K mu H' v d → Q v H'
abbrev s_law_odd : Stmt := topS 39
theorem sc__law_odd : FnScope ["bag", "some"] ["bag"] (defScope s_law_odd) := ⟨rfl, rfl, rfl, by decide +kernel, rfl, by decide +kernel, by decide +kernel⟩
theorem ok__law_odd {f : Addr} {fd : FuncData} (F : Fun K "_law_odd" "_law_odd" s_law_odd f fd) (B : Bt mg) (c__law_some : CalG P w K mg base 2 "_law_some" spSome) : FnG P w K mg base 3 f fd ["bag"] (spOdd K) := by
  refine Fun.okG F sc__law_odd (fun vs H Q E h => ?_) (fun cdv A outer s H vs Q E hg hr h => ?_)
  · obtain ⟨_, _, rfl, _⟩ := h
    rfl
  obtain ⟨b, mu, rfl, hmu, hb, hM, k⟩ := h
  refine ⟨_, (pss_cons (ps_set (i := 1) sc__law_odd.nd rfl (Or.inl rfl) (pe_lst (pa_cons pe_non (pa_cons pe_bl (pa_cons pe_bl (pa_cons pe_int (pa_cons pe_int (pa_cons (pe_un un_neg pe_int) (pa_cons (pe_op op_pow pe_int pe_int) (pa_cons pe_str (pa_cons pe_str (pa_cons pe_str (pa_cons (pe_tup pa_nil) (pa_cons (pe_lstN pa_nil) (pa_cons pe_dnewN (pa_cons (pe_tup (pa_cons pe_int pa_nil)) (pa_cons (pe_lstN (pa_cons pe_int pa_nil)) (pa_cons (pe_tup (pa_cons pe_int (pa_cons pe_int pa_nil))) (pa_cons (pe_tup (pa_cons pe_int (pa_cons pe_int pa_nil))) (pa_cons (pe_tup (pa_cons pe_int (pa_cons pe_int pa_nil))) pa_nil))))))))))))))))))))
    (pss_cons (ps_set (i := 1) sc__law_odd.nd rfl (Or.inl rfl) (pe_op op_cat (pv 1) (pe_lst (pa_cons (pe_tup (pa_cons (pe_tup (pa_cons pe_int (pa_cons pe_int pa_nil))) (pa_cons pe_int pa_nil))) (pa_cons (pe_tup (pa_cons (pe_tup (pa_cons pe_int (pa_cons pe_int pa_nil))) (pa_cons pe_non pa_nil))) (pa_cons (pe_tup (pa_cons pe_str (pa_cons pe_str pa_nil))) (pa_cons (pe_tup (pa_cons pe_str pa_nil)) (pa_cons (pe_dispN (pps_cons pe_str (pe_tup pa_nil) pps_nil) rfl rfl (fun z => nomatch z) (by decide)) (pa_cons (pe_dispN (pps_cons pe_str (pe_tup (pa_cons pe_int (pa_cons pe_int pa_nil))) pps_nil) rfl rfl (fun z => nomatch z) (by decide)) (pa_cons (pe_tup (pa_cons (pe_tup (pa_cons pe_int (pa_cons pe_int pa_nil))) pa_nil)) (pa_cons (pe_dispN (pps_cons pe_int pe_int pps_nil) rfl rfl (fun z => nomatch z) (by decide)) pa_nil)))))))))))
    (pss_one (ps_ret (pc c__law_some hg hr (by omega) (by rfl) (pa_cons (pv 0) (pa_cons (pv 1) pa_nil))))))), ?_⟩
  have sz9 : ∀ {xs : List V}, xs.length ≤ 1000 → xs.length ≤ sizeLine := fun h => Nat.le_of_lt (small1000 h)
  have g2 : ∀ {σ : L2.St} {H0 : Hp} {ta : TA} {ds : List PyData}, GeA K b mu σ H0 ta ds → ds.length ≤ 1000 → Om (.tuple ds) → Gv K b mu σ H0 (tTup ta) Om := fun {σ H0 ta ds} h l t => (ge_tup hmu h l).gv t
  have p01 : ∀ {σ : L2.St} {H0 : Hp} {x y : Int}, Ge K b mu σ H0 (tTup (tCons (tC (.int x)) (tCons (tC (.int y)) tNil))) (.tuple [.int x, .int y]) := fun {σ H0 x y} => ge_tup hmu (geA_cons hmu ge_int (geA_cons hmu ge_int geA_nil)) (show 2 ≤ 1000 by decide)
  refine gvL_use (D := Om) (n := 18) (b := b) (mu := mu) (K := K) (
    gvA_cons hmu (ge_non.gv (by decide +kernel))
    (gvA_cons hmu (ge_bl.gv (by decide +kernel))
    (gvA_cons hmu (ge_bl.gv (by decide +kernel))
    (gvA_cons hmu (ge_int.gv (by decide +kernel))
    (gvA_cons hmu (ge_int.gv (by decide +kernel))
    (gvA_cons hmu (ge_neg.gv (by decide +kernel))
    (gvA_cons hmu ((ge_pow (i := 10) (j := 39) ⟨by decide, by decide, by decide⟩).gv (by decide +kernel))
    (gvA_cons hmu (ge_str.gv (by decide +kernel))
    (gvA_cons hmu (ge_str.gv (by decide +kernel))
    (gvA_cons hmu (ge_str.gv (by decide +kernel))
    (gvA_cons hmu (g2 geA_nil (show 0 ≤ 1000 by decide) (by decide +kernel))
    (gvA_cons hmu (gv_lst hmu geA_nil (show 0 ≤ 1000 by decide) (by decide +kernel))
    (gvA_cons hmu (gv_dict (by decide +kernel))
    (gvA_cons hmu (g2 (geA_cons hmu ge_int geA_nil) (show 1 ≤ 1000 by decide) (by decide +kernel))
    (gvA_cons hmu (gv_lst hmu (geA_cons hmu ge_int geA_nil) (show 1 ≤ 1000 by decide) (by decide +kernel))
    (gvA_cons hmu (p01.gv (by decide +kernel))
    (gvA_cons hmu (p01.gv (by decide +kernel))
    (gvA_cons hmu (p01.gv (by decide +kernel)) gvA_nil)))))))))))))))))) hb hM (by decide) fun p1 H2 vs1 ds1 hl1 hd1 R1' e1' hp1 p1b => ?_
  refine ⟨_, rfl, gvT_use (D := Om) (n := 8) (b := b) (mu := mu) (K := K) (
    gvA_cons hmu (g2 (geA_cons hmu p01 (geA_cons hmu ge_int geA_nil)) (show 2 ≤ 1000 by decide) (by decide +kernel))
    (gvA_cons hmu (g2 (geA_cons hmu p01 (geA_cons hmu ge_non geA_nil)) (show 2 ≤ 1000 by decide) (by decide +kernel))
    (gvA_cons hmu (g2 (geA_cons hmu ge_str (geA_cons hmu ge_str geA_nil)) (show 2 ≤ 1000 by decide) (by decide +kernel))
    (gvA_cons hmu (g2 (geA_cons hmu ge_str geA_nil) (show 1 ≤ 1000 by decide) (by decide +kernel))
    (gvA_cons hmu (gv_disp1 hmu (fun mv hv => ge_tup hv geA_nil (show 0 ≤ 1000 by decide)) (by decide +kernel))
    (gvA_cons hmu (gv_disp1 hmu (fun mv hv => ge_tup hv (geA_cons hv ge_int (geA_cons hv ge_int geA_nil)) (show 2 ≤ 1000 by decide)) (by decide +kernel))
    (gvA_cons hmu (g2 (geA_cons hmu p01 geA_nil) (show 1 ≤ 1000 by decide) (by decide +kernel))
    (gvA_cons hmu (gv_disp1i hmu (fun mv hv => ge_int) (by decide +kernel)) gvA_nil)))))))) R1'.bag (hM.rel R1') (by decide) fun p2 H3 vs2 ds2 hl2 hd2 R3 e3 hp2 p2b => ?_⟩
  have l1 := e1'.length
  have l2 := e3.length
  refine ⟨p1, p2, vs1, vs2, rfl, rfl, R3.keep _ _ p1b hp1, hp2, by have := sizeLine_eq; omega, fun p3 np3 => ?_⟩
  have q3 := same_upd (o := .lst (vs1 ++ vs2)) np3
  have R4 := (R1'.trans R3).same q3
  have e4 : DtA K mu _ (vs1 ++ vs2) (ds1 ++ ds2) := ((e1'.fut (R3.fut hmu R1'.bag)).append e3).fut (.of_same q3)
  refine ⟨_, rfl, _, rfl, b, p3, _, rfl, R4.bag, bag_ne (R1'.trans R3).bag np3, upd_same, by rw [List.length_append]; omega, by rw [List.length_append]; omega, fun i v H5 hv R5 => ?_⟩
  obtain ⟨d, hd, hvd⟩ := e4.get hv
  refine k v H5 d ?_ (R4.trans R5) (hvd.fut (R5.fut hmu R4.bag))
  rcases List.mem_append.mp (List.mem_of_getElem? hd) with q | q
  · exact hd1 d q
  · exact hd2 d q
end
end K34
namespace K34
open PySem PySem.Spec PyProof.Rows L2 Sw StX RZ
/-- what may come of a name or a tuple of names, bent -/
def Ob (d : PyData) : Prop := okD d = true ∧ d.depth ≤ 5 ∧ d.weight ≤ 26000 ∧ lenT d ≤ 100
theorem Om.ob {d : PyData} (h : Om d) : Ob d := ⟨h.1, Nat.le_trans h.2.1 (by decide), Nat.le_trans h.2.2.1 (by decide), Nat.le_trans h.2.2.2 (by decide)⟩
theorem Ob.ok {d : PyData} (h : Ob d) : Ok d := ⟨h.1, Nat.le_trans h.2.1 (by decide), Nat.le_trans h.2.2.1 (by decide)⟩
theorem wtA_all {n : Nat} : ∀ {es : List PyData}, (∀ e ∈ es, e.weight ≤ n) → PyData.weightAll es ≤ es.length * (n + 1)
  | [], _ => Nat.zero_le _
  | e :: es, h => by
    have h1 := h e List.mem_cons_self
    have h2 := wtA_all fun x hx => h x (List.mem_cons_of_mem _ hx)
    simp only [PyData.weightAll, List.length_cons, Nat.add_mul] at h2 ⊢
    omega
theorem okA_iff {es : List PyData} : okA es = true ↔ ∀ e ∈ es, okD e = true := by
  induction es with
  | nil => simp [okA]
  | cons e es ih => simp [okA, ih]
theorem ob_tup {es : List PyData} (h : ∀ e ∈ es, Om e) (hl : es.length ≤ 25) : Ob (.tuple es) ∧ Ob (.list es) := by
  have h1 := wtA_all fun e he => (h e he).2.2.1
  have h2 := dpA_le.mpr fun e he => (h e he).2.1
  have h3 := okA_iff.mpr fun e he => (h e he).1
  have h4 : es.length * (1000 + 1) ≤ 25 * 1001 := Nat.mul_le_mul hl (Nat.le_refl _)
  have h5 : lenT (.tuple es) = es.length := rfl
  have h6 : lenT (.list es) = 0 := rfl
  constructor
  · refine ⟨by simp only [okD]; exact h3, by simp only [PyData.depth]; omega, by simp only [PyData.weight]; omega, by omega⟩
  · refine ⟨by simp only [okD]; exact h3, by simp only [PyData.depth]; omega, by simp only [PyData.weight]; omega, by omega⟩
theorem gnL_use {K : PySem.W.Frag} {b : Addr} {mu : Addr → Prop} {σ : L2.St} {H : Hp} {ta : TA} {g : TG} {D : PyData → Prop} {n : Nat} {E : Ends} (h : GnA K b mu σ H ta D n) (hb : BagAt H b) (m : MuOk mu H) (hn : n ≤ 1000) (k : ∀ p H' vs ds, ds.length = n → (∀ d ∈ ds, D d) → Rel b H H' → DtA K mu H' vs ds → H' p = some (.lst vs) → p ≠ b → g (.ref p) σ H' E.nx) : tAsg (tLst ta) g E σ H := by
  refine h H (.refl hb) m _ fun vs H1 ds hl hd R e => ⟨Nat.le_of_lt (small1000 (by rw [e.length, hl]; exact hn)), fun p np => ?_⟩
  exact k p _ vs ds hl hd (R.same (same_upd np)) (e.fut (.of_same (same_upd np))) upd_same (bag_ne R.bag np)
/-- an ASCII text, short -/
def Asc (n : Nat) (z : Str) : Prop := z.length ≤ n ∧ ∀ c ∈ z.cps.toList, c < 128
theorem Asc.om {n : Nat} {z : Str} (h : Asc n z) (hn : n ≤ 1000) : Om (.str z) := by
  refine ⟨?_, by simp [PyData.depth], ?_, Nat.zero_le _⟩
  · simp only [okD]
    unfold PyData.strOk
    rw [← Array.all_toList, List.all_eq_true]
    intro c m
    have := h.2 c m
    exact decide_eq_true (by omega)
  · have h1 : z.cps.size ≤ n := h.1
    simp only [PyData.weight]
    omega
theorem sm_asc {z : Str} (h : smD (.str z) = true) : Asc 13 z := by
  simp only [smD, Bool.and_eq_true, decide_eq_true_eq] at h
  refine ⟨h.1.2.2, fun c m => ?_⟩
  have h2 := h.2
  rw [← Array.all_toList, List.all_eq_true] at h2
  have := of_decide_eq_true (h2 c m)
  omega
def Dn : Nat → PyData → Prop
  | 0 => Om
  | _ => Ob
theorem om_dn {n : Nat} {d : PyData} (h : Om d) : Dn n d := by
  cases n with
  | zero => exact h
  | succ n => exact h.ob
section
variable {P : Program} {w : World} {K : PySem.W.Frag} {mg : Str → Option Value} {base : Heap}
def Bi (n : Nat) (d : PyData) : Prop := (n = 1 ∧ ∃ cs : List Str, d = .tuple (cs.map PyData.str) ∧ cs.length ≤ 12 ∧ ∀ c ∈ cs, Asc 13 c) ∨ ∃ z, d = .str z ∧ Asc 13 z
def spBent (K : PySem.W.Frag) (n : Nat) (D : PyData → Prop) : Sp := fun vs H Q _ => ∃ (b : Addr) (mu : Addr → Prop) (v : V) (d : PyData), vs = [.ref b, v] ∧ mu b ∧ BagAt H b ∧ MuOk mu H ∧ Dt K mu H v d ∧ Bi n d ∧ ∀ v H' d', D d' → Rel b H H' → Dt K mu H' v d' → Q v H'
abbrev s_law_bent : Stmt := topS 38
theorem sc__law_bent : FnScope ["bag", "thing", "way", "at", "some", "rows", "late", "menu"] ["bag", "thing"] (defScope s_law_bent) := ⟨rfl, rfl, rfl, by decide +kernel, rfl, by decide +kernel, by decide +kernel⟩
theorem ok__law_bent {f : Addr} {fd : FuncData} {j n : Nat} {sp : Sp} (hsp : n = 0 ∨ n = 1 ∧ sp = spBent K 0 Om) (F : Fun K "_law_bent" "_law_bent" s_law_bent f fd) (B : Bt mg) (c__law_take : CalG P w K mg base 1 "_law_take" spTake) (c__law_some : CalG P w K mg base 2 "_law_some" spSome) (c__law_is_int : CalG P w K mg base 1 "_law_is_int" (spP K isInt)) (c__law_odd : CalG P w K mg base 3 "_law_odd" (spOdd K)) (c__law_bent : CalG P w K mg base (j + 3) "_law_bent" sp) : FnG P w K mg base (j + 4) f fd ["bag", "thing"] (spBent K n (Dn n)) := by
  refine Fun.okG F sc__law_bent (fun vs H Q E h => ?_) (fun cdv A outer s H vs Q E hg hr h => ?_)
  · obtain ⟨_, _, _, _, rfl, _⟩ := h
    rfl
  obtain ⟨b, mu, v, d, rfl, hmu, hb, hM, hd, hbi, k⟩ := h
  have hu := Room.u64 hr
  refine ⟨_, (pss_cons (ps_set (i := 2) sc__law_bent.nd rfl (Or.inl rfl) (pc c__law_take hg hr (by omega) (by rfl) (pa_cons (pv 0) (pa_cons pe_int pa_nil))))
    (pss_cons (ps_if (PW.pt (pw_and (pt_val (pe_callB call_isD (by rfl) B.isin bb_isin (pa_cons (pv 1) (pa_cons (pe_bltn (v := .ty "tuple") rfl B.tuple bb_tuple rfl) pa_nil)))) (pw_and (pt_cmpR (op_neNilT (K := K) rfl hu) (pv 1) (pe_tup pa_nil) (nomark _)) (pw_and1 (pt_cmpR op_gt (pv 2) pe_int (nomark _))))))
      (pss_cons (ps_set (i := 3) sc__law_bent.nd rfl (Or.inl rfl) (pc c__law_take hg hr (by omega) (by rfl) (pa_cons (pv 0) (pa_cons (pe_callB call_lenA (by rfl) B.len boot_len (pa_cons (pv 1) pa_nil)) pa_nil))))
      (pss_one (ps_ret (pe_op op_catA (pe_op op_catA (pe_slice sl_tupA (pv 1) po_none (po_some (pv 3))) (pe_tup (pa_cons (pc c__law_bent hg hr (by omega) (by rfl) (pa_cons (pv 0) (pa_cons (pe_ix ix_tup (pv 1) (pv 3) (fun _ _ => rfl)) pa_nil))) pa_nil))) (pe_slice sl_tupA (pv 1) (po_some (pe_op op_add (pv 3) pe_int)) po_none)))))
      pss_nil)
    (pss_cons (ps_if (pt_val (pe_callB call_isD (by rfl) B.isin bb_isin (pa_cons (pv 1) (pa_cons (pe_bltn (v := .ty "tuple") rfl B.tuple bb_tuple rfl) pa_nil))))
      (pss_cons (ps_set (i := 4) sc__law_bent.nd rfl (Or.inl rfl) (pe_lst (pa_cons (pe_callTy call_listN (by rfl) B.list bb_list (pa_cons (pv 1) pa_nil)) (pa_cons (pe_slice sl_tupA (pv 1) (po_some pe_int) po_none) (pa_cons (pe_op op_catA (pv 1) (pe_slice sl_tupA (pv 1) po_none (po_some pe_int))) (pa_cons (pe_revT (pv 1)) (pa_cons (pe_op op_catA (pv 1) (pe_tup (pa_cons pe_non pa_nil))) (pa_cons (pe_slice sl_tupA (pv 1) po_none (po_some (pe_un un_neg pe_int))) (pa_cons (pc c__law_odd hg hr (by omega) (by rfl) (pa_cons (pv 0) pa_nil)) pa_nil)))))))))
      (pss_one (ps_ret (pc c__law_some hg hr (by omega) (by rfl) (pa_cons (pv 0) (pa_cons (pv 4) pa_nil))))))
      pss_nil)
    (pss_cons (ps_if (PW.pt (pw_and (pt_val (pe_callB call_isD (by rfl) B.isin bb_isin (pa_cons (pv 1) (pa_cons (pe_bltn (v := .ty "dict") rfl B.dict bb_dict rfl) pa_nil)))) (pw_and1 (pt_cmpR (op_neNilD hu) (pv 1) pe_dnewN (nomark _)))))
      Sw.pss_never
      pss_nil)
    (pss_cons (ps_if (pt_val (pc c__law_is_int hg hr (by omega) (by rfl) (pa_cons (pv 1) pa_nil)))
      Sw.pss_never
      pss_nil)
    (pss_cons (ps_if (pt_val (pe_callB call_isD (by rfl) B.isin bb_isin (pa_cons (pv 1) (pa_cons (pe_bltn (v := .ty "str") rfl B.str bb_str rfl) pa_nil))))
      (pss_one (ps_ret (pc c__law_some hg hr (by omega) (by rfl) (pa_cons (pv 0) (pa_cons (pe_lst (pa_cons (pe_op op_add_str (pv 1) pe_str) (pa_cons (pe_slice sl_str (pv 1) po_none (po_some (pe_un un_neg pe_int))) (pa_cons (pe_bm0 PySem.F.plainAttrs_str PySem.F.slot_str_upper PySem.F.type_str_upper mt_upper (pv 1)) (pa_cons pe_str (pa_cons pe_str (pa_cons pe_non (pa_cons (pe_tup pa_nil) (pa_cons (pe_op op_add_str (pv 1) (pv 1)) (pa_cons (pe_lstN (pa_cons pe_str pa_nil)) (pa_cons pe_dnewN pa_nil))))))))))) pa_nil)))))
      pss_nil)
    (pss_one (ps_ret (pc c__law_odd hg hr (by omega) (by rfl) (pa_cons (pv 0) pa_nil)))))))))), ?_⟩
  have sz9 : ∀ {xs : List V}, xs.length ≤ 1000 → xs.length ≤ sizeLine := fun h => Nat.le_of_lt (small1000 h)
  have sl := sizeLine_eq
  refine ⟨_, rfl, b, 7, rfl, hb, by decide, by decide, fun way H1 w0 w1 R1 => ?_⟩
  have hd1 := hd.fut (R1.fut hmu hb)
  have M1 := hM.rel R1
  rcases hbi with ⟨rfl, cs, rfl, hcl, hca⟩ | ⟨z, rfl, hz⟩
  · have hsp1 : sp = spBent K 0 Om := by
      rcases hsp with h | ⟨_, h⟩
      · cases h
      · exact h
    subst hsp1
    obtain ⟨a, xs, rfl, hS, hA⟩ := hd1.tupAt
    have exs := dtA_only hA
    subst exs
    have om1 : ∀ e ∈ cs.map PyData.str, Om e := fun e he => by
      obtain ⟨c, hc, rfl⟩ := List.mem_map.mp he
      exact (hca c hc).om (by decide)
    have omN : Om .none := by decide +kernel
    have hxl : (cs.map V.str).length ≤ 12 := by rw [List.length_map]; exact hcl
    have hdl : (cs.map PyData.str).length ≤ 12 := by rw [List.length_map]; exact hcl
    refine ⟨_, rfl, _, "tuple", mu, _, rfl, by decide, hd1, _, rfl, ?_⟩
    rw [show isT "tuple" (PyData.tuple (cs.map PyData.str)) = true from rfl]
    refine iteT ?_
    refine ⟨_, rfl, Nat.zero_le _, fun q nq => ⟨a, q, cs.map V.str, rfl, rfl, (same_upd nq).seqT hS, .of upd_same, _, rfl, ?_⟩⟩
    have sq := same_upd (o := .tup []) nq
    have R2 := R1.same sq
    have hS2 := sq.seqT hS
    have hA2 := hA.fut (.of_same sq)
    have hb2 := R2.bag
    have M2 := hM.rel R2
    have hd2 := hd1.fut (.of_same sq)
    generalize upd H1 q (.tup []) = H2 at sq R2 hS2 hA2 hb2 M2 hd2
    refine iteB (fun h1 => ⟨_, rfl, _, _, rfl, rfl, _, rfl, iteP (fun h2 => ?_) fun h2 => ?_⟩) fun h1 => ?_
    · have hne : cs ≠ [] := fun z => by rw [z] at h1; simp at h1
      have hpos := List.length_pos_iff.mpr hne
      refine ⟨_, rfl, _, rfl, _, (cs.map V.str).length, rfl, .inr ⟨_, hS2, rfl⟩, b, _, rfl, hb2, by rw [List.length_map]; omega, by omega, fun at' H3 a0 a1 R3 => ?_⟩
      rw [List.length_map] at a1
      obtain ⟨k0, rfl⟩ : ∃ k0 : Nat, at' = (k0 : Int) := ⟨at'.toNat, by omega⟩
      have hS3 := sq_fut hS2 (R3.fut hmu hb2)
      have hA3 := hA2.fut (R3.fut hmu hb2)
      obtain ⟨c0, hc0⟩ : ∃ c, cs[k0]? = some c := ⟨_, List.getElem?_eq_getElem (by omega)⟩
      refine ⟨_, rfl, nopart ⟨_, rfl, _, rfl, sl_use hS3 fun p1 H4 s4 hp1 => ?_⟩⟩
      rw [cutV_upto] at hp1
      have R4 := R3.same s4
      have hS4 := s4.seqT hS3
      refine ⟨_, rfl, _, rfl, _, rfl, a, _, (k0 : Int), .str c0, rfl, rfl, hS4, atI_nat (j := k0) (by rw [List.getElem?_map, hc0]; rfl), b, mu, .str c0, .str c0, rfl, hmu, R4.bag, M2.rel R4, .str c0, .inr ⟨c0, rfl, hca c0 (List.mem_of_getElem? hc0)⟩, fun v' H5 d' hom R5 hd' => ⟨sz9 (by simp), fun t nt => ?_⟩⟩
      have st := same_upd (o := .tup [v']) nt
      have f45 := (R5.fut hmu R4.bag).trans (.of_same st)
      refine cat_use (sq_fut hp1 f45) (.of upd_same) (by rw [List.length_take, List.length_cons, List.length_nil, List.length_map]; omega) fun p2 H6 s6 hp2 => ?_
      have f46 := f45.trans (.of_same s6)
      refine ⟨_, rfl, _, rfl, _, _, rfl, rfl, _, rfl, nopart (sl_use (sq_fut hS4 f46) fun p3 H7 s7 hp3 => ?_)⟩
      rw [show ((k0 : Nat) : Int) + 1 = ((k0 + 1 : Nat) : Int) from rfl, cutV_fromN] at hp3
      refine cat_use (s7.seqT hp2) hp3 (by simp only [List.length_append, List.length_take, List.length_drop, List.length_cons, List.length_nil, List.length_map]; omega) fun p4 H8 s8 hp4 => ?_
      have fE : Fut mu H3 H8 := (Fut.of_same s4).trans (f46.trans (.of_same (s7.trans s8)))
      have hA8 := hA3.fut fE
      have hd8 := hd'.fut (.of_same (((st.trans s6).trans s7).trans s8))
      refine k _ H8 _ (ob_tup (es := (cs.map PyData.str).take k0 ++ [d'] ++ (cs.map PyData.str).drop (k0 + 1)) (fun e he => ?_) ?_).1 (R2.trans (R4.trans ((R5.same st).same ((s6.trans s7).trans s8)))) (dt_tupS hp4 (((hA8.take k0).append (.cons hd8 .nil)).append (hA8.drop (k0 + 1))))
      · rcases List.mem_append.mp he with q | q
        · rcases List.mem_append.mp q with q | q
          · exact om1 e (List.mem_of_mem_take q)
          · rw [List.mem_singleton.mp q]
            exact hom
        · exact om1 e (List.mem_of_mem_drop q)
      · simp only [List.length_append, List.length_take, List.length_drop, List.length_cons, List.length_nil]
        omega
    all_goals
      refine ⟨_, rfl, _, "tuple", mu, _, rfl, by decide, hd2, _, rfl, ?_⟩
      rw [show isT "tuple" (PyData.tuple (cs.map PyData.str)) = true from rfl]
      refine iteT ?_
      have gv := gs_var (K := K) (b := b) (σ := [some (.ref b), some (.ref a), some (.int way), none, none, none, none, none]) (i := 1) hb2 rfl hS2
      have sub : ∀ {es : List PyData}, (∀ e ∈ es, e ∈ cs.map PyData.str ∨ e = .none) → es.length ≤ 25 → Ob (.tuple es) ∧ Ob (.list es) := fun h l => ob_tup (fun e he => (h e he).elim (om1 e) fun q => q ▸ omN) l
      refine gnL_use (D := Ob) (n := 7) (b := b) (mu := mu) (K := K)
        (gnA_cons hmu (gv.gnL hmu hb2 hA2 (sub (fun e h => .inl h) (by omega)).2)
        (gnA_cons hmu ((gs_sl gv gp_int gp_none).gn hmu hb2 (dtA_cut hA2) (sub (fun e h => .inl (sliD_mem h)) (Nat.le_trans (sliD_len _ _ _) (by omega))).1)
        (gnA_cons hmu ((gs_cat gv (gs_sl gv gp_none gp_int) (by have := cut_len (cs.map V.str) none (some 1); omega)).gn hmu hb2 (hA2.append (dtA_cut hA2)) (sub (fun e h => (List.mem_append.mp h).elim .inl fun h => .inl (sliD_mem h)) (by have := sliD_len (cs.map PyData.str) none (some 1); rw [List.length_append]; omega)).1)
        (gnA_cons hmu ((gs_rev gv).gn hmu hb2 (dtA_revS hA2) (sub (fun e h => .inl (List.mem_reverse.mp h)) (by rw [List.length_reverse]; omega)).1)
        (gnA_cons hmu ((gs_cat gv (gs_tup1 (v := .non) fun H Q q => q) (by simp only [List.length_cons, List.length_nil]; omega)).gn hmu hb2 (hA2.append (.cons .non .nil)) (sub (fun e h => (List.mem_append.mp h).elim .inl fun h => .inr (List.mem_singleton.mp h)) (by rw [List.length_append, List.length_cons, List.length_nil]; omega)).1)
        (gnA_cons hmu ((gs_sl gv gp_none gp_neg).gn hmu hb2 (dtA_cut hA2) (sub (fun e h => .inl (sliD_mem h)) (Nat.le_trans (sliD_len _ _ _) (by omega))).1)
        (gnA_cons hmu (fun H r m Q q => ⟨_, rfl, b, mu, rfl, hmu, r.bag, m, fun v H' d ho r' hd => q v H' d ho.ob r' hd⟩) gnA_nil))))))) hb2 M2 (by decide) fun p1 H3 vs1 ds1 hl1 hds1 R3 e1 hp1 p1b => ?_
      have l1 := e1.length
      refine ⟨_, rfl, _, rfl, b, p1, _, rfl, R3.bag, p1b, hp1, by omega, by omega, fun i v H5 hv R5 => ?_⟩
      obtain ⟨d, hd, hvd⟩ := e1.get hv
      exact k v H5 d (hds1 d (List.mem_of_getElem? hd)) ((R2.trans R3).trans R5) (hvd.fut (R5.fut hmu R3.bag))
  · cases hd1
    refine ⟨_, rfl, _, "tuple", mu, .str z, rfl, by decide, .str z, _, rfl, ?_⟩
    rw [show isT "tuple" (PyData.str z) = false from rfl]
    refine iteF ?_
    refine ⟨_, rfl, _, "tuple", mu, .str z, rfl, by decide, .str z, _, rfl, ?_⟩
    rw [show isT "tuple" (PyData.str z) = false from rfl]
    refine iteF ?_
    refine ⟨_, rfl, _, "dict", mu, .str z, rfl, by decide, .str z, _, rfl, ?_⟩
    rw [show isT "dict" (PyData.str z) = false from rfl]
    refine iteF ?_
    have oz : Ok (.str z) := (hz.om (by decide)).ob.ok
    refine ⟨_, rfl, .str z, mu, .str z, rfl, .str z, oz, fun H2 s2 => ⟨_, rfl, ?_⟩⟩
    rw [show isInt (PyData.str z) = false from rfl]
    refine iteF ?_
    refine ⟨_, rfl, _, "str", mu, .str z, rfl, by decide, .str z, _, rfl, ?_⟩
    rw [show isT "str" (PyData.str z) = true from rfl]
    refine iteT ?_
    have R2 := R1.same s2
    have M2 := hM.rel R2
    have zl : z.length ≤ 13 := hz.1
    have ascA : ∀ {x y : Str}, Asc 13 x → Asc 13 y → Asc 26 (x ++ y) := fun {x y} hx hy => by
      refine ⟨?_, fun c m => ?_⟩
      · have e1 : (x ++ y).length = x.length + y.length := by
          show (_ ++ _ : Array Nat).size = _
          rw [Array.size_append]
          rfl
        have := hx.1
        have := hy.1
        omega
      · rw [Str.cps_append, Array.toList_append] at m
        rcases List.mem_append.mp m with q | q
        · exact hx.2 c q
        · exact hy.2 c q
    have ax : Asc 13 "x" := ⟨by decide +kernel, by decide +kernel⟩
    have x1 : ("x" : Str).length = 1 := rfl
    have acut : Asc 13 (cutS z none (some (-1))) := by
      refine ⟨?_, fun c m => hz.2 c ?_⟩
      · show (cutS z none (some (-1))).cps.size ≤ 13
        unfold cutS
        simp only [List.size_toArray]
        refine Nat.le_trans (List.length_take_le _ _) ?_
        have := HT.sIx_le z.length z.length (Nat.le_refl _) (some (-1))
        omega
      · unfold cutS at m
        exact List.mem_of_mem_drop (List.mem_of_mem_take (by simpa using m))
    have aup : Asc 13 (Txt.upper z) := by
      rw [upper_ascii hz.2]
      refine ⟨?_, fun c m => ?_⟩
      · show (z.cps.map up1).size ≤ 13
        rw [Array.size_map]
        exact zl
      · rw [show ((⟨z.cps.map up1⟩ : Str)).cps = z.cps.map up1 from rfl, Array.toList_map] at m
        obtain ⟨y, hy, rfl⟩ := List.mem_map.mp m
        have := hz.2 y hy
        unfold PyProof.Rows.up1
        split <;> omega
    have kom : ∀ v H' d, Om d → Rel b H2 H' → Dt K mu H' v d → Q v H' := fun v H' d ho R hv => k v H' d (om_dn ho) (R2.trans R) hv
    refine Sw.gn_some (K := K) (b := b) (mu := mu) (H0 := H2) (D := Om) (n := 10) hmu rfl
      (gnA_cons hmu (fun H r m Q q => ⟨_, rfl, z, "x", rfl, rfl, by omega, q _ H _ ((ascA hz ax).om (by decide)) (.refl r.bag) (.str _)⟩)
      (gnA_cons hmu (fun H r m Q q => ⟨_, rfl, nopart ⟨_, rfl, _, rfl, z, rfl, by omega, q _ H _ (acut.om (by decide)) (.refl r.bag) (.str _)⟩⟩)
      (gnA_cons hmu (fun H r m Q q => ⟨_, rfl, rfl, z, rfl, rfl, by omega, q _ H _ (aup.om (by decide)) (.refl r.bag) (.str _)⟩)
      (gnA_cons hmu (Sw.ge_str.gn (by decide +kernel))
      (gnA_cons hmu (Sw.ge_str.gn (by decide +kernel))
      (gnA_cons hmu (Sw.ge_non.gn (by decide +kernel))
      (gnA_cons hmu ((ge_tup hmu geA_nil (show 0 ≤ 1000 by decide)).gn (by decide +kernel))
      (gnA_cons hmu (fun H r m Q q => ⟨_, rfl, _, rfl, z, z, rfl, rfl, by omega, q _ H _ ((ascA hz hz).om (by decide)) (.refl r.bag) (.str _)⟩)
      (gnA_cons hmu (gv_lst hmu (geA_cons hmu ge_str geA_nil) (show 1 ≤ 1000 by decide) (by decide +kernel)).gn
      (gnA_cons hmu (gv_dict (by decide +kernel)).gn gnA_nil)))))))))) (by decide) (by decide) H2 (.refl R2.bag) M2 _ fun v H3 d hd R3 hv => kom v H3 d hd R3 hv
end
end K34
namespace K34
open PySem PySem.Spec PyProof.Rows L2 Sw StX RZ
def spLaw (K : PySem.W.Frag) : Sp := fun vs H Q _ => ∃ (a : Addr) (ns : List Int), vs = [.ref a] ∧ SqL K H a (ns.map V.int) ∧ ns.length ≤ 63 ∧ ∀ H', Q (.bl true) H'
abbrev mF (b : Addr) : Addr → Prop := fun a => a = b
theorem wt_erase {x : Str} : ∀ {zs : List Str}, x ∈ zs → PyData.weightAll (zs.map PyData.str) = (PyData.str x).weight + 1 + PyData.weightAll ((zs.erase x).map PyData.str)
  | z :: zs, h => by
    by_cases e : z = x
    · subst e
      rw [List.erase_cons_head]
      rfl
    · have hm : x ∈ zs := by
        rcases List.mem_cons.mp h with q | q
        · exact absurd q.symm e
        · exact q
      rw [List.erase_cons_tail (by simpa using e), List.map_cons, List.map_cons]
      have := wt_erase hm
      simp only [PyData.weightAll] at this ⊢
      omega
theorem nodup_wt : ∀ {ys zs : List Str}, ys.Nodup → (∀ y ∈ ys, y ∈ zs) → PyData.weightAll (ys.map PyData.str) ≤ PyData.weightAll (zs.map PyData.str)
  | [], _, _, _ => Nat.zero_le _
  | y :: ys, zs, nd, h => by
    obtain ⟨n1, n2⟩ := List.nodup_cons.mp nd
    have hy := h y List.mem_cons_self
    have ih := nodup_wt (zs := zs.erase y) n2 fun z hz => (List.mem_erase_of_ne (show z ≠ y from fun e => n1 (by rw [← e]; exact hz))).mpr (h z (List.mem_cons_of_mem _ hz))
    rw [wt_erase hy, List.map_cons]
    simp only [PyData.weightAll]
    omega
theorem wt_app2 (as bs : List PyData) : PyData.weightAll (as ++ bs) = PyData.weightAll as + PyData.weightAll bs := by
  induction as with
  | nil => simp [PyData.weightAll]
  | cons a as ih =>
    simp only [List.cons_append, PyData.weightAll, ih]
    omega
theorem holders_wt : ∀ {fs : List PyData}, fs.all firmD = true → PyData.weightAll ((holdersL fs).map PyData.str) ≤ PyData.weightAll fs
  | [], _ => Nat.le_refl _
  | f :: fs, h => by
    rw [List.all_cons, Bool.and_eq_true] at h
    have ih := holders_wt h.2
    obtain ⟨n, r, hs, rfl, _, _, _, hok⟩ := firm_shape2 h.1
    have key : ∀ hs : List PyData, (∀ x ∈ hs, holdD r x = true ∧ headIs n x = false) → PyData.weightAll ((hs.map hnS).map PyData.str) ≤ PyData.weightAll hs := fun hs => by
      induction hs with
      | nil => intro _; exact Nat.le_refl _
      | cons x hs ih =>
        intro h
        obtain ⟨m, os, rfl, _⟩ := hold_shape (h x List.mem_cons_self).1
        have := ih fun y hy => h y (List.mem_cons_of_mem _ hy)
        simp only [List.map_cons, hnS, PyData.weightAll, PyData.weight] at this ⊢
        omega
    have k := key hs hok
    unfold holdersL at ih ⊢
    rw [List.flatMap_cons, List.map_append, wt_app2]
    show PyData.weightAll ((hs.map hnS).map PyData.str) + _ ≤ _
    simp only [PyData.weightAll, PyData.weight] at k ⊢
    omega
theorem holders_sm {fs : List PyData} (ha : fs.all firmD = true) (hs : smA fs = true) : ∀ z ∈ holdersL fs, smD (.str z) = true := fun z hz => by
  obtain ⟨f, hf, hz2⟩ := List.mem_flatMap.mp hz
  obtain ⟨h, hh, rfl⟩ := List.mem_map.mp hz2
  obtain ⟨n, r, hs', rfl, _, _, _, hok⟩ := firm_shape2 (List.all_eq_true.mp ha f hf)
  obtain ⟨m, os, rfl, _⟩ := hold_shape (hok h hh).1
  have h1 := smA_iff.mp hs _ hf
  simp only [smD, smA, Bool.and_true, Bool.and_eq_true] at h1
  have h2 := smA_iff.mp h1.2.2 _ hh
  simp only [smD, smA, Bool.and_true, Bool.and_eq_true] at h2
  simp only [smD, Bool.and_eq_true]
  exact h2.1
def optD : Option Str → PyData
  | none => .none
  | some n => .str n
theorem dt_opt {K : PySem.W.Frag} {mu : Addr → Prop} {H : Hp} : ∀ o : Option Str, Dt K mu H (optV o) (optD o)
  | none => .non
  | some n => .str n
theorem unf_sm {fs : List PyData} (hs : smA fs = true) (ha : fs.all firmD = true) {n : Str} (h : unfF fs = some n) : smD (.str n) = true := by
  unfold unfF at h
  cases e : fs.find? fun f => !fndF (fs.map nmS) f with
  | none => rw [e] at h; cases h
  | some f =>
    rw [e] at h
    have hm := List.mem_of_find?_eq_some e
    obtain ⟨n', r, hs', rfl, _⟩ := firm_shape2 (List.all_eq_true.mp ha f hm)
    cases h
    have h1 := smA_iff.mp hs _ hm
    simp only [smD, smA, Bool.and_true, Bool.and_eq_true] at h1 ⊢
    exact h1.1
/-- what is told of a web -/
def toldD (fs : List PyData) (ys : List Str) (c : Bool) : PyData := .list [.tuple (ys.map PyData.str), optD (unfF fs), .bool (unfF fs).isNone, .bool c]
theorem told_ok {fs : List PyData} {ys : List Str} {c : Bool} (ws : WbS 26000 2402 fs) (hp : PersL fs ys) : Ok (toldD fs ys c) ∧ (toldD fs ys c).hasDict = false := by
  have h1 := nodup_wt hp.nd fun y hy => ((hp.mem y).mp hy).1
  have h2 := holders_wt ws.all
  have h3 := ws.wt
  have hsm := holders_sm ws.all ws.sm
  have hok : okA (ys.map PyData.str) = true := okA_iff.mpr fun e he => by
    obtain ⟨y, hy, rfl⟩ := List.mem_map.mp he
    exact sm_ok (hsm y ((hp.mem y).mp hy).1)
  have hd0 : PyData.depthAll (ys.map PyData.str) ≤ 0 := dpA_le.mpr fun e he => by
    obtain ⟨y, hy, rfl⟩ := List.mem_map.mp he
    simp [PyData.depth]
  have hh0 : PyData.hasDictAll (ys.map PyData.str) = false := smA_nd (smA_iff.mpr fun e he => by
    obtain ⟨y, hy, rfl⟩ := List.mem_map.mp he
    exact hsm y ((hp.mem y).mp hy).1)
  have ho : okD (optD (unfF fs)) = true ∧ (optD (unfF fs)).depth = 0 ∧ (optD (unfF fs)).weight ≤ 13 ∧ (optD (unfF fs)).hasDict = false := by
    cases e : unfF fs with
    | none => exact ⟨rfl, by simp [optD, PyData.depth], by simp [optD, PyData.weight], by simp [optD, PyData.hasDict]⟩
    | some n =>
      have q := unf_sm ws.sm ws.all e
      have q2 := (sm_asc q).1
      refine ⟨sm_ok q, by simp [optD, PyData.depth], ?_, by simp [optD, PyData.hasDict]⟩
      show n.cps.size ≤ 13
      exact q2
  obtain ⟨o1, o2, o3, o4⟩ := ho
  unfold toldD
  refine ⟨⟨?_, ?_, ?_⟩, ?_⟩
  · simp only [okD, okA, hok, o1, Bool.and_self]
  · simp only [PyData.depth, PyData.depthAll, o2]
    omega
  · simp only [PyData.weight, PyData.weightAll]
    omega
  · simp only [PyData.hasDict, PyData.hasDictAll, hh0, o4, Bool.or_self]
theorem iteJoin {c b r : Bool} {σ : L2.St} {H : Hp} {i : Nat} {Q : VK} (h1 : σ[i]? = some (some (.bl b))) (hr : r = (c && !b)) (k : Q (.bl r) H) : if c = true then tNotV (tVar i) σ H Q else Q (.bl false) H := by
  cases c with
  | true =>
    rw [hr, Bool.true_and] at k
    exact ⟨_, h1, b, rfl, k⟩
  | false =>
    rw [hr, Bool.false_and] at k
    exact k
def MayV (H : Hp) (fs : List PyData) (R : List PyData → Option (List Str) → Prop) (v : V) : Prop := (v = .non ∧ R fs none) ∨ ∃ p c, v = .ref p ∧ H p = some (.tup (c.map V.str)) ∧ R fs (some c)
theorem MayV.fut {H H' : Hp} {fs : List PyData} {R : List PyData → Option (List Str) → Prop} {v : V} (h : MayV H fs R v) (s : Same H H') : MayV H' fs R v := by
  rcases h with h | ⟨p, c, h1, h2, h3⟩
  · exact .inl h
  · exact .inr ⟨p, c, h1, s _ _ h2, h3⟩
theorem may2 {K : PySem.W.Frag} {σ : L2.St} {H : Hp} {D : Ends} {W : Addr} {xs : List V} {fs : List PyData} (h3 : σ[3]? = some (some (.ref W))) (hS : SqT K H W xs) (hA : DtA K mT H xs fs) (wg : Wg fs)
    (k : ∀ H' vc vo, Same H H' → MayV H' fs CircR vc → MayV H' fs OrdR vo → D.nx ((σ.set 10 (some vc)).set 11 (some vo)) H') :
    tPar 10 11 (tCons (tCall (spMay K CircR) [] E0 (tCons (tVar 3) tNil)) (tCons (tCall (spMay K OrdR) [] E0 (tCons (tVar 3) tNil)) tNil)) D σ H := by
  have k2 : ∀ H' vc, Same H H' → MayV H' fs CircR vc → ∀ Q' : List V → Hp → Prop, (∀ H'' vo, Same H' H'' → MayV H'' fs OrdR vo → Q' [vo] H'') → tCons (tCall (spMay K OrdR) [] E0 (tCons (tVar 3) tNil)) tNil σ H' Q' := fun H' vc s mv Q' q =>
    ⟨_, h3, W, xs, fs, rfl, s.seqT hS, hA.fut (.of_same s), wg, fun H'' s2 r => q H'' _ s2 (.inl ⟨rfl, r⟩), fun p H'' c s2 np r hp => q H'' _ s2 (.inr ⟨p, c, rfl, hp, r⟩)⟩
  have fin : ∀ H' vc, Same H H' → MayV H' fs CircR vc → tCons (tCall (spMay K OrdR) [] E0 (tCons (tVar 3) tNil)) tNil σ H' fun ys H2 => ∃ v w, vc :: ys = [v, w] ∧ D.nx ((σ.set 10 (some v)).set 11 (some w)) H2 := fun H' vc s mv =>
    k2 H' vc s mv _ fun H'' vo s2 mo => ⟨_, _, rfl, k H'' vc vo (s.trans s2) (mv.fut s2) mo⟩
  exact ⟨_, h3, W, xs, fs, rfl, hS, hA, wg, fun H' s r => fin H' _ s (.inl ⟨rfl, r⟩), fun p H' c s np r hp => fin H' _ s (.inr ⟨p, c, rfl, hp, r⟩)⟩
/-- names of a web's firms, as data -/
theorem names_dat {fs : List PyData} (wg : Wg fs) {c : List Str} (hc : ∀ x ∈ c, x ∈ fs.map nmS) (hl : c.length ≤ 20) : Ok (.tuple (c.map PyData.str)) ∧ (∀ x ∈ c, Asc 13 x) := by
  have hsm : ∀ x ∈ c, smD (.str x) = true := fun x hx => by
    obtain ⟨f, hf, rfl⟩ := List.mem_map.mp (hc x hx)
    obtain ⟨n, r, hs, rfl, _⟩ := firm_shape2 (List.all_eq_true.mp wg.all f hf)
    have h1 := smA_iff.mp wg.sm _ hf
    simp only [smD, smA, Bool.and_true, Bool.and_eq_true] at h1 ⊢
    exact h1.1
  have ha : ∀ x ∈ c, Asc 13 x := fun x hx => sm_asc (hsm x hx)
  refine ⟨(ob_tup (fun e he => ?_) (by rw [List.length_map]; omega)).1.ok, ha⟩
  obtain ⟨x, hx, rfl⟩ := List.mem_map.mp he
  exact (ha x hx).om (by decide)
theorem judge2 {K : PySem.W.Frag} {σ : L2.St} {H : Hp} {D : Ends} {W : Addr} {xs : List V} {fs : List PyData} {i : Nat} {v : V} {R' : List PyData → Option (List Str) → Prop} {R : List PyData → PyData → Prop} (h3 : σ[3]? = some (some (.ref W))) (hi : σ[i]? = some (some v)) (hS : SqT K H W xs) (hA : DtA K mT H xs fs) (wg : Wg fs)
    (mv : MayV H fs R' v) (hR : ∀ c, R' fs (some c) → R fs (.tuple (c.map PyData.str)) ∧ c.length ≤ 20 ∧ ∀ x ∈ c, x ∈ fs.map nmS) (k : ∀ H', Same H H' → D.nx σ H') :
    tIfS (tAnd (tTest (tOp (fun x y H Q => y = V.non ∧ Q (V.bl !decide (x = V.non)) H) (tVar i) (tC V.non))) (tNot (tB (tCall (spJudge K R) [] E0 (tCons (tVar 3) (tCons (tVar i) tNil)))))) (tRet (tC (V.bl false))) tNext D σ H := by
  refine ⟨_, hi, rfl, _, rfl, ?_⟩
  rcases mv with ⟨rfl, _⟩ | ⟨p, c, rfl, hp, r⟩
  · rw [decide_eq_true rfl]
    exact iteF (k H (.refl H))
  · obtain ⟨r1, r2, r3⟩ := hR c r
    rw [decide_eq_false (show V.ref p ≠ V.non from fun z => nomatch z)]
    refine iteT ?_
    refine ⟨_, h3, _, hi, W, xs, fs, .ref p, mT, .tuple (c.map PyData.str), rfl, hS, hA, wg, dt_tupS (.of hp) (dtA_strs _), (names_dat wg r3 r2).1, fun ts e => ?_, fun H' bb s hb => ⟨_, rfl, ?_⟩⟩
    · rw [← PyData.tuple.inj e, List.length_map]
      omega
    · rw [hb.mpr r1]
      exact iteF (k H' s)
/-- a thing to be judged -/
def TdP (d : PyData) : Prop := Ok d ∧ lenT d ≤ 4000
theorem Ob.td {d : PyData} (h : Ob d) : TdP d := ⟨h.ok, Nat.le_trans h.2.2.2 (by decide)⟩
theorem MayV.dat {K : PySem.W.Frag} {mu : Addr → Prop} {H : Hp} {fs : List PyData} {R : List PyData → Option (List Str) → Prop} {v : V} (h : MayV H fs R v) (wg : Wg fs) (hR : ∀ c, R fs (some c) → c.length ≤ 12 ∧ ∀ x ∈ c, x ∈ fs.map nmS) :
    ∃ d, Dt K mu H v d ∧ TdP d ∧ (d = .none ∨ ∃ c : List Str, d = .tuple (c.map PyData.str) ∧ c.length ≤ 12 ∧ ∀ x ∈ c, Asc 13 x) := by
  rcases h with ⟨rfl, _⟩ | ⟨p, c, rfl, hp, r⟩
  · exact ⟨.none, .non, by constructor <;> decide +kernel, .inl rfl⟩
  · obtain ⟨h1, h2⟩ := hR c r
    obtain ⟨o1, o2⟩ := names_dat wg h2 (by omega)
    refine ⟨_, dt_tupS (.of hp) (dtA_strs _), ⟨o1, ?_⟩, .inr ⟨c, rfl, h1, o2⟩⟩
    show (c.map PyData.str).length ≤ 4000
    rw [List.length_map]
    omega
def spClear (K : PySem.W.Frag) : Sp := fun vs H Q _ => ∃ (a : Addr) (xs : List V) (fs : List PyData), vs = [.ref a] ∧ SqT K H a xs ∧ DtA K mT H xs fs ∧ Wg fs ∧ ∀ H' b, Same H H' → (b = true ↔ unfF fs = none ∧ ¬ Stuck (fs.map nmS) (owers fs)) → Q (.bl b) H'
section
variable {P : Program} {w : World} {K : PySem.W.Frag} {mg : Str → Option Value} {base : Heap}
structure Defs (P : Program) (w : World) (K : PySem.W.Frag) (mg : Str → Option Value) (base : Heap) : Prop where
  bag : CalG P w K mg base 1 "_law_bag" (spBag K)
  some : CalG P w K mg base 2 "_law_some" spSome
  mixed : CalG P w K mg base 2 "_law_mixed" spMixed
  alike : CalG P w K mg base 1 "_law_alike" (spAlike K)
  anyweb : CalG P w K mg base 23 "_law_any_web" (spAnyWeb K)
  nofounder : CalG P w K mg base 1 "_law_no_founder" (spWg K fun fs => optV (unfF fs))
  hascirc : CalG P w K mg base 53 "_law_has_circle" (spStuck K)
  pers : CalG P w K mg base 2 "persons_of" (spPers K)
  unf : CalG P w K mg base 2 "first_unfounded" (spWg K fun fs => optV (unfF fs))
  fnd : CalG P w K mg base 3 "is_founded" (spWg K fun fs => .bl (unfF fs).isNone)
  clear : CalG P w K mg base 6 "is_clear" (spClear K)
  persL : CalG P w K mg base 1 "_law_persons" (spPersL K)
  circ : CalG P w K mg base 5 "circle_of" (spMay K CircR)
  order : CalG P w K mg base 5 "dues_order" (spMay K OrdR)
  lcirc : CalG P w K mg base 53 "_law_is_circle" (spJudge K IsCirc)
  lord : CalG P w K mg base 53 "_law_is_order" (spJudge K IsOrd)
  pcirc : CalG P w K mg base 5 "is_circle" (spJudge K IsCirc)
  pord : CalG P w K mg base 5 "is_dues_order" (spJudge K IsOrd)
  odd : CalG P w K mg base 3 "_law_odd" (spOdd K)
  bent : CalG P w K mg base 6 "_law_bent" (spBent K 1 Ob)
abbrev slaw : Stmt := topS 47
theorem sc_law : FnScope ["script", "bag", "turn", "web", "kept", "names", "firm", "bare", "has_circle", "told", "circle", "order", "things", "more", "thing", "due"] ["script"] (defScope slaw) := ⟨rfl, rfl, rfl, by decide +kernel, rfl, by decide +kernel, by decide +kernel⟩
theorem ok_law {f : Addr} {fd : FuncData} (F : Fun K "law" "law" slaw f fd) (B : Bt mg) (D : Defs P w K mg base) : FnG P w K mg base 60 f fd ["script"] (spLaw K) := by
  refine Fun.okG F sc_law (fun vs H Q E h => ?_) (fun cdv A outer s H vs Q E hg hr h => ?_)
  · obtain ⟨a, ns, rfl, _⟩ := h
    rfl
  obtain ⟨a, ns, rfl, hS, hl, k⟩ := h
  have hu := Room.u64 hr
  have c__law_bag := D.bag
  have c__law_some := D.some
  have c__law_mixed := D.mixed
  have c__law_alike := D.alike
  have c__law_any_web := D.anyweb
  have c__law_no_founder := D.nofounder
  have c__law_has_circle := D.hascirc
  have c_persons_of := D.pers
  have c_first_unfounded := D.unf
  have c_is_founded := D.fnd
  have c_is_clear := D.clear
  have c__law_persons := D.persL
  have c_circle_of := D.circ
  have c_dues_order := D.order
  have c__law_is_circle := D.lcirc
  have c__law_is_order := D.lord
  have c_is_circle := D.pcirc
  have c_is_dues_order := D.pord
  have c__law_odd := D.odd
  have c__law_bent := D.bent
  refine ⟨_, (pss_cons (ps_set (i := 1) sc_law.nd rfl (Or.inr rfl) (pc c__law_bag hg hr (by omega) (by rfl) (pa_cons (pv 0) pa_nil)))
    (pss_cons (ps_for PassesOwn.never rfl (pi_range1 (by rfl) B.range (pa_cons pe_int pa_nil)) (pg_name (i := 2) sc_law.nd rfl (Or.inl rfl))
      (pss_cons (ps_set (i := 3) sc_law.nd rfl (Or.inl rfl) (pc c__law_any_web hg hr (by omega) (by rfl) (pa_cons (pv 1) pa_nil)))
      (pss_cons (ps_asg (pe_tup (pa_cons (pe_callB (call_repr hg hu) (by rfl) B.repr bb_repr (pa_cons (pv 3) pa_nil)) (pa_cons (pe_lc (own := [("firm", 6)]) rfl sc_law.nd (pi_tup (pv 3)) (blkOk_by (own := [("firm", 6)]) (N := ["script", "bag", "turn", "web", "kept", "names", "firm", "bare", "has_circle", "told", "circle", "order", "things", "more", "thing", "due"]) (sc := (defScope slaw)) (by decide +kernel)) (fun _ _ _ _ _ => (pg_name (i := 6) sc_law.nd rfl (Or.inl rfl))) (fun _ _ _ _ _ => pts_nil) (fun _ _ _ _ _ => (pe_ix (ix_tupK (K := K) rfl) (pv 6) pe_int (fun _ _ => rfl)))) pa_nil))) (pg_tup (n := 2) rfl (pgs_cons (pg_name (i := 4) sc_law.nd rfl (Or.inl rfl)) (pgs_cons (pg_name (i := 5) sc_law.nd rfl (Or.inr rfl)) pgs_nil))))
      (pss_cons (ps_par (i := 7) (j := 8) rfl sc_law.nd rfl rfl (by decide) rfl rfl (pa_cons (pc c__law_no_founder hg hr (by omega) (by rfl) (pa_cons (pv 3) pa_nil)) (pa_cons (pc c__law_has_circle hg hr (by omega) (by rfl) (pa_cons (pv 3) pa_nil)) pa_nil)) (by rfl))
      (pss_cons (ps_set (i := 9) sc_law.nd rfl (Or.inl rfl) (pe_lst (pa_cons (pc c_persons_of hg hr (by omega) (by rfl) (pa_cons (pv 3) pa_nil)) (pa_cons (pc c_first_unfounded hg hr (by omega) (by rfl) (pa_cons (pv 3) pa_nil)) (pa_cons (pc c_is_founded hg hr (by omega) (by rfl) (pa_cons (pv 3) pa_nil)) (pa_cons (pc c_is_clear hg hr (by omega) (by rfl) (pa_cons (pv 3) pa_nil)) pa_nil))))))
      (pss_cons (ps_if (pt_not (pt_val (pc c__law_alike hg hr (by omega) (by rfl) (pa_cons (pv 9) (pa_cons (pe_lst (pa_cons (pe_callTy call_tuple_of (by rfl) B.tuple bb_tuple (pa_cons (pc c__law_persons hg hr (by omega) (by rfl) (pa_cons (pv 3) pa_nil)) pa_nil)) (pa_cons (pv 7) (pa_cons (pe_cmpR op_isN (pv 7) pe_non (nomark _)) (pa_cons (pe_and (pe_cmpR op_isN (pv 7) pe_non (nomark _)) (pe_one (pe_not (pv 8)))) pa_nil))))) pa_nil)))))
        (pss_one (ps_ret pe_bl))
        pss_nil)
      (pss_cons (ps_par (i := 10) (j := 11) rfl sc_law.nd rfl rfl (by decide) rfl rfl (pa_cons (pc c_circle_of hg hr (by omega) (by rfl) (pa_cons (pv 3) pa_nil)) (pa_cons (pc c_dues_order hg hr (by omega) (by rfl) (pa_cons (pv 3) pa_nil)) pa_nil)) (by rfl))
      (pss_cons (ps_if (PW.pt (pw_or (pt_cmpR op_eq (pe_cmpR op_isN (pv 10) pe_non (nomark _)) (pv 8) (nomark _)) (pw_or1 (pt_cmpR op_ne (pe_cmpR op_isN (pv 11) pe_non (nomark _)) (pv 8) (nomark _)))))
        (pss_one (ps_ret pe_bl))
        pss_nil)
      (pss_cons (ps_if (PW.pt (pw_and (pt_cmpR op_notN (pv 10) pe_non (nomark _)) (pw_and1 (pt_not (pt_val (pc c__law_is_circle hg hr (by omega) (by rfl) (pa_cons (pv 3) (pa_cons (pv 10) pa_nil))))))))
        (pss_one (ps_ret pe_bl))
        pss_nil)
      (pss_cons (ps_if (PW.pt (pw_and (pt_cmpR op_notN (pv 11) pe_non (nomark _)) (pw_and1 (pt_not (pt_val (pc c__law_is_order hg hr (by omega) (by rfl) (pa_cons (pv 3) (pa_cons (pv 11) pa_nil))))))))
        (pss_one (ps_ret pe_bl))
        pss_nil)
      (pss_cons (ps_set (i := 12) sc_law.nd rfl (Or.inl rfl) (pe_lst (pa_cons (pv 10) (pa_cons (pv 11) (pa_cons (pe_callTy call_tuple_of (by rfl) B.tuple bb_tuple (pa_cons (pv 5) pa_nil)) (pa_cons (pe_callTy call_tuple_of (by rfl) B.tuple bb_tuple (pa_cons (pe_revL (pv 5)) pa_nil)) (pa_cons (pv 5) (pa_cons (pe_callTy call_tuple_of (by rfl) B.tuple bb_tuple (pa_cons (pc c__law_mixed hg hr (by omega) (by rfl) (pa_cons (pv 1) (pa_cons (pv 5) pa_nil))) pa_nil)) (pa_cons (pe_tup pa_nil) pa_nil)))))))))
      (pss_cons (ps_set (i := 12) sc_law.nd rfl (Or.inl rfl) (pe_op op_cat (pe_op op_cat (pv 12) (pe_lc (own := [("more", 13)]) rfl sc_law.nd (pi_range1 (by rfl) B.range (pa_cons pe_int pa_nil)) (blkOk_by (own := [("more", 13)]) (N := ["script", "bag", "turn", "web", "kept", "names", "firm", "bare", "has_circle", "told", "circle", "order", "things", "more", "thing", "due"]) (sc := (defScope slaw)) (by decide +kernel)) (fun _ _ _ _ _ => (pg_name (i := 13) sc_law.nd rfl (Or.inl rfl))) (fun _ _ _ _ _ => pts_nil) (fun _ _ _ _ _ => (pe_callTy (call_tupK (K := K) rfl) (by rfl) B.tuple bb_tuple (pa_cons (pe_slice (sl_listK (K := K) rfl) (pc c__law_mixed hg hr (by omega) (by rfl) (pa_cons (pv 1) (pa_cons (pv 5) pa_nil))) po_none (po_some pe_int)) pa_nil))))) (pe_lst (pa_cons (pe_op op_catA (pe_callTy call_tuple_of (by rfl) B.tuple bb_tuple (pa_cons (pv 5) pa_nil)) (pe_tup (pa_cons pe_str pa_nil))) pa_nil))))
      (pss_cons (ps_for PassesOwn.never rfl (pi_range1 (by rfl) B.range (pa_cons pe_int pa_nil)) (pg_name (i := 13) sc_law.nd rfl (Or.inl rfl))
        (pss_one (ps_expr (pe_bm PySem.F.plainAttrs_list PySem.F.slot_list_append PySem.F.type_list_append mt_append (pv 12) (pa_cons (pc c__law_bent hg hr (by omega) (by rfl) (pa_cons (pv 1) (pa_cons (pe_orT (pc c__law_some hg hr (by omega) (by rfl) (pa_cons (pv 1) (pa_cons (pe_lst (pa_cons (pv 10) (pa_cons (pv 11) (pa_cons (pe_callTy call_tuple_of (by rfl) B.tuple bb_tuple (pa_cons (pv 5) pa_nil)) pa_nil)))) pa_nil))) (pe_one (pe_tup (pa_cons pe_str (pa_cons pe_str pa_nil))))) pa_nil))) pa_nil)))))
      (pss_cons (ps_expr (pe_bm PySem.F.plainAttrs_list PySem.F.slot_list_append PySem.F.type_list_append mt_append (pv 12) (pa_cons (pc c__law_odd hg hr (by omega) (by rfl) (pa_cons (pv 1) pa_nil)) pa_nil)))
      (pss_one (ps_for PassesOwn.never rfl (pi_list (pv 12)) (pg_name (i := 14) sc_law.nd rfl (Or.inl rfl))
        (pss_cons (ps_set (i := 15) sc_law.nd rfl (Or.inl rfl) (pe_lst (pa_cons (pc c__law_is_circle hg hr (by omega) (by rfl) (pa_cons (pv 3) (pa_cons (pv 14) pa_nil))) (pa_cons (pc c__law_is_order hg hr (by omega) (by rfl) (pa_cons (pv 3) (pa_cons (pv 14) pa_nil))) pa_nil))))
        (pss_one (ps_if (PW.pt (pw_or (pt_not (pt_val (pc c__law_alike hg hr (by omega) (by rfl) (pa_cons (pe_lst (pa_cons (pc c_is_circle hg hr (by omega) (by rfl) (pa_cons (pv 3) (pa_cons (pv 14) pa_nil))) (pa_cons (pc c_is_dues_order hg hr (by omega) (by rfl) (pa_cons (pv 3) (pa_cons (pv 14) pa_nil))) pa_nil))) (pa_cons (pv 15) pa_nil))))) (pw_or1 (pt_cmpR op_ne (pe_callB (call_repr hg hu) (by rfl) B.repr bb_repr (pa_cons (pv 3) pa_nil)) (pv 4) (nomark _)))))
          (pss_one (ps_ret pe_bl))
          pss_nil)))))))))))))))))))
    (pss_one (ps_ret pe_bl)))), ?_⟩
  refine ⟨_, rfl, a, ns, rfl, hS, hl, fun b H1 s1 nb hb => ?_⟩
  have hmu : mF b b := rfl
  have M1 : MuOk (mF b) H1 := fun a z => MuOk.bag hb a (.inl z)
  refine ⟨4, rfl, by decide, by decide, ?_⟩
  refine for_it (walk_range (lo := 0) (n := 4)) (fun i σ H' => ∃ o2 o3 o4 o5 o7 o8 o9 o10 o11 o12 o13 o14 o15, σ = [some (.ref a), some (.ref b), o2, o3, o4, o5, none, o7, o8, o9, o10, o11, o12, o13, o14, o15] ∧ Rel b H1 H') ⟨_, _, _, _, _, _, _, _, _, _, _, _, _, rfl, .refl hb⟩ (fun _ _ _ _ _ => trivial) (fun i x σ H2 H3 hi h y => ?_) fun σ H2 h => ?_
  · obtain ⟨o2, o3, o4, o5, o7, o8, o9, o10, o11, o12, o13, o14, o15, rfl, R3⟩ := h
    obtain ⟨rfl, -⟩ := y
    refine ⟨_, rfl, b, mF b, rfl, hmu, R3.bag, M1.rel R3, fun vW H4 fs ws R4 hdW => ?_⟩
    obtain ⟨W, xs, rfl, hSW, hAW⟩ := hdW.tupAt
    have wg := ws.wg (by decide) (by decide)
    have hnd : (PyData.tuple fs).hasDict = false := by simp only [PyData.hasDict]; exact smA_nd ws.sm
    have R14 := R3.trans R4
    have fewW := ws.few
    have nsd := asc_nodup wg.asc
    refine ⟨_, rfl, .ref W, mT, .tuple fs, rfl, hdW, wg.ok.show, .inl hnd, by have := wg.ok.dp; omega, wg.ok.fits, ?_⟩
    refine ⟨_, rfl, W, rfl, ⟨xs, hSW⟩, fun Nm nN => lc_names (Nat.le_of_ble_eq_true rfl) hSW hAW wg nN fun H5 s5 hN => ⟨sz8 (by simp), fun tp ntp => ⟨tp, _, rfl, .of upd_same, rfl, _, _, rfl, _, _, rfl, rfl, ?_⟩⟩⟩
    have q5 := s5.trans (same_upd (o := .tup [V.str (PyData.tuple fs).shown, V.ref Nm]) ntp)
    have hN5 := same_upd (o := .tup [V.str (PyData.tuple fs).shown, V.ref Nm]) ntp _ _ hN
    have NmB := bag_ne R14.bag nN
    have R15 := R14.same q5
    have hS5 := q5.seqT hSW
    have hA5 := hAW.fut (.of_same q5)
    generalize upd H5 tp (.tup [V.str (PyData.tuple fs).shown, V.ref Nm]) = G at q5 hN5 R15 hS5 hA5
    -- bare, has_circle
    refine ⟨_, rfl, W, xs, fs, rfl, hS5, hA5, wg, fun H6 s6 => ⟨_, rfl, W, xs, fs, rfl, s6.seqT hS5, hA5.fut (.of_same s6), wg, fun H7 hc s7 hhc => ⟨_, _, rfl, ?_⟩⟩⟩
    have s67 := s6.trans s7
    have hS7 := s67.seqT hS5
    have hA7 := hA5.fut (.of_same s67)
    -- told
    refine ⟨_, rfl, W, xs, fs, rfl, hS7, hA7, wg, fun p8 H8 ys s8 np8 hpy hp8 => ⟨_, rfl, W, xs, fs, rfl, s8.seqT hS7, hA7.fut (.of_same s8), wg, fun H9 s9 => ⟨_, rfl, W, xs, fs, rfl, (s8.trans s9).seqT hS7, hA7.fut (.of_same (s8.trans s9)), wg, fun H10 s10 => ⟨_, rfl, W, xs, fs, rfl, ((s8.trans s9).trans s10).seqT hS7, hA7.fut (.of_same ((s8.trans s9).trans s10)), wg, fun H11 cl s11 hcl => ⟨sz8 (by simp), fun Td nTd => ?_⟩⟩⟩⟩⟩
    have s8_11 := ((s8.trans s9).trans s10).trans s11
    have qT := same_upd (o := .lst [V.ref p8, optV (unfF fs), .bl (unfF fs).isNone, .bl cl]) nTd
    have s8T := s8_11.trans qT
    have hTd := upd_same (H := H11) (a := Td) (o := .lst [V.ref p8, optV (unfF fs), .bl (unfF fs).isNone, .bl cl])
    have hp8T := (((s9.trans s10).trans s11).trans qT) _ _ hp8
    have hS12 := s8T.seqT hS7
    have hA12 := hA7.fut (.of_same s8T)
    refine ⟨_, rfl, _, rfl, W, xs, fs, rfl, hS12, hA12, wg, fun pL H13 ys' s13 npL hpy' hpL => ⟨pL, ys'.map V.str, rfl, .inl ⟨.inl (.inl hpL), fun l nl => ?_⟩⟩⟩
    have eys : ys' = ys := sorted_eq hpy'.srt hpy.srt hpy'.nd hpy.nd fun z => (hpy'.mem z).trans (hpy.mem z).symm
    subst eys
    have hcl2 : cl = ((unfF fs).isNone && !hc) := by
      have e0 : (unfF fs).isNone = true ↔ unfF fs = none := Option.isNone_iff_eq_none
      rw [Bool.eq_iff_iff, Bool.and_eq_true, hcl, e0, Bool.not_eq_true', ← Bool.not_eq_true, hhc]
    have eN : decide (optV (unfF fs) = V.non) = (unfF fs).isNone := by
      cases unfF fs with
      | none => exact decide_eq_true rfl
      | some n => exact decide_eq_false fun z => nomatch z
    refine ⟨_, rfl, _, rfl, rfl, _, rfl, ⟨rfl, _, rfl, ?_⟩⟩
    have eN' : decide ((fun fs => optV (unfF fs)) fs = V.non) = (unfF fs).isNone := eN
    rw [eN']
    have hok := told_ok (c := cl) ws hpy'
    have q13 := same_upd (o := .tup (ys'.map V.str)) nl
    have sAll := s8T.trans (s13.trans q13)
    have hTd2 := (s13.trans q13) _ _ hTd
    have hp8T2 := (s13.trans q13) _ _ hp8T
    have hl2 := upd_same (H := H13) (a := l) (o := .tup (ys'.map V.str))
    generalize upd H13 l (.tup (ys'.map V.str)) = H14 at sAll hTd2 hp8T2 hl2
    refine iteJoin (b := hc) (r := cl) rfl hcl2 ?_
    refine ⟨sz8 (by simp), fun Dd nDd => ?_⟩
    have qD := same_upd (o := .lst [V.ref l, optV (unfF fs), .bl (unfF fs).isNone, .bl cl]) nDd
    have hDd := upd_same (H := H14) (a := Dd) (o := .lst [V.ref l, optV (unfF fs), .bl (unfF fs).isNone, .bl cl])
    refine ⟨.ref Td, .ref Dd, (fun _ => False), toldD fs ys' cl, rfl, .lst id (.inl (qD _ _ hTd2)) (.cons (dt_tupS (.of (qD _ _ hp8T2)) (dtA_strs _)) (.cons (dt_opt _) (.cons (.bl _) (.cons (.bl _) .nil)))), .lst id (.inl hDd) (.cons (dt_tupS (.of (qD _ _ hl2)) (dtA_strs _)) (.cons (dt_opt _) (.cons (.bl _) (.cons (.bl _) .nil)))), hok.1, .inl hok.2, _, rfl, iteF ?_⟩
    have sB := sAll.trans qD
    have hSB := sB.seqT hS7
    have hAB := hA7.fut (.of_same sB)
    generalize upd H14 Dd (.lst [V.ref l, optV (unfF fs), .bl (unfF fs).isNone, .bl cl]) = H15 at sB hSB hAB
    refine may2 (K := K) rfl hSB hAB wg fun H16 vc vo s16 mc mo => ?_
    have cN : decide (vc = V.non) = !hc := by
      rcases mc with ⟨rfl, r⟩ | ⟨p, c, rfl, _, r⟩
      · have e : hc = false := by
          cases hc with
          | true => exact absurd (hhc.mp rfl) r
          | false => rfl
        rw [e]
        exact decide_eq_true rfl
      · rw [hhc.mpr r.1]
        exact decide_eq_false fun z => nomatch z
    have oN : decide (vo = V.non) = hc := by
      rcases mo with ⟨rfl, r⟩ | ⟨p, c, rfl, _, r⟩
      · rw [hhc.mpr r]
        exact decide_eq_true rfl
      · have e : hc = false := by
          cases hc with
          | true => exact absurd (hhc.mp rfl) r.1
          | false => rfl
        rw [e]
        exact decide_eq_false fun z => nomatch z
    refine ⟨_, rfl, rfl, _, rfl, rfl, _, rfl, ?_⟩
    rw [cN, decide_eq_false (show V.bl (!hc) ≠ V.bl hc from fun z => by cases hc <;> cases z)]
    refine iteF ⟨_, rfl, rfl, _, rfl, rfl, _, rfl, ?_⟩
    rw [oN, decide_eq_true rfl]
    refine iteF ?_
    have hS16 := s16.seqT hSB
    have hA16 := hAB.fut (.of_same s16)
    have hnl : (fs.map nmS).length = fs.length := List.length_map _
    refine judge2 (K := K) rfl rfl hS16 hA16 wg mc (fun c r => ⟨⟨c, rfl, r.2⟩, by have := nodup_le r.2.nd r.2.sub; omega, r.2.sub⟩) fun H17 s17 => ?_
    refine judge2 (K := K) rfl rfl (s17.seqT hS16) (hA16.fut (.of_same s17)) wg (mo.fut s17) (fun c r => ⟨⟨c, rfl, r.2.1, r.2.2⟩, by have := r.2.1.length_eq; omega, fun x hx => r.2.1.mem_iff.mp hx⟩) fun H18 s18 => ?_
    have s16_18 := s16.trans (s17.trans s18)
    have mc18 := (mc.fut s17).fut s18
    have mo18 := (mo.fut s17).fut s18
    obtain ⟨dc, hdc, tdc, shc⟩ := mc18.dat (K := K) (mu := mF b) wg fun c r => ⟨by have := nodup_le r.2.nd r.2.sub; omega, r.2.sub⟩
    obtain ⟨do', hdo, tdo, sho⟩ := mo18.dat (K := K) (mu := mF b) wg fun c r => ⟨by have := r.2.1.length_eq; omega, fun x hx => r.2.1.mem_iff.mp hx⟩
    have sG := s67.trans (sB.trans s16_18)
    have hN18 := sG _ _ hN5
    have R18 := R15.same sG
    have hS18 := sG.seqT hS5
    have hA18 := hA5.fut (.of_same sG)
    have b18 := R18.bag
    have M18 := M1.rel R18
    obtain ⟨onm, anm⟩ := names_dat wg (c := fs.map nmS) (fun x hx => hx) (by omega)
    have tnm : ∀ c : List Str, (∀ x ∈ c, x ∈ fs.map nmS) → c.length ≤ 20 → TdP (.tuple (c.map PyData.str)) := fun c h1 h2 => ⟨(names_dat wg h1 h2).1, by show (c.map PyData.str).length ≤ 4000; rw [List.length_map]; omega⟩
    have tnl : TdP (.list ((fs.map nmS).map PyData.str)) := by
      have q := ob_tup (es := (fs.map nmS).map PyData.str) (fun e he => by
        obtain ⟨x, hx, rfl⟩ := List.mem_map.mp he
        exact (anm x hx).om (by decide)) (by rw [List.length_map]; omega)
      exact q.2.td
    have gTup : ∀ {σ : L2.St} {i : Nat}, σ[i]? = some (some (.ref Nm)) → Gn K b (mF b) σ H18 (tCB (fun xs H_1 Q => ∃ p ys, xs = [V.ref p] ∧ ((SqL K H_1 p ys ∧ ∀ l, H_1 l = none → Q (V.ref l) (upd H_1 l (HO.tup ys))) ∨ SqT K H_1 p ys ∧ Q (V.ref p) H_1)) (tCons (tVar i) tNil)) TdP := fun {σ i} hσ H r m Q q =>
      ⟨_, hσ, Nm, _, rfl, .inl ⟨.inl (.inl (r.keep _ _ NmB hN18)), fun l nl => q _ _ _ (tnm (fs.map nmS) (fun x hx => hx) (by omega)) (Rel.of_same r.bag (same_upd nl)) (dt_tupS (.of upd_same) (dtA_strs _))⟩⟩
    refine gnL_use (D := TdP) (n := 7) (b := b) (mu := mF b) (K := K)
      (gnA_cons hmu (gn_var hmu b18 rfl hdc tdc)
      (gnA_cons hmu (gn_var hmu b18 rfl hdo tdo)
      (gnA_cons hmu (gTup rfl)
      (gnA_cons hmu (fun H r m Q q => ⟨_, rfl, ?_⟩)
      (gnA_cons hmu (gn_var (d := .list ((fs.map nmS).map PyData.str)) (v := .ref Nm) hmu b18 rfl (.lst NmB (.inl hN18) (dtA_strs _)) tnl)
      (gnA_cons hmu (fun H r m Q q => ⟨_, rfl, _, rfl, b, Nm, _, rfl, r.bag, NmB, r.keep _ _ NmB hN18, by rw [List.length_map, List.length_map]; omega, fun p H' zs R' hp np hz => ?_⟩)
      (gnA_cons hmu ((ge_tup hmu geA_nil (show 0 ≤ 1000 by decide)).gn (by constructor <;> decide +kernel)) gnA_nil))))))) b18 M18 (by decide) fun Th H19 vs1 ds1 hl1 hds1 R19 e19 hTh ThB => ?_
    rotate_left
    · have er : ((fs.map nmS).map V.str).reverse = (fs.map nmS).reverse.map V.str := by rw [List.map_reverse]
      refine ⟨Nm, _, rfl, .inl (.inl (r.keep _ _ NmB hN18)), fun p np => ⟨p, (fs.map nmS).reverse.map V.str, rfl, .inl ⟨.inl (.inl (by rw [upd_same, er])), fun l nl => ?_⟩⟩⟩
      exact q _ _ _ (tnm (fs.map nmS).reverse (fun x hx => List.mem_reverse.mp hx) (by rw [List.length_reverse]; omega)) (Rel.of_same r.bag ((same_upd np).trans (same_upd nl))) (dt_tupS (.of upd_same) (dtA_strs _))
    · obtain ⟨ys2, rfl, hys2⟩ := perm_strs hz
      refine ⟨p, _, rfl, .inl ⟨.inl (.inl hp), fun l nl => ?_⟩⟩
      exact q _ _ _ (tnm ys2 (fun x hx => hys2.mem_iff.mp hx) (by rw [hys2.length_eq]; omega)) (R'.same (same_upd nl)) (dt_tupS (.of upd_same) (dtA_strs _))
    have R19' := R18.trans R19
    have hN19 := R19.keep _ _ NmB hN18
    have l19 := e19.length
    refine ⟨_, rfl, 3, rfl, by decide, by decide, fun D nD => ?_⟩
    have DB := bag_ne R19'.bag nD
    refine lc_it (walk_range (lo := 0) (n := 3)) (fun j H' => Rel b H19 H' ∧ ∃ ws ds, H' D = some (.lst ws) ∧ DtA K (fun a => a = b ∨ a = D) H' ws ds ∧ (∀ d ∈ ds, TdP d) ∧ ds.length = j) ⟨(Rel.refl R19'.bag).at R19'.bag nD, [], [], upd_same, .nil, (fun _ h => nomatch h), rfl⟩ (fun _ _ _ _ => trivial) ?_ ?_
    · rintro j x H20 H21 hj ⟨R20, ws', ds', hD20, e20, t20, l20⟩ ⟨rfl, rfl⟩
      refine ⟨rfl, _, rfl, _, rfl, b, Nm, _, rfl, R20.bag, NmB, R20.keep _ _ NmB hN19, by rw [List.length_map, List.length_map]; omega, fun p H22 zs R22 hp np hz => ?_⟩
      obtain ⟨ys2, rfl, hys2⟩ := perm_strs hz
      have ec : cutV (ys2.map V.str) none (some 2) = (ys2.take 2).map V.str := by rw [show (2 : Int) = ((2 : Nat) : Int) from rfl, cutV_upto, List.map_take]
      refine nopart ⟨2, rfl, p, _, rfl, .inl (.inl hp), fun p2 np2 => ?_⟩
      refine ⟨p2, (ys2.take 2).map V.str, rfl, .inl ⟨.inl (.inl (by rw [upd_same, ec])), fun l nl => ?_⟩⟩
      have sL := (same_upd (o := .lst (cutV (ys2.map V.str) none (some 2))) np2).trans (same_upd (o := .tup ((ys2.take 2).map V.str)) nl)
      have RL := (R20.trans R22).same sL
      have hDL := sL _ _ (R22.keep _ _ DB hD20)
      have fL : Fut (fun a => a = b ∨ a = D) H21 _ := (R22.fut (mu := fun a => a = b ∨ a = D) (.inl rfl) R20.bag).trans (.of_same sL)
      have fD := (fut_at (o' := .lst (ws' ++ [V.ref l])) hDL).mono (mv := fun a => a = b ∨ a = D) fun a e => .inr e
      have wl := e20.length
      have dN : Dt K (fun a => a = b ∨ a = D) (upd (upd H22 p2 (.lst (cutV (ys2.map V.str) none (some 2)))) l (.tup ((ys2.take 2).map V.str))) (.ref l) (.tuple ((ys2.take 2).map PyData.str)) := dt_tupS (.of upd_same) (dtA_strs _)
      refine ⟨ws', hDL, small1000 (by omega), RL.at R19'.bag nD, ws' ++ [.ref l], ds' ++ [_], upd_same, ((e20.fut fL).fut fD).append (.cons (dN.fut fD) .nil), fun d hd => ?_, by rw [List.length_append, l20]; rfl⟩
      rcases List.mem_append.mp hd with q | q
      · exact t20 d q
      · rw [List.mem_singleton.mp q]
        exact tnm (ys2.take 2) (fun x hx => hys2.mem_iff.mp (List.mem_of_mem_take hx)) (by rw [List.length_take]; omega)
    · rintro H20 ⟨R20, ws', ds', hD20, e20, t20, l20⟩
      have hTh20 := R20.keep _ _ ThB hTh
      have e19' := e19.fut (R20.fut (mu := mF b) hmu R19'.bag)
      have e20' := e20.less (mv := mF b) fun a e => .inl e
      have wl := e20.length
      have hN20 := R20.keep _ _ NmB hN19
      refine ⟨Th, D, vs1, ws', rfl, rfl, hTh20, hD20, by have := sizeLine_eq; omega, fun T1 nT1 => ⟨_, rfl, Nm, _, rfl, .inl ⟨.inl (.inl (same_upd nT1 _ _ hN20)), fun l nl => ⟨sz8 (by simp), fun t nt => ?_⟩⟩⟩⟩
      have g1 := same_upd (o := .lst (vs1 ++ ws')) nT1
      have g2 := same_upd (o := .tup ((fs.map nmS).map V.str)) nl
      have g3 := same_upd (o := .tup [V.str "x"]) nt
      have hT1 := (g2.trans g3) _ _ (show upd H20 T1 (.lst (vs1 ++ ws')) T1 = _ from upd_same)
      refine cat_use (ys := (["x"] : List Str).map V.str) (g3.seqT (.of (upd_same (H := upd H20 T1 (.lst (vs1 ++ ws')))))) (.of upd_same) (by have := sizeLine_eq; rw [List.length_map, List.length_map]; simp; omega) fun p8 H21 s21 hp8 => ⟨sz8 (by simp), fun Lx nLx => ?_⟩
      rw [← List.map_append] at hp8
      have g4 := same_upd (o := .lst [V.ref p8]) nLx
      refine ⟨T1, Lx, _, _, rfl, rfl, (s21.trans g4) _ _ hT1, upd_same, by have := sizeLine_eq; rw [List.length_append, List.length_singleton]; omega, fun Tx nTx => ?_⟩
      have gAll := ((g1.trans g2).trans g3).trans (s21.trans g4)
      have fG : Fut (mF b) H20 _ := .of_same gAll
      have e3 := (((e19'.append e20').fut fG).append (.cons (dt_tupS (mu := mF b) (g4.seqT hp8) (dtA_strs _)) .nil)).more nTx
      have gT := same_upd (o := .lst (vs1 ++ ws' ++ [V.ref p8])) nTx
      have e4 := e3.fut (.of_same gT)
      have hTx := upd_same (H := upd H21 Lx (.lst [V.ref p8])) (a := Tx) (o := .lst (vs1 ++ ws' ++ [V.ref p8]))
      have R21 := R20.same (gAll.trans gT)
      have TxN : H20 Tx = none := same_none gAll nTx
      have TxB := bag_ne R20.bag TxN
      have Rg : Rel b H20 _ := Rel.of_same R20.bag (gAll.trans gT)
      have tX : TdP (.tuple ((fs.map nmS ++ (["x"] : List Str)).map PyData.str)) := by
        refine (ob_tup (fun e he => ?_) (by rw [List.length_map, List.length_append, List.length_singleton]; omega)).1.td
        obtain ⟨z, hz, rfl⟩ := List.mem_map.mp he
        rcases List.mem_append.mp hz with q | q
        · exact (anm z q).om (by decide)
        · rw [List.mem_singleton.mp q]
          decide +kernel
      have tAll : ∀ d ∈ ds1 ++ ds' ++ [PyData.tuple ((fs.map nmS ++ (["x"] : List Str)).map PyData.str)], TdP d := fun d hd => by
        rcases List.mem_append.mp hd with q | q
        · rcases List.mem_append.mp q with q | q
          · exact hds1 d q
          · exact t20 d q
        · rw [List.mem_singleton.mp q]
          exact tX
      have lAll : (ds1 ++ ds' ++ [PyData.tuple ((fs.map nmS ++ (["x"] : List Str)).map PyData.str)]).length = 11 := by
        rw [List.length_append, List.length_append, hl1, l20]
        rfl
      generalize ds1 ++ ds' ++ [PyData.tuple ((fs.map nmS ++ (["x"] : List Str)).map PyData.str)] = dsA at e4 tAll lAll
      generalize vs1 ++ ws' ++ [V.ref p8] = vsA at e4 hTx Rg
      generalize upd (upd H21 Lx (.lst [V.ref p8])) Tx (.lst vsA) = G0 at e4 hTx Rg
      refine ⟨4, rfl, by decide, by decide, ?_⟩
      refine for_it (walk_range (lo := 0) (n := 4)) (fun i' σ H' => ∃ (o13 : Option V) (vs : List V) (ds : List PyData), σ = [some (.ref a), some (.ref b), some x, some (.ref W), some (.str (PyData.tuple fs).shown), some (.ref Nm), none, some (optV (unfF fs)), some (.bl hc), some (.ref Td), some vc, some vo, some (.ref Tx), o13, o14, o15] ∧ Rel b H20 H' ∧ H' Tx = some (.lst vs) ∧ DtA K (fun a => a = b ∨ a = Tx) H' vs ds ∧ (∀ d ∈ ds, TdP d) ∧ ds.length = 11 + i') ⟨_, vsA, dsA, rfl, Rg, hTx, e4, tAll, lAll⟩ (fun _ _ _ _ _ => trivial) (fun i' x' σ H22 H23 hi' h y => ?_) fun σ H22 h => ?_
      · obtain ⟨o13', vs, ds, rfl, R22, hTx22, eT, tT, lT⟩ := h
        obtain ⟨rfl, rfl⟩ := y
        have R1820 : Rel b H18 H20 := R19.trans R20
        have M22 : MuOk (mF b) H23 := M18.rel (R1820.trans R22)
        have muT : (fun a => a = b ∨ a = Tx) b := .inl rfl
        have hab : ∀ c ∈ (["a", "b"] : List Str), Asc 13 c := fun c hc => by
          simp only [List.mem_cons, List.not_mem_nil, or_false] at hc
          rcases hc with rfl | rfl <;> exact ⟨by decide +kernel, by decide +kernel⟩
        refine ⟨_, rfl, .inl ⟨rfl, _, .inl (.inl hTx22)⟩, _, rfl, ?_⟩
        have fin : ∀ (H' : Hp) (v : V) (d : PyData) (Q' : VK), Bi 1 d → Dt K (fun a => a = b ∨ a = Tx) H' v d → Rel b H23 H' → (∀ u H'' d', Ob d' → Rel b H' H'' → Dt K (fun a => a = b ∨ a = Tx) H'' u d' → Q' u H'') → spBent K 1 Ob [.ref b, v] H' Q' E0 := fun H' v d Q' hbi hd R q => by
          refine ⟨b, (fun a => a = b ∨ a = Tx), v, d, rfl, muT, R.bag, fun a z => ?_, hd, hbi, fun u H'' d' ho R' hd' => q u H'' d' ho R' hd'⟩
          rcases z with rfl | rfl
          · obtain ⟨x0, y0, z0, l0, cs0, h0, _⟩ := R.bag
            exact .inl (by rw [h0]; exact fun z => nomatch z)
          · exact .inl (by rw [R.keep _ _ TxB hTx22]; exact fun z => nomatch z)
        have fin2 : ∀ (H' : Hp) (u : V) (d' : PyData), Ob d' → Rel b H23 H' → Dt K (fun a => a = b ∨ a = Tx) H' u d' → rAppend (.ref Tx) [u] H' fun _ H2 => ∃ (o13 : Option V) (vs : List V) (ds : List PyData), [some (.ref a), some (.ref b), some x, some (.ref W), some (.str (PyData.tuple fs).shown), some (.ref Nm), none, some (optV (unfF fs)), some (.bl hc), some (.ref Td), some vc, some vo, some (.ref Tx), some (.int (0 + (i' : Int))), o14, o15] = [some (.ref a), some (.ref b), some x, some (.ref W), some (.str (PyData.tuple fs).shown), some (.ref Nm), none, some (optV (unfF fs)), some (.bl hc), some (.ref Td), some vc, some vo, some (.ref Tx), o13, o14, o15] ∧ Rel b H20 H2 ∧ H2 Tx = some (.lst vs) ∧ DtA K (fun a => a = b ∨ a = Tx) H2 vs ds ∧ (∀ d ∈ ds, TdP d) ∧ ds.length = 11 + (i' + 1) := fun H' u d' ho R hd' => by
          have hT' := R.keep _ _ TxB hTx22
          have lv := eT.length
          have fD := (fut_at (o' := .lst (vs ++ [u])) hT').mono (mv := fun a => a = b ∨ a = Tx) fun a e => .inr e
          refine ⟨Tx, vs, u, rfl, rfl, hT', small1000 (by omega), _, vs ++ [u], ds ++ [d'], rfl, (R22.trans R).at R20.bag TxN, upd_same, ((eT.fut (R.fut muT R22.bag)).append (.cons hd' .nil)).fut fD, fun d hd => ?_, by rw [List.length_append, lT]; rfl⟩
          rcases List.mem_append.mp hd with q | q
          · exact tT d q
          · rw [List.mem_singleton.mp q]
            exact ho.td
        refine Sw.gn_some (K := K) (b := b) (mu := mF b) (H0 := H18) (D := fun d => d = .none ∨ ∃ c : List Str, d = .tuple (c.map PyData.str) ∧ c.length ≤ 12 ∧ ∀ x ∈ c, Asc 13 x) (n := 3) hmu rfl
          (gnA_cons hmu (gn_var hmu b18 rfl hdc shc)
          (gnA_cons hmu (gn_var hmu b18 rfl hdo sho)
          (gnA_cons hmu (fun H r m Q q => ⟨_, rfl, Nm, _, rfl, .inl ⟨.inl (.inl (r.keep _ _ NmB hN18)), fun l nl => q _ _ _ (.inr ⟨fs.map nmS, rfl, by omega, anm⟩) (Rel.of_same r.bag (same_upd nl)) (dt_tupS (.of upd_same) (dtA_strs _))⟩⟩) gnA_nil))) (by decide) (by decide) H23 (R1820.trans R22) M22 _ fun v H24 d hd R24 hv => ?_
        rcases hd with rfl | ⟨c, rfl, hcl, hca⟩
        · cases hv
          refine ⟨false, rfl, iteF ⟨sz8 (by simp), fun t' nt' => ?_⟩⟩
          have st := same_upd (o := .tup [V.str "a", V.str "b"]) nt'
          exact fin _ _ (.tuple ((["a", "b"] : List Str).map PyData.str)) _ (.inl ⟨rfl, _, rfl, by decide, hab⟩) (dt_tupS (.of upd_same) (dtA_strs (["a", "b"] : List Str))) (R24.same st) fun u H'' d' ho R' hd' => fin2 H'' u d' ho ((R24.same st).trans R') hd'
        · obtain ⟨p, ys, rfl, hSp, hAp⟩ := hv.tupAt
          have ey := dtA_only hAp
          subst ey
          refine ⟨!(c.map V.str).isEmpty, .inr (.inl ⟨_, hSp, rfl⟩), ?_⟩
          cases he : (c.map V.str).isEmpty with
          | true =>
            refine iteF ⟨sz8 (by simp), fun t' nt' => ?_⟩
            have st := same_upd (o := .tup [V.str "a", V.str "b"]) nt'
            exact fin _ _ (.tuple ((["a", "b"] : List Str).map PyData.str)) _ (.inl ⟨rfl, _, rfl, by decide, hab⟩) (dt_tupS (.of upd_same) (dtA_strs (["a", "b"] : List Str))) (R24.same st) fun u H'' d' ho R' hd' => fin2 H'' u d' ho ((R24.same st).trans R') hd'
          | false =>
            refine iteT ?_
            exact fin _ _ (.tuple (c.map PyData.str)) _ (.inl ⟨rfl, _, rfl, hcl, hca⟩) (dt_tupS hSp (dtA_strs _)) R24 fun u H'' d' ho R' hd' => fin2 H'' u d' ho (R24.trans R') hd'
      · obtain ⟨o13', vs, ds, rfl, R22, hTx22, eT, tT, lT⟩ := h
        have R1822 : Rel b H18 H22 := (R19.trans R20).trans R22
        have R122 := R18.trans R1822
        have lv := eT.length
        have muT : (fun a => a = b ∨ a = Tx) b := .inl rfl
        refine ⟨_, rfl, .inl ⟨rfl, _, .inl (.inl hTx22)⟩, _, rfl, b, (fun a => a = b ∨ a = Tx), rfl, muT, R22.bag, fun a z => ?_, fun u H24 d' ho R24 hd' => ?_⟩
        · rcases z with rfl | rfl
          · obtain ⟨x0, y0, z0, l0, cs0, h0, _⟩ := R22.bag
            exact .inl (by rw [h0]; exact fun z => nomatch z)
          · exact .inl (by rw [hTx22]; exact fun z => nomatch z)
        have hT' := R24.keep _ _ TxB hTx22
        refine ⟨Tx, vs, u, rfl, rfl, hT', small1000 (by omega), ?_⟩
        have fD := (fut_at (o' := .lst (vs ++ [u])) hT').mono (mv := fun a => a = b ∨ a = Tx) fun a e => .inr e
        have eN := ((eT.fut (R24.fut muT R22.bag)).append (.cons hd' .nil)).fut fD
        have tN : ∀ d ∈ ds ++ [d'], TdP d := fun d hd => by
          rcases List.mem_append.mp hd with q | q
          · exact tT d q
          · rw [List.mem_singleton.mp q]
            exact ho.ob.td
        have R25 : Rel b H20 _ := (R22.trans R24).at (o := .lst (vs ++ [u])) R20.bag TxN
        have hT25 : upd H24 Tx (.lst (vs ++ [u])) Tx = some (.lst (vs ++ [u])) := upd_same
        generalize upd H24 Tx (.lst (vs ++ [u])) = H25 at eN R25 hT25
        have R1825 : Rel b H18 H25 := (R19.trans R20).trans R25
        have hS25 := sq_fut hS18 (R1825.fut (mu := mF b) hmu b18)
        have hA25 := hA18.fut (R1825.fut (mu := mT) trivial b18)
        refine ⟨_, rfl, Tx, rfl, ⟨_, .inl (.inl hT25)⟩, ?_⟩
        refine for_it (walk_list (K := K) (a := Tx) (xs := vs ++ [u])) (fun i' σ H' => ∃ o14 o15, σ = [some (.ref a), some (.ref b), some x, some (.ref W), some (.str (PyData.tuple fs).shown), some (.ref Nm), none, some (optV (unfF fs)), some (.bl hc), some (.ref Td), some vc, some vo, some (.ref Tx), o13', o14, o15] ∧ Same H25 H') ⟨_, _, rfl, .refl H25⟩ (fun i' σ H' _ h => ?_) (fun i' xt σ Hp Hq hi' h y => ?_) fun σ Hp h => ?_
        · obtain ⟨_, _, _, sP⟩ := h
          exact .inl (.inl (sP _ _ hT25))
        · obtain ⟨p14, p15, rfl, sP⟩ := h
          obtain ⟨rfl, hxt⟩ := y
          obtain ⟨dt, hdt, hvt⟩ := eN.get hxt
          have tt := tN dt (List.mem_of_getElem? hdt)
          have l4 : ∀ ts, dt = .tuple ts → ts.length ≤ 4000 := fun ts e => by
            have := tt.2
            rw [e] at this
            exact this
          have hSP := sP.seqT hS25
          have hAP := hA25.fut (.of_same sP)
          have hvP := hvt.fut (.of_same sP)
          refine ⟨_, rfl, _, rfl, W, xs, fs, xt, _, dt, rfl, hSP, hAP, wg, hvP, tt.1, l4, fun Hx b1 sx hb1 => ⟨_, rfl, _, rfl, W, xs, fs, xt, _, dt, rfl, sx.seqT hSP, hAP.fut (.of_same sx), wg, hvP.fut (.of_same sx), tt.1, l4, fun Hy b2 sy hb2 => ⟨sz8 (by simp), fun p1 n1 => ?_⟩⟩⟩
          have e1 := (sx.trans sy).trans (same_upd (o := .lst [.bl b1, .bl b2]) n1)
          refine ⟨_, rfl, _, rfl, W, xs, fs, xt, _, dt, rfl, e1.seqT hSP, hAP.fut (.of_same e1), wg, hvP.fut (.of_same e1), tt.1, l4, fun Hz b3 sz' hb3 => ?_⟩
          have e2 := e1.trans sz'
          refine ⟨_, rfl, _, rfl, W, xs, fs, xt, _, dt, rfl, e2.seqT hSP, hAP.fut (.of_same e2), wg, hvP.fut (.of_same e2), tt.1, l4, fun Hu b4 su hb4 => ⟨sz8 (by simp), fun p2 n2 => ?_⟩⟩
          have q31 : b3 = b1 := Bool.eq_iff_iff.mpr (hb3.trans hb1.symm)
          have q42 : b4 = b2 := Bool.eq_iff_iff.mpr (hb4.trans hb2.symm)
          subst q31 q42
          have t2 := same_upd (o := .lst [.bl b3, .bl b4]) n2
          have eA := e2.trans (su.trans t2)
          have hW := hAP.fut (.of_same eA)
          refine ⟨_, rfl, .ref p2, .ref p1, (fun _ => False), .list [.bool b3, .bool b4], rfl, .lst id (.inl upd_same) (.cons (.bl _) (.cons (.bl _) .nil)), .lst id (.inl (t2 _ _ (su _ _ (sz' _ _ upd_same)))) (.cons (.bl _) (.cons (.bl _) .nil)), ⟨rfl, by simp [PyData.depth, PyData.depthAll], by simp [PyData.weight, PyData.weightAll]⟩, .inl rfl, ⟨true, rfl, iteF ?_⟩⟩
          refine ⟨_, rfl, .ref W, mT, .tuple fs, rfl, dt_tupS (eA.seqT hSP) hW, wg.ok.show, .inl hnd, by have := wg.ok.dp; omega, wg.ok.fits, _, rfl, rfl, _, rfl, ?_⟩
          rw [show (!decide (V.str (PyData.tuple fs).shown = V.str (PyData.tuple fs).shown)) = false by rw [decide_eq_true rfl]; rfl]
          exact iteF ⟨_, _, rfl, sP.trans eA⟩
        · obtain ⟨_, _, rfl, sP⟩ := h
          exact ⟨_, _, _, _, _, _, _, _, _, _, _, _, _, rfl, R18.trans (R1825.same sP)⟩
  · obtain ⟨o2, o3, o4, o5, o7, o8, o9, o10, o11, o12, o13, o14, o15, rfl, R3⟩ := h
    exact k _
end
end K34
namespace K34
open PySem PySem.Spec PyProof.Rows L2 Sw StX RZ
section
variable {P : Program} {w : World} {K : PySem.W.Frag} {mg : Str → Option Value} {base : Heap}
theorem due_chain {f : Addr} {fd : FuncData} (F : Fun K "_law_has_due" "_law_has_due" s_law_has_due f fd) (B : Bt mg)
    (mk : ∀ j sp, FnG P w K mg base j f fd ["claim"] sp → CalG P w K mg base j "_law_has_due" sp) : ∀ n, FnG P w K mg base (1 + n) f fd ["claim"] (spDueL K n)
  | 0 => ok__law_has_due (j := 0) (sp := fun _ _ _ _ => False) (.inl rfl) F B (mk 0 _ ⟨fun _ _ _ _ h => h.elim, fun _ _ _ _ _ h => h.elim⟩)
  | n + 1 => ok__law_has_due (.inr ⟨n, rfl, rfl⟩) F B (mk _ _ (due_chain F B mk n))
theorem leaves_chain {f : Addr} {fd : FuncData} (F : Fun K "_law_leaves" "_law_leaves" s_law_leaves f fd) (B : Bt mg) (TS : mg "sum" = none)
    (mk : ∀ j sp, FnG P w K mg base j f fd ["claim"] sp → CalG P w K mg base j "_law_leaves" sp) : ∀ n, FnG P w K mg base (1 + n) f fd ["claim"] (spLeaves K n)
  | 0 => ok__law_leaves (j := 0) (sp := fun _ _ _ _ => False) (.inl rfl) F B TS (mk 0 _ ⟨fun _ _ _ _ h => h.elim, fun _ _ _ _ _ h => h.elim⟩)
  | n + 1 => ok__law_leaves (.inr ⟨n, rfl, rfl⟩) F B TS (mk _ _ (leaves_chain F B TS mk n))
theorem claim_chain {f : Addr} {fd : FuncData} (F : Fun K "_law_claim" "_law_claim" s_law_claim f fd) (B : Bt mg) (c1 : CalG P w K mg base 1 "_law_take" spTake) (c2 : CalG P w K mg base 3 "_law_number" (spNumE K))
    (mk : ∀ j sp, FnG P w K mg base j f fd ["bag", "ranks", "deep", "may_due"] sp → CalG P w K mg base j "_law_claim" sp) : ∀ n, FnG P w K mg base (4 + n) f fd ["bag", "ranks", "deep", "may_due"] (spClaim K n)
  | 0 => ok__law_claim (sp := fun _ _ _ _ => False) (by decide) (.inl rfl) F B c1 c2 (mk 3 _ ⟨fun _ _ _ _ h => h.elim, fun _ _ _ _ _ h => h.elim⟩)
  | n + 1 => ok__law_claim (show 3 ≤ 4 + n by omega) (.inr ⟨n, rfl, rfl⟩) F B c1 c2 (mk _ _ (claim_chain F B c1 c2 mk n))
theorem bent_two {f : Addr} {fd : FuncData} (F : Fun K "_law_bent" "_law_bent" s_law_bent f fd) (B : Bt mg) (c1 : CalG P w K mg base 1 "_law_take" spTake) (c2 : CalG P w K mg base 2 "_law_some" spSome) (c3 : CalG P w K mg base 1 "_law_is_int" (spP K isInt)) (c4 : CalG P w K mg base 3 "_law_odd" (spOdd K))
    (mk : ∀ j sp, FnG P w K mg base j f fd ["bag", "thing"] sp → CalG P w K mg base j "_law_bent" sp) : FnG P w K mg base 5 f fd ["bag", "thing"] (spBent K 1 Ob) :=
  ok__law_bent (j := 1) (n := 1) (.inr ⟨rfl, rfl⟩) F B c1 c2 c3 c4 (mk _ _ (ok__law_bent (j := 0) (n := 0) (sp := fun _ _ _ _ => False) (.inl rfl) F B c1 c2 c3 c4 (mk 3 _ ⟨fun _ _ _ _ h => h.elim, fun _ _ _ _ _ h => h.elim⟩)))
end
end K34
namespace K34
open PySem PySem.Spec PyProof.Rows L2 Sw
section
variable {K : PySem.W.Frag} {h : Heap} {mg : Str → Option Value}
/-- the top has written the def x -/
def DefE (K : PySem.W.Frag) (mg : Str → Option Value) (x : Str) (st : Stmt) : Prop := ∃ (f : Addr) (fd : FuncData), Fun K x x st f fd ∧ mg x = some (.ref f) ∧ PySem.W.keepIn K (.ref f) = true
theorem def_mk {x : Str} {st : Stmt} {f : Addr} {oc : Value} {od an : Option Addr} {osl : Array (Option Value)} {kV doc pm cdv ct : Value} (X : K.In h) (G : h.Ns mainGlobals mg) (a : PySem.W.nsIn K mainGlobals x = some (some (.ref f)))
    (l : K.lookup f = some ⟨oc, od, .func (PySem.W.fnOf x x (defArgs st) (defBody st) (defScope st) .none kV doc pm an cdv ct), osl⟩) (c : PySem.W.codeIn K cdv x = true) (k : PySem.W.keepIn K (.ref f) = true) : DefE K mg x st :=
  ⟨f, _, fun_mk l c k, PySem.W.mg_of X G a, k⟩
def DefL (K : PySem.W.Frag) (mg : Str → Option Value) : Prop := ∃ (f : Addr) (fd : FuncData), Fun K "law" "law" slaw f fd ∧ mg "law" = some (.ref f) ∧ ∀ (s : Shared) (v : Value), BindsTo s fd ⟨[v], []⟩ [("script", v)]
theorem law_mk {f : Addr} {oc : Value} {od an : Option Addr} {osl : Array (Option Value)} {kV doc pm cdv ct : Value} (X : K.In h) (G : h.Ns mainGlobals mg) (a : PySem.W.nsIn K mainGlobals "law" = some (some (.ref f)))
    (l : K.lookup f = some ⟨oc, od, .func (PySem.W.fnOf "law" "law" (defArgs slaw) (defBody slaw) (defScope slaw) .none kV doc pm an cdv ct), osl⟩) (c : PySem.W.codeIn K cdv "law" = true) (k : PySem.W.keepIn K (.ref f) = true) : DefL K mg :=
  ⟨f, _, fun_mk l c k, PySem.W.mg_of X G a, fun s v => .of_eq rfl⟩
def BtE (K : PySem.W.Frag) : Prop := ∀ x ∈ (["len", "int", "bool", "str", "tuple", "list", "dict", "isinstance", "repr", "abs", "max", "min", "range", "enumerate", "zip", "all", "any", "sum", "sorted", "set", "reversed"] : List Str), PySem.W.nsIn K mainGlobals x = some none
theorem BtE.get (b : BtE K) (X : K.In h) (G : h.Ns mainGlobals mg) {x : Str} (hx : x ∈ (["len", "int", "bool", "str", "tuple", "list", "dict", "isinstance", "repr", "abs", "max", "min", "range", "enumerate", "zip", "all", "any", "sum", "sorted", "set", "reversed"] : List Str)) : mg x = none := PySem.W.mg_none_of X G (b x hx)
theorem bte_mk (z0 : PySem.W.nsIn K mainGlobals "len" = some none) (z1 : PySem.W.nsIn K mainGlobals "int" = some none) (z2 : PySem.W.nsIn K mainGlobals "bool" = some none) (z3 : PySem.W.nsIn K mainGlobals "str" = some none) (z4 : PySem.W.nsIn K mainGlobals "tuple" = some none) (z5 : PySem.W.nsIn K mainGlobals "list" = some none) (z6 : PySem.W.nsIn K mainGlobals "dict" = some none) (z7 : PySem.W.nsIn K mainGlobals "isinstance" = some none) (z8 : PySem.W.nsIn K mainGlobals "repr" = some none) (z9 : PySem.W.nsIn K mainGlobals "abs" = some none) (z10 : PySem.W.nsIn K mainGlobals "max" = some none) (z11 : PySem.W.nsIn K mainGlobals "min" = some none) (z12 : PySem.W.nsIn K mainGlobals "range" = some none) (z13 : PySem.W.nsIn K mainGlobals "enumerate" = some none) (z14 : PySem.W.nsIn K mainGlobals "zip" = some none) (z15 : PySem.W.nsIn K mainGlobals "all" = some none) (z16 : PySem.W.nsIn K mainGlobals "any" = some none) (z17 : PySem.W.nsIn K mainGlobals "sum" = some none) (z18 : PySem.W.nsIn K mainGlobals "sorted" = some none) (z19 : PySem.W.nsIn K mainGlobals "set" = some none) (z20 : PySem.W.nsIn K mainGlobals "reversed" = some none) : BtE K := by
  intro x hx
  simp only [List.mem_cons, List.not_mem_nil, or_false] at hx
  rcases hx with rfl | rfl | rfl | rfl | rfl | rfl | rfl | rfl | rfl | rfl | rfl | rfl | rfl | rfl | rfl | rfl | rfl | rfl | rfl | rfl | rfl <;> assumption
/-- .. a tuple of two integers -/
def TupE (K : PySem.W.Frag) (mg : Str → Option Value) (x : Str) (n d : Int) : Prop := ∃ z, mg x = some (.ref z) ∧ KTup K z [.int n, .int d]
theorem tup_mk {x : Str} {n d : Int} {z : Addr} {od : Option Addr} {t t' : Tok} {k : Nat} {osl : Array (Option Value)} (X : K.In h) (G : h.Ns mainGlobals mg) (a : PySem.W.nsIn K mainGlobals x = some (some (.ref z)))
    (l : K.lookup z = some ⟨.type "tuple", od, .seq #[.int n t, .int d t'] k, osl⟩) : TupE K mg x n d :=
  ⟨z, PySem.W.mg_of X G a, _, _, _, l, rfl, rfl, (show 2 ≤ sizeLine by decide), .cons ⟨_, rfl⟩ (.cons ⟨_, rfl⟩ .nil)⟩
def GcE (K : PySem.W.Frag) (x : Str) (b : String) : Prop := PySem.W.nsIn K mainGlobals x = some (some (.builtin b))
theorem gc_mk {x : Str} {b : String} (a : PySem.W.nsIn K mainGlobals x = some (some (.builtin b))) : GcE K x b := a
def IntE (K : PySem.W.Frag) (x : Str) (n : Int) : Prop := ∃ t : Tok, PySem.W.nsIn K mainGlobals x = some (some (.int n t))
theorem int_mk {x : Str} {n : Int} {t : Tok} (a : PySem.W.nsIn K mainGlobals x = some (some (.int n t))) : IntE K x n := ⟨t, a⟩
/-- all that the top has written, put together -/
theorem all_mk {P : Program} {w : World} {fa : Addr} (X : K.In h) (G : h.Ns mainGlobals mg) (hfa : mg "law" = some (.ref fa))
    (D0 : DefE K mg "claims_below" sclaims_below)
    (D1 : DefE K mg "claims_inside" sclaims_inside)
    (D2 : DefE K mg "has_due" shas_due)
    (D3 : DefE K mg "firm_names" sfirm_names)
    (D4 : DefE K mg "persons_of" spersons_of)
    (D5 : DefE K mg "first_unfounded" sfirst_unfounded)
    (D6 : DefE K mg "is_founding" sis_founding)
    (D7 : DefE K mg "is_founded" sis_founded)
    (D8 : DefE K mg "dues_ahead" sdues_ahead)
    (D9 : DefE K mg "placed_firms" splaced_firms)
    (D10 : DefE K mg "circle_of" scircle_of)
    (D11 : DefE K mg "is_circle" sis_circle)
    (D12 : DefE K mg "dues_order" sdues_order)
    (D13 : DefE K mg "is_dues_order" sis_dues_order)
    (D14 : DefE K mg "is_clear" sis_clear)
    (D15 : DefE K mg "_law_bag" s_law_bag)
    (D16 : DefE K mg "_law_take" s_law_take)
    (D17 : DefE K mg "_law_some" s_law_some)
    (D18 : DefE K mg "_law_mixed" s_law_mixed)
    (D19 : DefE K mg "_law_alike" s_law_alike)
    (D20 : DefE K mg "_law_is_int" s_law_is_int)
    (D21 : DefE K mg "_law_common" s_law_common)
    (D22 : DefE K mg "_law_reduced" s_law_reduced)
    (D23 : DefE K mg "_law_number" s_law_number)
    (D24 : DefE K mg "_law_claim" s_law_claim)
    (D25 : DefE K mg "_law_has_due" s_law_has_due)
    (D26 : DefE K mg "_law_options" s_law_options)
    (D27 : DefE K mg "_law_leaves" s_law_leaves)
    (D28 : DefE K mg "_law_within" s_law_within)
    (D29 : DefE K mg "_law_firm_options" s_law_firm_options)
    (D30 : DefE K mg "_law_web" s_law_web)
    (D31 : DefE K mg "_law_persons" s_law_persons)
    (D32 : DefE K mg "_law_circled" s_law_circled)
    (D33 : DefE K mg "_law_unfounded" s_law_unfounded)
    (D34 : DefE K mg "_law_bent" s_law_bent)
    (D35 : DefE K mg "_law_odd" s_law_odd)
    (D36 : DefE K mg "_law_owes" s_law_owes)
    (D37 : DefE K mg "_law_has_circle" s_law_has_circle)
    (D38 : DefE K mg "_law_no_founder" s_law_no_founder)
    (D39 : DefE K mg "_law_any_web" s_law_any_web)
    (D40 : DefE K mg "_law_ring_web" s_law_ring_web)
    (D41 : DefE K mg "_law_is_circle" s_law_is_circle)
    (D42 : DefE K mg "_law_is_order" s_law_is_order)
    (DL : DefL K mg)
    (Z : BtE K) :
    ∃ fd : FuncData, (∀ (s : Shared) (v : Value), BindsTo s fd ⟨[v], []⟩ [("script", v)]) ∧ ∀ base : Heap, K.In base → base.Ns mainGlobals mg → FnG P w K mg base 60 fa fd ["script"] (spLaw K) := by
  obtain ⟨fL, fdL, FL, mL, bL⟩ := DL
  have e := hfa.symm.trans mL
  cases e
  obtain ⟨f0, fd0, F0, m0, k0⟩ := D0
  have b0 := F0.binds (ps := ["claim"]) fun _ _ _ _ _ _ us hl => match us, hl with | [_], _ => rfl
  obtain ⟨f1, fd1, F1, m1, k1⟩ := D1
  have b1 := F1.binds (ps := ["claim"]) fun _ _ _ _ _ _ us hl => match us, hl with | [_], _ => rfl
  obtain ⟨f2, fd2, F2, m2, k2⟩ := D2
  have b2 := F2.binds (ps := ["claim"]) fun _ _ _ _ _ _ us hl => match us, hl with | [_], _ => rfl
  obtain ⟨f3, fd3, F3, m3, k3⟩ := D3
  have b3 := F3.binds (ps := ["web"]) fun _ _ _ _ _ _ us hl => match us, hl with | [_], _ => rfl
  obtain ⟨f4, fd4, F4, m4, k4⟩ := D4
  have b4 := F4.binds (ps := ["web"]) fun _ _ _ _ _ _ us hl => match us, hl with | [_], _ => rfl
  obtain ⟨f5, fd5, F5, m5, k5⟩ := D5
  have b5 := F5.binds (ps := ["web"]) fun _ _ _ _ _ _ us hl => match us, hl with | [_], _ => rfl
  obtain ⟨f6, fd6, F6, m6, k6⟩ := D6
  have b6 := F6.binds (ps := ["options"]) fun _ _ _ _ _ _ us hl => match us, hl with | [_], _ => rfl
  obtain ⟨f7, fd7, F7, m7, k7⟩ := D7
  have b7 := F7.binds (ps := ["web"]) fun _ _ _ _ _ _ us hl => match us, hl with | [_], _ => rfl
  obtain ⟨f8, fd8, F8, m8, k8⟩ := D8
  have b8 := F8.binds (ps := ["web"]) fun _ _ _ _ _ _ us hl => match us, hl with | [_], _ => rfl
  obtain ⟨f9, fd9, F9, m9, k9⟩ := D9
  have b9 := F9.binds (ps := ["ahead"]) fun _ _ _ _ _ _ us hl => match us, hl with | [_], _ => rfl
  obtain ⟨f10, fd10, F10, m10, k10⟩ := D10
  have b10 := F10.binds (ps := ["web"]) fun _ _ _ _ _ _ us hl => match us, hl with | [_], _ => rfl
  obtain ⟨f11, fd11, F11, m11, k11⟩ := D11
  have b11 := F11.binds (ps := ["web", "thing"]) fun _ _ _ _ _ _ us hl => match us, hl with | [_, _], _ => rfl
  obtain ⟨f12, fd12, F12, m12, k12⟩ := D12
  have b12 := F12.binds (ps := ["web"]) fun _ _ _ _ _ _ us hl => match us, hl with | [_], _ => rfl
  obtain ⟨f13, fd13, F13, m13, k13⟩ := D13
  have b13 := F13.binds (ps := ["web", "thing"]) fun _ _ _ _ _ _ us hl => match us, hl with | [_, _], _ => rfl
  obtain ⟨f14, fd14, F14, m14, k14⟩ := D14
  have b14 := F14.binds (ps := ["web"]) fun _ _ _ _ _ _ us hl => match us, hl with | [_], _ => rfl
  obtain ⟨f15, fd15, F15, m15, k15⟩ := D15
  have b15 := F15.binds (ps := ["script"]) fun _ _ _ _ _ _ us hl => match us, hl with | [_], _ => rfl
  obtain ⟨f16, fd16, F16, m16, k16⟩ := D16
  have b16 := F16.binds (ps := ["bag", "many"]) fun _ _ _ _ _ _ us hl => match us, hl with | [_, _], _ => rfl
  obtain ⟨f17, fd17, F17, m17, k17⟩ := D17
  have b17 := F17.binds (ps := ["bag", "things"]) fun _ _ _ _ _ _ us hl => match us, hl with | [_, _], _ => rfl
  obtain ⟨f18, fd18, F18, m18, k18⟩ := D18
  have b18 := F18.binds (ps := ["bag", "things"]) fun _ _ _ _ _ _ us hl => match us, hl with | [_, _], _ => rfl
  obtain ⟨f19, fd19, F19, m19, k19⟩ := D19
  have b19 := F19.binds (ps := ["found", "due"]) fun _ _ _ _ _ _ us hl => match us, hl with | [_, _], _ => rfl
  obtain ⟨f20, fd20, F20, m20, k20⟩ := D20
  have b20 := F20.binds (ps := ["thing"]) fun _ _ _ _ _ _ us hl => match us, hl with | [_], _ => rfl
  obtain ⟨f21, fd21, F21, m21, k21⟩ := D21
  have b21 := F21.binds (ps := ["one", "other"]) fun _ _ _ _ _ _ us hl => match us, hl with | [_, _], _ => rfl
  obtain ⟨f22, fd22, F22, m22, k22⟩ := D22
  have b22 := F22.binds (ps := ["n", "d"]) fun _ _ _ _ _ _ us hl => match us, hl with | [_, _], _ => rfl
  obtain ⟨f23, fd23, F23, m23, k23⟩ := D23
  have b23 := F23.binds (ps := ["bag", "most"]) fun _ _ _ _ _ _ us hl => match us, hl with | [_, _], _ => rfl
  obtain ⟨f24, fd24, F24, m24, k24⟩ := D24
  have b24 := F24.binds (ps := ["bag", "ranks", "deep", "may_due"]) fun _ _ _ _ _ _ us hl => match us, hl with | [_, _, _, _], _ => rfl
  obtain ⟨f25, fd25, F25, m25, k25⟩ := D25
  have b25 := F25.binds (ps := ["claim"]) fun _ _ _ _ _ _ us hl => match us, hl with | [_], _ => rfl
  obtain ⟨f26, fd26, F26, m26, k26⟩ := D26
  have b26 := F26.binds (ps := ["bag", "ranks", "may_due"]) fun _ _ _ _ _ _ us hl => match us, hl with | [_, _, _], _ => rfl
  obtain ⟨f27, fd27, F27, m27, k27⟩ := D27
  have b27 := F27.binds (ps := ["claim"]) fun _ _ _ _ _ _ us hl => match us, hl with | [_], _ => rfl
  obtain ⟨f28, fd28, F28, m28, k28⟩ := D28
  have b28 := F28.binds (ps := ["options", "left"]) fun _ _ _ _ _ _ us hl => match us, hl with | [_, _], _ => rfl
  obtain ⟨f29, fd29, F29, m29, k29⟩ := D29
  have b29 := F29.binds (ps := ["bag", "ranks", "may_due"]) fun _ _ _ _ _ _ us hl => match us, hl with | [_, _, _], _ => rfl
  obtain ⟨f30, fd30, F30, m30, k30⟩ := D30
  have b30 := F30.binds (ps := ["bag", "firms", "more"]) fun _ _ _ _ _ _ us hl => match us, hl with | [_, _, _], _ => rfl
  obtain ⟨f31, fd31, F31, m31, k31⟩ := D31
  have b31 := F31.binds (ps := ["web"]) fun _ _ _ _ _ _ us hl => match us, hl with | [_], _ => rfl
  obtain ⟨f32, fd32, F32, m32, k32⟩ := D32
  have b32 := F32.binds (ps := ["bag", "web"]) fun _ _ _ _ _ _ us hl => match us, hl with | [_, _], _ => rfl
  obtain ⟨f33, fd33, F33, m33, k33⟩ := D33
  have b33 := F33.binds (ps := ["bag", "web"]) fun _ _ _ _ _ _ us hl => match us, hl with | [_, _], _ => rfl
  obtain ⟨f34, fd34, F34, m34, k34⟩ := D34
  have b34 := F34.binds (ps := ["bag", "thing"]) fun _ _ _ _ _ _ us hl => match us, hl with | [_, _], _ => rfl
  obtain ⟨f35, fd35, F35, m35, k35⟩ := D35
  have b35 := F35.binds (ps := ["bag"]) fun _ _ _ _ _ _ us hl => match us, hl with | [_], _ => rfl
  obtain ⟨f36, fd36, F36, m36, k36⟩ := D36
  have b36 := F36.binds (ps := ["web", "payer", "holder"]) fun _ _ _ _ _ _ us hl => match us, hl with | [_, _, _], _ => rfl
  obtain ⟨f37, fd37, F37, m37, k37⟩ := D37
  have b37 := F37.binds (ps := ["web"]) fun _ _ _ _ _ _ us hl => match us, hl with | [_], _ => rfl
  obtain ⟨f38, fd38, F38, m38, k38⟩ := D38
  have b38 := F38.binds (ps := ["web"]) fun _ _ _ _ _ _ us hl => match us, hl with | [_], _ => rfl
  obtain ⟨f39, fd39, F39, m39, k39⟩ := D39
  have b39 := F39.binds (ps := ["bag"]) fun _ _ _ _ _ _ us hl => match us, hl with | [_], _ => rfl
  obtain ⟨f40, fd40, F40, m40, k40⟩ := D40
  have b40 := F40.binds (ps := ["bag"]) fun _ _ _ _ _ _ us hl => match us, hl with | [_], _ => rfl
  obtain ⟨f41, fd41, F41, m41, k41⟩ := D41
  have b41 := F41.binds (ps := ["web", "thing"]) fun _ _ _ _ _ _ us hl => match us, hl with | [_, _], _ => rfl
  obtain ⟨f42, fd42, F42, m42, k42⟩ := D42
  have b42 := F42.binds (ps := ["web", "thing"]) fun _ _ _ _ _ _ us hl => match us, hl with | [_, _], _ => rfl
  have B : Bt mg := ⟨Z.get X G (by decide +kernel), Z.get X G (by decide +kernel), Z.get X G (by decide +kernel), Z.get X G (by decide +kernel), Z.get X G (by decide +kernel), Z.get X G (by decide +kernel), Z.get X G (by decide +kernel), Z.get X G (by decide +kernel), Z.get X G (by decide +kernel), Z.get X G (by decide +kernel), Z.get X G (by decide +kernel), Z.get X G (by decide +kernel), Z.get X G (by decide +kernel), Z.get X G (by decide +kernel), Z.get X G (by decide +kernel)⟩
  have T_all : mg "all" = none := Z.get X G (by decide +kernel)
  have T_any : mg "any" = none := Z.get X G (by decide +kernel)
  have T_sum : mg "sum" = none := Z.get X G (by decide +kernel)
  have T_sorted : mg "sorted" = none := Z.get X G (by decide +kernel)
  have T_set : mg "set" = none := Z.get X G (by decide +kernel)
  have T_reversed : mg "reversed" = none := Z.get X G (by decide +kernel)
  refine ⟨fdL, bL, fun base hKb _ => ?_⟩
  have C_claims_below : CalG P w K mg base 1 "claims_below" (spBelow K) := ⟨f0, fd0, _, ok_claims_below F0 B, m0, k0, b0⟩
  have C_claims_inside : CalG P w K mg base 2 "claims_inside" (spInside K) := ⟨f1, fd1, _, ok_claims_inside F1 B C_claims_below, m1, k1, b1⟩
  have C_has_due : CalG P w K mg base 3 "has_due" (spCm K dueD) := ⟨f2, fd2, _, ok_has_due F2 B T_any C_claims_inside, m2, k2, b2⟩
  have C_firm_names : CalG P w K mg base 1 "firm_names" (spNames K) := ⟨f3, fd3, _, ok_firm_names F3 B, m3, k3, b3⟩
  have C_persons_of : CalG P w K mg base 2 "persons_of" (spPers K) := ⟨f4, fd4, _, ok_persons_of F4 B T_sorted T_set C_firm_names, m4, k4, b4⟩
  have C_is_founding : CalG P w K mg base 1 "is_founding" (spFounding K) := ⟨f6, fd6, _, ok_is_founding F6 B, m6, k6, b6⟩
  have C_dues_ahead : CalG P w K mg base 4 "dues_ahead" (spAhead K) := ⟨f8, fd8, _, ok_dues_ahead F8 B T_any C_firm_names C_has_due, m8, k8, b8⟩
  have C_placed_firms : CalG P w K mg base 1 "placed_firms" (spPlaced) := ⟨f9, fd9, _, ok_placed_firms F9 B T_all, m9, k9, b9⟩
  have C_circle_of : CalG P w K mg base 5 "circle_of" (spMay K CircR) := ⟨f10, fd10, _, ok_circle_of F10 B T_reversed C_dues_ahead C_placed_firms, m10, k10, b10⟩
  have C_is_circle : CalG P w K mg base 5 "is_circle" (spJudge K IsCirc) := ⟨f11, fd11, _, ok_is_circle F11 B T_all T_set C_dues_ahead, m11, k11, b11⟩
  have C_dues_order : CalG P w K mg base 5 "dues_order" (spMay K OrdR) := ⟨f12, fd12, _, ok_dues_order F12 B C_dues_ahead C_placed_firms, m12, k12, b12⟩
  have C_is_dues_order : CalG P w K mg base 5 "is_dues_order" (spJudge K IsOrd) := ⟨f13, fd13, _, ok_is_dues_order F13 B T_all T_sorted C_dues_ahead C_firm_names, m13, k13, b13⟩
  have C__law_bag : CalG P w K mg base 1 "_law_bag" (spBag K) := ⟨f15, fd15, _, ok__law_bag F15 B, m15, k15, b15⟩
  have C__law_take : CalG P w K mg base 1 "_law_take" (spTake) := ⟨f16, fd16, _, ok__law_take F16 B, m16, k16, b16⟩
  have C__law_some : CalG P w K mg base 2 "_law_some" (spSome) := ⟨f17, fd17, _, ok__law_some F17 B C__law_take, m17, k17, b17⟩
  have C__law_mixed : CalG P w K mg base 2 "_law_mixed" (spMixed) := ⟨f18, fd18, _, ok__law_mixed F18 B C__law_take, m18, k18, b18⟩
  have C__law_alike : CalG P w K mg base 1 "_law_alike" (spAlike K) := ⟨f19, fd19, _, ok__law_alike F19 B, m19, k19, b19⟩
  have C__law_is_int : CalG P w K mg base 1 "_law_is_int" (spP K isInt) := ⟨f20, fd20, _, ok__law_is_int F20 B, m20, k20, b20⟩
  have C__law_common : CalG P w K mg base 1 "_law_common" (spCommon) := ⟨f21, fd21, _, ok__law_common F21 B, m21, k21, b21⟩
  have C__law_reduced : CalG P w K mg base 2 "_law_reduced" (spRed) := ⟨f22, fd22, _, ok__law_reduced F22 B C__law_common, m22, k22, b22⟩
  have C__law_number : CalG P w K mg base 3 "_law_number" (spNumE K) := ⟨f23, fd23, _, ok__law_number F23 B C__law_take C__law_some C__law_reduced, m23, k23, b23⟩
  have C__law_claim : CalG P w K mg base 7 "_law_claim" (spClaimA K) := ⟨f24, fd24, _, claim_any (fun n hn => (claim_chain F24 B C__law_take C__law_number (fun j sp h => ⟨f24, fd24, _, h, m24, k24, b24⟩) n).mono (by omega)), m24, k24, b24⟩
  have C__law_has_due : CalG P w K mg base 51 "_law_has_due" (spDueL K 50) := ⟨f25, fd25, _, (due_chain F25 B (fun j sp h => ⟨f25, fd25, _, h, m25, k25, b25⟩) 50).mono (by decide), m25, k25, b25⟩
  have C__law_options : CalG P w K mg base 8 "_law_options" (spOptions K) := ⟨f26, fd26, _, ok__law_options F26 B C__law_take C__law_some C__law_claim, m26, k26, b26⟩
  have C__law_leaves : CalG P w K mg base 20 "_law_leaves" (spLeaves K 10) := ⟨f27, fd27, _, (leaves_chain F27 B T_sum (fun j sp h => ⟨f27, fd27, _, h, m27, k27, b27⟩) 10).mono (by decide), m27, k27, b27⟩
  have C__law_within : CalG P w K mg base 21 "_law_within" (spWithin K) := ⟨f28, fd28, _, ok__law_within F28 B C__law_leaves, m28, k28, b28⟩
  have C__law_firm_options : CalG P w K mg base 8 "_law_firm_options" (spOptions K) := ⟨f29, fd29, _, ok__law_firm_options F29 B C__law_take C__law_claim, m29, k29, b29⟩
  have C__law_web : CalG P w K mg base 22 "_law_web" (spWeb K) := ⟨f30, fd30, _, ok__law_web F30 B T_sum T_sorted C__law_take C__law_some C__law_mixed C__law_number C__law_options C__law_firm_options C__law_leaves C__law_within, m30, k30, b30⟩
  have C__law_persons : CalG P w K mg base 1 "_law_persons" (spPersL K) := ⟨f31, fd31, _, ok__law_persons F31 B T_sorted T_set, m31, k31, b31⟩
  have C__law_circled : CalG P w K mg base 4 "_law_circled" (spCircled K) := ⟨f32, fd32, _, ok__law_circled F32 B C__law_take C__law_mixed C__law_number, m32, k32, b32⟩
  have C__law_unfounded : CalG P w K mg base 2 "_law_unfounded" (spUnfounded K) := ⟨f33, fd33, _, ok__law_unfounded F33 B C__law_take, m33, k33, b33⟩
  have C__law_odd : CalG P w K mg base 3 "_law_odd" (spOdd K) := ⟨f35, fd35, _, ok__law_odd F35 B C__law_some, m35, k35, b35⟩
  have C__law_owes : CalG P w K mg base 52 "_law_owes" (spOwes K) := ⟨f36, fd36, _, ok__law_owes F36 B C__law_has_due, m36, k36, b36⟩
  have C__law_has_circle : CalG P w K mg base 53 "_law_has_circle" (spStuck K) := ⟨f37, fd37, _, ok__law_has_circle F37 B C__law_owes, m37, k37, b37⟩
  have C__law_no_founder : CalG P w K mg base 1 "_law_no_founder" (spWg K fun fs => optV (unfF fs)) := ⟨f38, fd38, _, ok__law_no_founder F38 B, m38, k38, b38⟩
  have C__law_ring_web : CalG P w K mg base 4 "_law_ring_web" (spRing K) := ⟨f40, fd40, _, ok__law_ring_web F40 B T_sorted C__law_take C__law_some C__law_mixed C__law_number, m40, k40, b40⟩
  have C__law_is_circle : CalG P w K mg base 53 "_law_is_circle" (spJudge K IsCirc) := ⟨f41, fd41, _, ok__law_is_circle F41 B T_set C__law_owes, m41, k41, b41⟩
  have C__law_is_order : CalG P w K mg base 53 "_law_is_order" (spJudge K IsOrd) := ⟨f42, fd42, _, ok__law_is_order F42 B T_sorted C__law_owes, m42, k42, b42⟩
  have C_first_unfounded : CalG P w K mg base 2 "first_unfounded" (spWg K fun fs => optV (unfF fs)) := ⟨f5, fd5, _, ok_first_unfounded F5 B T_any C_firm_names C_is_founding, m5, k5, b5⟩
  have C_is_founded : CalG P w K mg base 3 "is_founded" (spWg K fun fs => .bl (unfF fs).isNone) := ⟨f7, fd7, _, ok_is_founded F7 B C_first_unfounded, m7, k7, b7⟩
  have C_is_clear : CalG P w K mg base 6 "is_clear" (fun vs H Q _ => ∃ (a : Addr) (xs : List V) (fs : List PyData), vs = [.ref a] ∧ SqT K H a xs ∧ DtA K mT H xs fs ∧ Wg fs ∧ ∀ H' b, Same H H' → (b = true ↔ unfF fs = none ∧ ¬ Stuck (fs.map nmS) (owers fs)) → Q (.bl b) H') := ⟨f14, fd14, _, ok_is_clear F14 B C_is_founded C_dues_order, m14, k14, b14⟩
  have C__law_bent : CalG P w K mg base 6 "_law_bent" (spBent K 1 Ob) := ⟨f34, fd34, _, (bent_two F34 B C__law_take C__law_some C__law_is_int C__law_odd (fun j sp h => ⟨f34, fd34, _, h, m34, k34, b34⟩)).mono (by decide), m34, k34, b34⟩
  have C__law_any_web : CalG P w K mg base 23 "_law_any_web" (spAnyWeb K) := ⟨f39, fd39, _, ok__law_any_web F39 B C__law_take C__law_some C__law_web C__law_circled C__law_unfounded C__law_ring_web, m39, k39, b39⟩
  exact ok_law FL B ⟨C__law_bag, C__law_some, C__law_mixed, C__law_alike, C__law_any_web, C__law_no_founder, C__law_has_circle, C_persons_of, C_first_unfounded, C_is_founded, C_is_clear, C__law_persons, C_circle_of, C_dues_order, C__law_is_circle, C__law_is_order, C_is_circle, C_is_dues_order, C__law_odd, C__law_bent⟩
end
end K34
open PySem PySem.W PyProof.Rows
set_option maxRecDepth 100000 in
set_option maxHeartbeats 0 in
theorem PySem.Challenge.cw_soldwhole_k34_founders_circles_and_dues_holds : PySem.Challenge.rw_soldwhole_k34_founders_circles_and_dues.Holds := by
  w_on; o_law; k_head; (case hw => w_witness2)
  k_fill
  refine Sw.walkG (l := PySem.Challenge.rw_soldwhole_k34_founders_circles_and_dues) (n := 63) (k := 60) (x := "script") (sp := fun w => K34.spLaw _) rfl (by decide) rfl ⟨rfl, by decide, by decide⟩ (fun w h Y => PySem.W.kIn_of Y) ?F (fun _ _ a ns hl _ _ hS => ⟨a, ns, rfl, hS, hl, fun _ => rfl⟩)
  case F =>
    intro w mg fa h KX G hmg
    refine' K34.all_mk KX G hmg ?D0 ?D1 ?D2 ?D3 ?D4 ?D5 ?D6 ?D7 ?D8 ?D9 ?D10 ?D11 ?D12 ?D13 ?D14 ?D15 ?D16 ?D17 ?D18 ?D19 ?D20 ?D21 ?D22 ?D23 ?D24 ?D25 ?D26 ?D27 ?D28 ?D29 ?D30 ?D31 ?D32 ?D33 ?D34 ?D35 ?D36 ?D37 ?D38 ?D39 ?D40 ?D41 ?D42 ?DL ?Z
    (case D0 => (refine' K34.def_mk KX G ?a ?l ?c ?k; (case a => k_is); (case l => k_is); (case c => k_is); (case k => k_is)))
    (case D1 => (refine' K34.def_mk KX G ?a ?l ?c ?k; (case a => k_is); (case l => k_is); (case c => k_is); (case k => k_is)))
    (case D2 => (refine' K34.def_mk KX G ?a ?l ?c ?k; (case a => k_is); (case l => k_is); (case c => k_is); (case k => k_is)))
    (case D3 => (refine' K34.def_mk KX G ?a ?l ?c ?k; (case a => k_is); (case l => k_is); (case c => k_is); (case k => k_is)))
    (case D4 => (refine' K34.def_mk KX G ?a ?l ?c ?k; (case a => k_is); (case l => k_is); (case c => k_is); (case k => k_is)))
    (case D5 => (refine' K34.def_mk KX G ?a ?l ?c ?k; (case a => k_is); (case l => k_is); (case c => k_is); (case k => k_is)))
    (case D6 => (refine' K34.def_mk KX G ?a ?l ?c ?k; (case a => k_is); (case l => k_is); (case c => k_is); (case k => k_is)))
    (case D7 => (refine' K34.def_mk KX G ?a ?l ?c ?k; (case a => k_is); (case l => k_is); (case c => k_is); (case k => k_is)))
    (case D8 => (refine' K34.def_mk KX G ?a ?l ?c ?k; (case a => k_is); (case l => k_is); (case c => k_is); (case k => k_is)))
    (case D9 => (refine' K34.def_mk KX G ?a ?l ?c ?k; (case a => k_is); (case l => k_is); (case c => k_is); (case k => k_is)))
    (case D10 => (refine' K34.def_mk KX G ?a ?l ?c ?k; (case a => k_is); (case l => k_is); (case c => k_is); (case k => k_is)))
    (case D11 => (refine' K34.def_mk KX G ?a ?l ?c ?k; (case a => k_is); (case l => k_is); (case c => k_is); (case k => k_is)))
    (case D12 => (refine' K34.def_mk KX G ?a ?l ?c ?k; (case a => k_is); (case l => k_is); (case c => k_is); (case k => k_is)))
    (case D13 => (refine' K34.def_mk KX G ?a ?l ?c ?k; (case a => k_is); (case l => k_is); (case c => k_is); (case k => k_is)))
    (case D14 => (refine' K34.def_mk KX G ?a ?l ?c ?k; (case a => k_is); (case l => k_is); (case c => k_is); (case k => k_is)))
    (case D15 => (refine' K34.def_mk KX G ?a ?l ?c ?k; (case a => k_is); (case l => k_is); (case c => k_is); (case k => k_is)))
    (case D16 => (refine' K34.def_mk KX G ?a ?l ?c ?k; (case a => k_is); (case l => k_is); (case c => k_is); (case k => k_is)))
    (case D17 => (refine' K34.def_mk KX G ?a ?l ?c ?k; (case a => k_is); (case l => k_is); (case c => k_is); (case k => k_is)))
    (case D18 => (refine' K34.def_mk KX G ?a ?l ?c ?k; (case a => k_is); (case l => k_is); (case c => k_is); (case k => k_is)))
    (case D19 => (refine' K34.def_mk KX G ?a ?l ?c ?k; (case a => k_is); (case l => k_is); (case c => k_is); (case k => k_is)))
    (case D20 => (refine' K34.def_mk KX G ?a ?l ?c ?k; (case a => k_is); (case l => k_is); (case c => k_is); (case k => k_is)))
    (case D21 => (refine' K34.def_mk KX G ?a ?l ?c ?k; (case a => k_is); (case l => k_is); (case c => k_is); (case k => k_is)))
    (case D22 => (refine' K34.def_mk KX G ?a ?l ?c ?k; (case a => k_is); (case l => k_is); (case c => k_is); (case k => k_is)))
    (case D23 => (refine' K34.def_mk KX G ?a ?l ?c ?k; (case a => k_is); (case l => k_is); (case c => k_is); (case k => k_is)))
    (case D24 => (refine' K34.def_mk KX G ?a ?l ?c ?k; (case a => k_is); (case l => k_is); (case c => k_is); (case k => k_is)))
    (case D25 => (refine' K34.def_mk KX G ?a ?l ?c ?k; (case a => k_is); (case l => k_is); (case c => k_is); (case k => k_is)))
    (case D26 => (refine' K34.def_mk KX G ?a ?l ?c ?k; (case a => k_is); (case l => k_is); (case c => k_is); (case k => k_is)))
    (case D27 => (refine' K34.def_mk KX G ?a ?l ?c ?k; (case a => k_is); (case l => k_is); (case c => k_is); (case k => k_is)))
    (case D28 => (refine' K34.def_mk KX G ?a ?l ?c ?k; (case a => k_is); (case l => k_is); (case c => k_is); (case k => k_is)))
    (case D29 => (refine' K34.def_mk KX G ?a ?l ?c ?k; (case a => k_is); (case l => k_is); (case c => k_is); (case k => k_is)))
    (case D30 => (refine' K34.def_mk KX G ?a ?l ?c ?k; (case a => k_is); (case l => k_is); (case c => k_is); (case k => k_is)))
    (case D31 => (refine' K34.def_mk KX G ?a ?l ?c ?k; (case a => k_is); (case l => k_is); (case c => k_is); (case k => k_is)))
    (case D32 => (refine' K34.def_mk KX G ?a ?l ?c ?k; (case a => k_is); (case l => k_is); (case c => k_is); (case k => k_is)))
    (case D33 => (refine' K34.def_mk KX G ?a ?l ?c ?k; (case a => k_is); (case l => k_is); (case c => k_is); (case k => k_is)))
    (case D34 => (refine' K34.def_mk KX G ?a ?l ?c ?k; (case a => k_is); (case l => k_is); (case c => k_is); (case k => k_is)))
    (case D35 => (refine' K34.def_mk KX G ?a ?l ?c ?k; (case a => k_is); (case l => k_is); (case c => k_is); (case k => k_is)))
    (case D36 => (refine' K34.def_mk KX G ?a ?l ?c ?k; (case a => k_is); (case l => k_is); (case c => k_is); (case k => k_is)))
    (case D37 => (refine' K34.def_mk KX G ?a ?l ?c ?k; (case a => k_is); (case l => k_is); (case c => k_is); (case k => k_is)))
    (case D38 => (refine' K34.def_mk KX G ?a ?l ?c ?k; (case a => k_is); (case l => k_is); (case c => k_is); (case k => k_is)))
    (case D39 => (refine' K34.def_mk KX G ?a ?l ?c ?k; (case a => k_is); (case l => k_is); (case c => k_is); (case k => k_is)))
    (case D40 => (refine' K34.def_mk KX G ?a ?l ?c ?k; (case a => k_is); (case l => k_is); (case c => k_is); (case k => k_is)))
    (case D41 => (refine' K34.def_mk KX G ?a ?l ?c ?k; (case a => k_is); (case l => k_is); (case c => k_is); (case k => k_is)))
    (case D42 => (refine' K34.def_mk KX G ?a ?l ?c ?k; (case a => k_is); (case l => k_is); (case c => k_is); (case k => k_is)))
    (case DL => (refine' K34.law_mk KX G ?a ?l ?c ?k; (case a => k_is); (case l => k_is); (case c => k_is); (case k => k_is)))
    (case Z => (refine' K34.bte_mk ?z0 ?z1 ?z2 ?z3 ?z4 ?z5 ?z6 ?z7 ?z8 ?z9 ?z10 ?z11 ?z12 ?z13 ?z14 ?z15 ?z16 ?z17 ?z18 ?z19 ?z20; (case z0 => k_is); (case z1 => k_is); (case z2 => k_is); (case z3 => k_is); (case z4 => k_is); (case z5 => k_is); (case z6 => k_is); (case z7 => k_is); (case z8 => k_is); (case z9 => k_is); (case z10 => k_is); (case z11 => k_is); (case z12 => k_is); (case z13 => k_is); (case z14 => k_is); (case z15 => k_is); (case z16 => k_is); (case z17 => k_is); (case z18 => k_is); (case z19 => k_is); (case z20 => k_is)))
