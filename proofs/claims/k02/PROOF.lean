import PyProof.Rows.All
import Wide.All
import OpenK.AllK
import Wide.FinOn
import HandS.ForMost
import HandS.IsInst
import HandS.Gcd
import HandS.Wide
import HandS.WideBits
import HandS.Flow
import HandS.TupAny
import HandS.StrMore
import HandS.Conv
import HandS.RaiseMore
import HandS.ExcInit
import HandS.ExcIs
import HandS.ExcField
import HandS.ExcValue
import HandS.EndBits
import HandS.DeepEq
import HandS.Walk
import HandS.Codes
import KE.KExcIs
import HandS.Rev
import HandS.MapJoin
import HandS.Text
import PyProof.Rows.StrAscii
import PyProof.Rows.StrDigitsNeg
import PyProof.StrLawsAffix
import KE.IntTextLaws
import HandS.ReplaceLit
import HandS.Zip
import HandS.Star
import KE.GoesMore
import PyProof.EqKinds
import PyProof.FactsAll.dict
import KE.GoesZip
import HandS.Style
import HandS.SetFor
import HandS.SetTxt0
import HandS.Strs
import PyProof.Rows.SortShellAny
import KE.KEqDict
import HandS.Small
import HandS.TupMul
import PySem.Challenge.RW_soldwhole_k02_claims_and_webs_of_any_val
set_option Elab.async false
set_option linter.all false
set_option maxRecDepth 100000
set_option maxHeartbeats 8000000
/-! The guarded layer: a def's promise where no repr is under way (guards = []), so that repr of data may be asked. -/
namespace Sw
open PySem PySem.Spec PyProof.Rows L2

/-- no repr is under way -/
def Gd (A : Around) : Prop := A.guards = some []
theorem Gd.deeper {A : Around} (g : Gd A) (env : Env) : Gd (A.deeper env) := by
  unfold Gd at *
  first
    | exact g
    | (simp [Around.deeper, g])
theorem Gd.make {A : Around} (g : Gd A) (C : Addr) (us : List Value) (kw : List (Str × Value)) : Gd (A.under (.builtin "type.__call__" ⟨.ref C :: us, kw⟩)) := by
  unfold Gd at *
  first
    | exact g
    | (simp [Around.under, Code.guards, Code.isGuard, guardIds, pushGuards, g])
theorem gd_caller : Gd callerA := rfl

/-- the def at f keeps the promise sp, where no repr is under way -/
structure FnG (P : Program) (w : World) (K : PySem.W.Frag) (mg : Str → Option Value) (base : Heap) (k : Nat) (f : Addr) (fd : FuncData) (ps : List Str) (sp : Sp) : Prop where
  len : ∀ vs H Q E, sp vs H Q E → vs.length = ps.length
  go : ∀ {A : Around} {outer : List Env} {s : Shared} {H : Hp} {args : Args} {us : List Value} {vs : List V} {Q : VK} {E : XK},
    Gd A → Room k A → Env0 P w K mg base A outer s H → BindsTo s fd args (ps.zip us) → Vals vs us → sp vs H Q E →
    codeAny (model P w) A (.call (.ref f) args) (CR CX0 outer P w H s Q E) s
section
variable {P : Program} {w : World} {K : PySem.W.Frag} {mg : Str → Option Value} {base : Heap}
theorem FnG.of {k : Nat} {f : Addr} {fd : FuncData} {ps : List Str} {sp : Sp} (F : FnOk P w K mg base CX0 k f fd ps sp) : FnG P w K mg base k f fd ps sp :=
  ⟨F.len, fun _ hr e0 hb hv hs => F.run _ _ _ _ _ _ _ _ _ hr e0 hb hv hs⟩
theorem FnG.mono {j k : Nat} {f : Addr} {fd : FuncData} {ps : List Str} {sp : Sp} (F : FnG P w K mg base j f fd ps sp) (h : j ≤ k) : FnG P w K mg base k f fd ps sp :=
  ⟨F.len, fun g hr => F.go g (hr.mono h)⟩
end
section
variable {X : Cx} {k : Nat} {f : Addr} {fd : FuncData} {ps : List Str} {sp : Sp} {ds : List Value} {dvs : List V} {x : Str} {e : Expr} {es : List Expr} {t : TA} {p pos : Pos}
theorem runG {pins : List (Addr × Obj)} {σ : L2.St} {H : Hp} {s : Shared} {Q : VK} {us : List Value} {vs : List V} (F : FnG X.prog X.w X.K X.mg X.base k f fd ps sp) (g : Gd X.A) (hr : Room k X.A)
    (hb : Binds X.K fd ps ds) (hd : Vals dvs ds) (I : Inv X pins σ H s) (r : Vals vs us) (h : sp (vs ++ dvs) H Q E0) : wpAny (model X.prog X.w) X.A (call (.ref f) us) (EP X pins σ Q) X.xe s := by
  have rr : Vals (vs ++ dvs) (us ++ ds) := r.append hd
  have hz : (us ++ ds).length = ps.length := rr.length.symm.trans (F.len _ _ _ _ h)
  refine wpAny_call (codeAny_mono (F.go g hr I.env0 (hb s us I.kIn hz) rr h) fun res s' z => ?_)
  match res, z with
  | .ok (.ret u), z => exact I.after z
/-- f(e, ..), f a def of the text -/
theorem peG (F : FnG X.prog X.w X.K X.mg X.base k f fd ps sp) (g : Gd X.A) (hr : Room k X.A) (hg : Gl X x) (hm : X.mg x = some (.ref f)) (hk : PySem.W.keepIn X.K (.ref f) = true) (hb : Binds X.K fd ps ds) (hd : Vals dvs ds) (ha : PA X (e :: es) t)
    (hdb : (x == ("__debug__" : Str)) = false := by decide) (he : starEach (e :: es) X.env = (false, eval e X.env) :: starEach es X.env := by rfl) (hpl : (backTo pos (starEach es X.env)).any (·.1) = false := by rfl) :
    PE X (.Call (.Name x p) (e :: es) [] pos) (tCall sp dvs E0 t) :=
  ⟨fun pins s σ H Q I h => wpAny_Call_Name_kw (ld_glob I hg hm (PySem.W.callWith_K (h₀ := X.base) I.ok.mod.kin hk
    (thn (ha.run pos pins s σ H _ I h) fun us s1 z => by obtain ⟨vs, H1, I1, r, q⟩ := z; exact ⟨I1.kIn, runG F g hr hb hd I1 r q⟩) he hpl) hdb)⟩
theorem peG0 (F : FnG X.prog X.w X.K X.mg X.base k f fd ps sp) (g : Gd X.A) (hr : Room k X.A) (hg : Gl X x) (hm : X.mg x = some (.ref f)) (hk : PySem.W.keepIn X.K (.ref f) = true) (hb : Binds X.K fd ps ds) (hd : Vals dvs ds)
    (hdb : (x == ("__debug__" : Str)) = false := by decide) : PE X (.Call (.Name x p) [] [] pos) (tCall sp dvs E0 tNil) :=
  ⟨fun pins s σ H Q I h => wpAny_Call_Name_kw (ld_glob I hg hm (PySem.W.callWith_K0 I.kIn hk (runG (us := []) F g hr hb hd I .nil h)) hdb)⟩
end
section
variable {P : Program} {w : World} {K : PySem.W.Frag} {mg : Str → Option Value} {base : Heap}
/-- a def by its body, where no repr is under way -/
theorem Fun.okG {x qual : Str} {st : Stmt} {f : Addr} {fd : FuncData} {N ps : List Str} {k : Nat} {sp : Sp} (F : Fun K x qual st f fd) (S : FnScope N ps (defScope st)) (len : ∀ vs H Q E, sp vs H Q E → vs.length = ps.length)
    (hbody : ∀ (cdv : Value) (A : Around) (outer : List Env) (s : Shared) (H : Hp) (vs : List V) (Q : VK) (E : XK), Gd (A.deeper (envOfC qual (defScope st) s.heap.objs.size f cdv)) → Room k (A.deeper (envOfC qual (defScope st) s.heap.objs.size f cdv)) → sp vs H Q E →
      ∃ t, PSs (cxOf CX0 P w K mg base N qual (defScope st) f cdv A outer s H E).nox (defBody st) t ∧ t { nx := fun _ H' => Q .non H', rt := Q } (start N vs) H) : FnG P w K mg base (k + 1) f fd ps sp := by
  obtain ⟨oc, od, kV, doc, pm, an, cdv, ct, osl, rfl, lk, hcd⟩ := F.ex
  refine ⟨len, ?_⟩
  intro A outer s H args us vs Q E g hr e0 hb r hs
  have hz := len _ _ _ _ hs
  have up : ∀ b o, base.get? b = some o → s.heap.get? b = some o := fun b o z => (e0.bs b o z).1
  refine codeAny_call_function hr.depth ((e0.mod.kin.keeps up) _ _ lk) rfl S.co S.gen rfl (PySem.W.codeRec_of (e0.mod.kin.keeps up) hcd) (hb _ _ _ _ (wpAny_newFunctionEnv_cells S.kind (fun y hy => ?_) fun env he s1 x1 => ?_))
  · rcases S.par y.1 (List.of_mem_zip (show (y.1, y.2) ∈ ps.zip us from hy)).1 with q | q
    · exact .inl q
    · exact .inr ⟨q, PySem.W.cellsFrom_some _ _ _ (.inl q)⟩
  · subst he
    obtain ⟨t, ht, hq⟩ := hbody cdv A outer s H vs Q E (g.deeper _) (hr.deeper _) hs
    refine ⟨(e0.mod.nolimit.keeps up).keeps x1.toInCall.keep, codeAny_func (wpAny_mono (ht.nox.run [] s1 (start N vs) H _ (inv_start S hr.hd e0 hz r x1) hq) ?_ fun _ _ z => z)⟩
    intro fl s' z
    match fl, z with
    | .ret u, ⟨v, σ', H', J, rv, q⟩ => exact ⟨v, H', J.os, J.bare, J.base, J.hok, rv, q⟩
    | .next, ⟨σ', H', J, q⟩ => exact ⟨.non, H', J.os, J.bare, J.base, J.hok, rfl, q⟩
    | .brk, ⟨_, _, _, q⟩ => exact q.elim
    | .cont, ⟨_, _, _, q⟩ => exact q.elim
end
/-! ### the law's own call -/
section
variable {P : Program} {w : World} {K : PySem.W.Frag} {mg mb : Str → Option Value} {k : Nat} {fa a : Addr} {fd : FuncData} {x : Str} {sp : Sp} {s₁ : Shared} {vs : List Value} {ns : List Int}
/-- the abstract heap in which the script alone is known -/
def scr (a : Addr) (ob : Obj) (ns : List Int) : Hp := fun b => if b = a then some (.frz ob (.lst (ns.map V.int))) else none
theorem scr_at {ob : Obj} : scr a ob ns a = some (.frz ob (.lst (ns.map V.int))) := if_pos rfl
theorem scr_ne {ob : Obj} {b : Addr} (h : b ≠ a) : scr a ob ns b = none := if_neg h
theorem lawFrom (H : Hp) (hO : Only H) (KX : K.In s₁.heap) (hns : s₁.heap.Ns mainGlobals mg) (hb : s₁.heap.Ns builtinsNs mb) (hbb : ∀ y : Str, y ≠ "__name__" → mb y = bootBuiltins y) (hlim : s₁.heap.NoLimit) (hg : s₁.gens = #[])
    (ok : HOk P w H s₁.heap) (nk : ∀ b o, K.lookup b = some o → H b = none) (nd : ∀ b o es ep, s₁.heap.get? b = some o → o.data = .dict es ep → H b = none) (hr : Room k callerA)
    (F : ∀ base : Heap, K.In base → base.Ns mainGlobals mg → FnG P w K mg base k fa fd [x] sp) (hbind : ∀ (s : Shared) (u : Value), BindsTo s fd ⟨[u], []⟩ [(x, u)])
    (hs : sp [.ref a] H (fun v _ => v = .bl true) fun _ _ _ => False) :
    codeAny (model P w) callerA (.call (.ref fa) ⟨[.ref a], []⟩) (fun r s' => r = .ok (.ret (.bool true)) ∧ OldK s₁.heap s'.heap ∧ s'.os = s₁.os ∧ AllBare s'.gens) s₁ := by
  have kIn : K.In (hidT s₁.heap H) := fun b o z => hidT_get (KX b o z) (nk b o z)
  have nsIn : ∀ {b : Addr} {m : Str → Option Value}, s₁.heap.Ns b m → (hidT s₁.heap H).Ns b m := fun {b m} z => by
    obtain ⟨o, es, ep, z1, z2, z3⟩ := z
    exact ⟨o, es, ep, hidT_get z1 (nd b o es ep z1 z2), z2, z3⟩
  have lim : (hidT s₁.heap H).NoLimit := by
    obtain ⟨mc, z1, z2⟩ := hlim
    exact ⟨mc, nsIn z1, z2⟩
  have e0 : Env0 P w K mg (hidT s₁.heap H) callerA [] s₁ H :=
    { frames := rfl, mod := ⟨kIn, nsIn hns, ⟨mb, nsIn hb, hbb⟩, lim⟩, bs := fun _ _ z => of_hidT z, bsz := Nat.le_of_eq (hidT_size _ _), funs := trivial, frf := (fun b z => nomatch z), hok := ok, bare := .of_eq hg }
  refine codeAny_mono ((F _ kIn (nsIn hns)).go (us := [.ref a]) (vs := [.ref a]) gd_caller hr e0 (hbind s₁ (.ref a)) (.cons rfl .nil) hs) fun r s' z => ?_
  match r, z with
  | .ok (.ret u), z =>
    obtain ⟨v, H', zo, zb, un, ok', rv, q⟩ := z
    have q : v = .bl true := q
    subst q
    have eu : u = Value.bool true := rv
    subst eu
    refine ⟨rfl, .of_keep fun b o e => ?_, zo, zb⟩
    rcases hO b with n | ⟨ob, xs, n⟩
    · exact un.keep b o e n (fun z => nomatch z) (fun z => nomatch z)
    · have e1 := (ok b _ n).1
      have e2 := (ok' b _ (un.frzs b ob _ n)).1
      have e3 : o = ob := Option.some.inj (e.symm.trans e1)
      rw [e3]
      exact e2
theorem lawG (KX : K.In s₁.heap) (hns : s₁.heap.Ns mainGlobals mg) (hb : s₁.heap.Ns builtinsNs mb) (hbb : ∀ y : Str, y ≠ "__name__" → mb y = bootBuiltins y) (hlim : s₁.heap.NoLimit) (hg : s₁.gens = #[])
    (ha : s₁.heap.get? a = some { cls := .type "list", data := .seq vs.toArray }) (hi : IntsAre vs ns) (hl : ns.length ≤ sizeLine) (hr : Room k callerA)
    (F : ∀ base : Heap, K.In base → base.Ns mainGlobals mg → FnG P w K mg base k fa fd [x] sp) (hbind : ∀ (s : Shared) (u : Value), BindsTo s fd ⟨[u], []⟩ [(x, u)])
    (hsp : ∀ H : Hp, Only H → SqL K H a (ns.map V.int) → sp [.ref a] H (fun v _ => v = .bl true) fun _ _ _ => False) :
    codeAny (model P w) callerA (.call (.ref fa) ⟨[.ref a], []⟩) (fun r s' => r = .ok (.ret (.bool true)) ∧ OldK s₁.heap s'.heap ∧ s'.os = s₁.os ∧ AllBare s'.gens) s₁ := by
  have rv := vals_ints hi
  have hln := hi.length
  rcases hk : K.lookup a with _ | o
  · refine lawFrom (scr a { cls := .type "list", data := .seq vs.toArray } ns) ?_ KX hns hb hbb hlim hg ?_ ?_ ?_ hr F hbind (hsp _ ?_ (.inl (.inr ⟨_, scr_at⟩)))
    rotate_left
    · intro b u z
      by_cases e : b = a
      · rw [e, scr_at] at z
        cases z
        rw [e]
        exact ⟨ha, by rw [List.length_map]; exact hl, vs, _, rv, ha⟩
      · rw [scr_ne e] at z
        cases z
    · intro b o z
      refine scr_ne fun e => ?_
      rw [e, hk] at z
      cases z
    · intro b o es ep z1 z2
      refine scr_ne fun e => ?_
      rw [e, ha] at z1
      cases z1
      cases z2
    all_goals
      intro b
      by_cases e : b = a
      · exact .inr ⟨_, _, by rw [e]; exact scr_at⟩
      · exact .inl (scr_ne e)
  · have z := KX a o hk
    rw [ha] at z
    cases z
    exact lawFrom (fun _ => none) (fun _ => .inl rfl) KX hns hb hbb hlim hg (fun _ _ z => nomatch z) (fun _ _ _ => rfl) (fun _ _ _ _ _ _ => rfl) hr F hbind
      (hsp _ (fun _ => .inl rfl) (.inr ⟨_, vs.toArray, _, hk, rfl, rfl, rfl, by rw [List.size_toArray, hln]; exact hl, by simpa using rv⟩))
end
theorem walkG {l : PySem.W.OpenLaw} {n k : Nat} {q : Program} {loose : List Str} {XP : (Str → Option Value) → Heap → Prop} {YP : World → Heap → Prop} {d : DefRec} {K : Params → PySem.W.Frag} {sp : World → Sp} {x : Str}
    (hn : l.most = some n) (hn2 : n ≤ sizeLine) (hdf : d.params.defaults = []) (hr : Room k callerA) (hY : ∀ (w : World) (h : Heap), YP w h → (K w.params).In h)
    (F : ∀ (w : World) (mg : Str → Option Value) (fa : Addr) (h : Heap), (K w.params).In h → h.Ns mainGlobals mg → mg d.name = some (.ref fa) →
      ∃ fd : FuncData, (∀ (s : Shared) (u : Value), BindsTo s fd ⟨[u], []⟩ [(x, u)]) ∧
        ∀ base : Heap, (K w.params).In base → base.Ns mainGlobals mg → FnG l.prog w (K w.params) mg base k fa fd [x] (sp w))
    (hsp : ∀ (w : World) (H : Hp) (a : Addr) (ns : List Int), ns.length ≤ n → (∀ z ∈ ns, Builtin.Int.intBits z ≤ 1048576) → Only H → SqL (K w.params) H a (ns.map V.int) → sp w [.ref a] H (fun v _ => v = .bl true) fun _ _ _ => False) :
    PySem.W.WalkO q loose XP YP l.row.toRowW d [] (fun f vs => PySem.call f vs) :=
  Att.attach_callB hn hdf fun w s₀ s₁ mg mb fa o pm cd doc a vs ns G Y ho hd hcd hmg hobj hints hlen hbits hg => by
    obtain ⟨fd, hb, hF⟩ := F w mg fa _ (hY w _ Y) G.T.g hmg
    exact lawG (hY w _ Y) G.T.g G.T.b G.T.builtins G.T.nolimit hg hobj hints (Nat.le_trans hlen hn2) hr hF hb fun H hO hS => hsp w H a ns hlen hbits hO hS
end Sw
/-! Data as a whole over the abstract heap (Dt), what stays (Fut), == and repr of data. -/
namespace Sw
open PySem PySem.Spec PyProof.Rows L2

/-- a tuple of the written part -/
def KTup (K : PySem.W.Frag) (a : Addr) (xs : List V) : Prop :=
  ∃ (o : Obj) (its : Array Value) (n : Nat), K.lookup a = some o ∧ o.cls = .type "tuple" ∧ o.data = .seq its n ∧ its.size ≤ sizeLine ∧ Vals xs its.toList
def keyD : Key → PyData
  | .inl i => .int i
  | .inr x => .str x
mutual
/-- v is the datum d; mu: the lists and dicts that are about to change (none of them is part of d) -/
inductive Dt (K : PySem.W.Frag) (mu : Addr → Prop) (H : Hp) : V → PyData → Prop
  | non : Dt K mu H .non .none
  | bl (b : Bool) : Dt K mu H (.bl b) (.bool b)
  | int (i : Int) : Dt K mu H (.int i) (.int i)
  | str (x : Str) : Dt K mu H (.str x) (.str x)
  | lst {a : Addr} {xs : List V} {ds : List PyData} : ¬ mu a → Rd H a (.lst xs) → DtA K mu H xs ds → Dt K mu H (.ref a) (.list ds)
  | tup {a : Addr} {xs : List V} {ds : List PyData} : Rd H a (.tup xs) → DtA K mu H xs ds → Dt K mu H (.ref a) (.tuple ds)
  | tupK {a : Addr} {xs : List V} {ds : List PyData} : KTup K a xs → DtA K mu H xs ds → Dt K mu H (.ref a) (.tuple ds)
  | dct {a : Addr} {kvs : List (Key × V)} {ds : List (PyData × PyData)} : ¬ mu a → Rd H a (.dK kvs) → DtK K mu H kvs ds → Dt K mu H (.ref a) (.dict ds)
inductive DtA (K : PySem.W.Frag) (mu : Addr → Prop) (H : Hp) : List V → List PyData → Prop
  | nil : DtA K mu H [] []
  | cons {v : V} {vs : List V} {d : PyData} {ds : List PyData} : Dt K mu H v d → DtA K mu H vs ds → DtA K mu H (v :: vs) (d :: ds)
inductive DtK (K : PySem.W.Frag) (mu : Addr → Prop) (H : Hp) : List (Key × V) → List (PyData × PyData) → Prop
  | nil : DtK K mu H [] []
  | cons {k : Key} {v : V} {kvs : List (Key × V)} {d : PyData} {ds : List (PyData × PyData)} : Dt K mu H v d → DtK K mu H kvs ds → DtK K mu H ((k, v) :: kvs) ((keyD k, d) :: ds)
end

/-- what is not about to change stays, and tuples do -/
def Fut (mu : Addr → Prop) (H H' : Hp) : Prop := ∀ a o, H a = some o → (¬ mu a ∨ (∃ xs, o = .tup xs) ∨ ∃ ob u, o = .frz ob u) → H' a = some o
theorem Fut.refl {mu : Addr → Prop} (H : Hp) : Fut mu H H := fun _ _ e _ => e
theorem Fut.trans {mu : Addr → Prop} {H H1 H2 : Hp} (a : Fut mu H H1) (b : Fut mu H1 H2) : Fut mu H H2 := fun x o e h => b x o (a x o e h) h
theorem Fut.of_same {mu : Addr → Prop} {H H' : Hp} (s : Same H H') : Fut mu H H' := fun a o e _ => s a o e
theorem Fut.mono {mu mv : Addr → Prop} {H H' : Hp} (f : Fut mu H H') (h : ∀ a, mu a → mv a) : Fut mv H H' := fun a o e z => f a o e (z.imp (fun n m => n (h a m)) id)
theorem Fut.rd {mu : Addr → Prop} {H H' : Hp} (f : Fut mu H H') {a : Addr} {o : HO} (hm : ¬ mu a) (r : Rd H a o) : Rd H' a o := by
  rcases r with r | ⟨ob, r⟩
  · exact .inl (f a _ r (.inl hm))
  · exact .inr ⟨ob, f a _ r (.inl hm)⟩
theorem Fut.rdT {mu : Addr → Prop} {H H' : Hp} (f : Fut mu H H') {a : Addr} {xs : List V} (r : Rd H a (.tup xs)) : Rd H' a (.tup xs) := by
  rcases r with r | ⟨ob, r⟩
  · exact .inl (f a _ r (.inr (.inl ⟨xs, rfl⟩)))
  · exact .inr ⟨ob, f a _ r (.inr (.inr ⟨ob, _, rfl⟩))⟩
section
variable {K : PySem.W.Frag} {mu mv : Addr → Prop} {H H' : Hp}
mutual
theorem Dt.fut (f : Fut mu H H') : ∀ {v : V} {d : PyData}, Dt K mu H v d → Dt K mu H' v d
  | _, _, .non => .non
  | _, _, .bl b => .bl b
  | _, _, .int i => .int i
  | _, _, .str x => .str x
  | _, _, .lst n r h => .lst n (f.rd n r) (DtA.fut f h)
  | _, _, .tup r h => .tup (f.rdT r) (DtA.fut f h)
  | _, _, .tupK r h => .tupK r (DtA.fut f h)
  | _, _, .dct n r h => .dct n (f.rd n r) (DtK.fut f h)
theorem DtA.fut (f : Fut mu H H') : ∀ {vs : List V} {ds : List PyData}, DtA K mu H vs ds → DtA K mu H' vs ds
  | _, _, .nil => .nil
  | _, _, .cons h t => .cons (Dt.fut f h) (DtA.fut f t)
theorem DtK.fut (f : Fut mu H H') : ∀ {vs : List (Key × V)} {ds : List (PyData × PyData)}, DtK K mu H vs ds → DtK K mu H' vs ds
  | _, _, .nil => .nil
  | _, _, .cons h t => .cons (Dt.fut f h) (DtK.fut f t)
end
mutual
/-- fewer that change -/
theorem Dt.less (f : ∀ a, mv a → mu a) : ∀ {v : V} {d : PyData}, Dt K mu H v d → Dt K mv H v d
  | _, _, .non => .non
  | _, _, .bl b => .bl b
  | _, _, .int i => .int i
  | _, _, .str x => .str x
  | _, _, .lst n r h => .lst (fun z => n (f _ z)) r (DtA.less f h)
  | _, _, .tup r h => .tup r (DtA.less f h)
  | _, _, .tupK r h => .tupK r (DtA.less f h)
  | _, _, .dct n r h => .dct (fun z => n (f _ z)) r (DtK.less f h)
theorem DtA.less (f : ∀ a, mv a → mu a) : ∀ {vs : List V} {ds : List PyData}, DtA K mu H vs ds → DtA K mv H vs ds
  | _, _, .nil => .nil
  | _, _, .cons h t => .cons (Dt.less f h) (DtA.less f t)
theorem DtK.less (f : ∀ a, mv a → mu a) : ∀ {vs : List (Key × V)} {ds : List (PyData × PyData)}, DtK K mu H vs ds → DtK K mv H vs ds
  | _, _, .nil => .nil
  | _, _, .cons h t => .cons (Dt.less f h) (DtK.less f t)
end
mutual
/-- one more that changes, not tracked as yet -/
theorem Dt.more {l : Addr} (n : H l = Option.none) : ∀ {v : V} {d : PyData}, Dt K mu H v d → Dt K (fun a => mu a ∨ a = l) H v d
  | _, _, .non => .non
  | _, _, .bl b => .bl b
  | _, _, .int i => .int i
  | _, _, .str x => .str x
  | _, _, .lst m r h => .lst (fun z => z.elim m fun e => by
      rw [e] at r
      rcases r with r | ⟨_, r⟩ <;> (rw [n] at r; cases r)) r (DtA.more n h)
  | _, _, .tup r h => .tup r (DtA.more n h)
  | _, _, .tupK r h => .tupK r (DtA.more n h)
  | _, _, .dct m r h => .dct (fun z => z.elim m fun e => by
      rw [e] at r
      rcases r with r | ⟨_, r⟩ <;> (rw [n] at r; cases r)) r (DtK.more n h)
theorem DtA.more {l : Addr} (n : H l = Option.none) : ∀ {vs : List V} {ds : List PyData}, DtA K mu H vs ds → DtA K (fun a => mu a ∨ a = l) H vs ds
  | _, _, .nil => .nil
  | _, _, .cons h t => .cons (Dt.more n h) (DtA.more n t)
theorem DtK.more {l : Addr} (n : H l = Option.none) : ∀ {vs : List (Key × V)} {ds : List (PyData × PyData)}, DtK K mu H vs ds → DtK K (fun a => mu a ∨ a = l) H vs ds
  | _, _, .nil => .nil
  | _, _, .cons h t => .cons (Dt.more n h) (DtK.more n t)
end
theorem DtA.length : ∀ {vs : List V} {ds : List PyData}, DtA K mu H vs ds → vs.length = ds.length
  | _, _, .nil => rfl
  | _, _, .cons _ t => by rw [List.length_cons, List.length_cons, DtA.length t]
theorem DtA.get : ∀ {vs : List V} {ds : List PyData} {i : Nat} {v : V}, DtA K mu H vs ds → vs[i]? = some v → ∃ d, ds[i]? = some d ∧ Dt K mu H v d
  | _, _, _, _, .nil, e => by simp at e
  | _, _, 0, _, .cons h _, e => by
    simp at e
    subst e
    exact ⟨_, rfl, h⟩
  | _, _, i + 1, v, .cons _ t, e => by
    obtain ⟨d, h1, h2⟩ := DtA.get (i := i) (v := v) t (by simpa using e)
    exact ⟨d, by simpa using h1, h2⟩
theorem DtA.getD : ∀ {vs : List V} {ds : List PyData} {i : Nat} {d : PyData}, DtA K mu H vs ds → ds[i]? = some d → ∃ v, vs[i]? = some v ∧ Dt K mu H v d
  | _, _, _, _, .nil, e => by simp at e
  | _, _, 0, _, .cons h _, e => by
    simp at e
    subst e
    exact ⟨_, rfl, h⟩
  | _, _, i + 1, v, .cons _ t, e => by
    obtain ⟨d, h1, h2⟩ := DtA.getD (i := i) (d := v) t (by simpa using e)
    exact ⟨d, by simpa using h1, h2⟩
theorem DtA.append : ∀ {vs ws : List V} {ds es : List PyData}, DtA K mu H vs ds → DtA K mu H ws es → DtA K mu H (vs ++ ws) (ds ++ es)
  | _, _, _, _, .nil, s => s
  | _, _, _, _, .cons h t, s => .cons h (DtA.append t s)
theorem DtA.drop : ∀ {vs : List V} {ds : List PyData} (n : Nat), DtA K mu H vs ds → DtA K mu H (vs.drop n) (ds.drop n)
  | _, _, 0, r => r
  | _, _, _ + 1, .nil => .nil
  | _, _, n + 1, .cons _ t => DtA.drop n t
theorem DtA.take : ∀ {vs : List V} {ds : List PyData} (n : Nat), DtA K mu H vs ds → DtA K mu H (vs.take n) (ds.take n)
  | _, _, 0, _ => .nil
  | _, _, _ + 1, .nil => .nil
  | _, _, n + 1, .cons h t => .cons h (DtA.take n t)
theorem DtA.one {vs : List V} {ds : List PyData} (h : DtA K mu H vs ds) (e : ds.length = 1) : ∃ x d, vs = [x] ∧ ds = [d] ∧ Dt K mu H x d := by
  cases h with
  | nil => simp at e
  | cons r1 t =>
    cases t with
    | nil => exact ⟨_, _, rfl, rfl, r1⟩
    | cons _ _ => simp at e
theorem DtA.two {vs : List V} {ds : List PyData} (h : DtA K mu H vs ds) (e : ds.length = 2) : ∃ x y d f, vs = [x, y] ∧ ds = [d, f] ∧ Dt K mu H x d ∧ Dt K mu H y f := by
  cases h with
  | nil => simp at e
  | cons r1 t =>
    obtain ⟨y, f, rfl, rfl, r2⟩ := t.one (by simpa using e)
    exact ⟨_, _, _, _, rfl, rfl, r1, r2⟩
theorem DtA.three {vs : List V} {ds : List PyData} (h : DtA K mu H vs ds) (e : ds.length = 3) : ∃ x y z d f g, vs = [x, y, z] ∧ ds = [d, f, g] ∧ Dt K mu H x d ∧ Dt K mu H y f ∧ Dt K mu H z g := by
  cases h with
  | nil => simp at e
  | cons r1 t =>
    obtain ⟨y, z, f, g, rfl, rfl, r2, r3⟩ := t.two (by simpa using e)
    exact ⟨_, _, _, _, _, _, rfl, rfl, r1, r2, r3⟩
theorem DtA.ints : ∀ (ns : List Int), DtA K mu H (ns.map V.int) (ns.map PyData.int)
  | [] => .nil
  | n :: ns => .cons (.int n) (DtA.ints ns)
theorem DtA.strs : ∀ (ns : List Str), DtA K mu H (ns.map V.str) (ns.map PyData.str)
  | [] => .nil
  | n :: ns => .cons (.str n) (DtA.strs ns)
theorem _root_.L2.Same.seqT {H1 H2 : Hp} (e : Same H1 H2) {a : Addr} {xs : List V} (h : SqT K H1 a xs) : SqT K H2 a xs := by
  rcases h with (h | ⟨o, h⟩) | h
  · exact .inl (.inl (e _ _ h))
  · exact .inl (.inr ⟨o, e _ _ h⟩)
  · exact .inr h
theorem DtA.bls : ∀ (bs : List Bool), DtA K mu H (bs.map V.bl) (bs.map PyData.bool)
  | [] => .nil
  | n :: ns => .cons (.bl n) (DtA.bls ns)
end

/-! ### what the library reads -/
theorem nmem_app {p : Addr → Prop} {as bs : List Addr} (ha : ∀ a ∈ as, ¬ p a) (hb : ∀ a ∈ bs, ¬ p a) : ∀ a ∈ as ++ bs, ¬ p a := fun a h => (List.mem_append.mp h).elim (ha a) (hb a)
theorem nmem_cons {p : Addr → Prop} {b : Addr} {as : List Addr} (hb : ¬ p b) (ha : ∀ a ∈ as, ¬ p a) : ∀ a ∈ b :: as, ¬ p a := fun a h => (List.mem_cons.mp h).elim (fun e => by rw [e]; exact hb) (ha a)
section
variable {X : Cx} {pins : List (Addr × Obj)} {σ : L2.St} {H : Hp} {s : Shared} {mu : Addr → Prop}
theorem Rd.sqL {K : PySem.W.Frag} {a : Addr} {xs : List V} (r : Rd H a (.lst xs)) : SqL K H a xs := .inl r
theorem Rd.sqT {K : PySem.W.Frag} {a : Addr} {xs : List V} (r : Rd H a (.tup xs)) : SqT K H a xs := .inl r
theorem KTup.sqT {K : PySem.W.Frag} {a : Addr} {xs : List V} (r : KTup K a xs) : SqT K H a xs := .inr r
mutual
theorem Dt.reads (I : Inv X pins σ H s) : ∀ (d : PyData) (v : V) (u : Value), Dt X.K mu H v d → RelV v u → ∃ as, Reads s.heap u d as ∧ ∀ a ∈ as, ¬ mu a
  | .none, _, _, h, r => by
    cases h
    cases r
    exact ⟨_, Reads.none, fun _ z => nomatch z⟩
  | .bool b, _, _, h, r => by
    cases h
    cases r
    exact ⟨_, Reads.bool b, fun _ z => nomatch z⟩
  | .int i, _, _, h, r => by
    cases h
    obtain ⟨t, rfl⟩ := r
    exact ⟨_, Reads.int i t, fun _ z => nomatch z⟩
  | .str x, _, _, h, r => by
    cases h
    obtain ⟨t, rfl⟩ := r
    exact ⟨_, Reads.str x t, fun _ z => nomatch z⟩
  | .list ds, _, _, h, r => by
    cases h with
    | lst n rd ha =>
      cases r
      obtain ⟨its, rv, ⟨o, m, ho, hc, _, hd⟩, _⟩ := I.list (Rd.sqL rd)
      obtain ⟨as, hr, hn⟩ := DtA.reads I ds _ its ha rv
      exact ⟨_, Reads.list ho hc hd hr, nmem_cons n hn⟩
  | .tuple ds, _, _, h, r => by
    have key : ∀ {a : Addr} {xs : List V} {u : Value}, SqT X.K H a xs → DtA X.K mu H xs ds → RelV (.ref a) u → ∃ as, Reads s.heap u (.tuple ds) as ∧ ∀ a ∈ as, ¬ mu a := fun {a xs u} hs ha r => by
      cases r
      obtain ⟨its, rv, ⟨o, ho, hc, n, hd⟩, _⟩ := I.tuple hs
      obtain ⟨as, hr, hn⟩ := DtA.reads I ds _ its ha rv
      exact ⟨_, Reads.tuple ho hc hd hr, hn⟩
    cases h with
    | tup rd ha => exact key (Rd.sqT rd) ha r
    | tupK rd ha => exact key (KTup.sqT rd) ha r
  | .dict ds, _, _, h, r => by
    cases h with
    | @dct a kvs _ n rd ha =>
      cases r
      have z : ObjOk X.prog X.w H s.heap a (.dK kvs) := rd.ok I.hok
      obtain ⟨_, _, vs, rel, o, es, ep, ho, hx, hd, _, hp, _⟩ := z
      obtain ⟨as, bs, h1, h2, m1, m2⟩ := DtK.reads I ds kvs vs es.toList ha rel hp
      exact ⟨_, Reads.dict ho hx.1 hd h1 h2, nmem_cons n (nmem_app m1 m2)⟩
theorem DtA.reads (I : Inv X pins σ H s) : ∀ (ds : List PyData) (vs : List V) (us : List Value), DtA X.K mu H vs ds → Vals vs us → ∃ as, ReadsAll s.heap us ds as ∧ ∀ a ∈ as, ¬ mu a
  | [], _, _, h, r => by
    cases h
    cases r
    exact ⟨_, ReadsAll.nil, fun _ z => nomatch z⟩
  | d :: ds, _, _, h, r => by
    cases h with
    | cons h1 h2 =>
      cases r with
      | cons r1 r2 =>
        obtain ⟨as, q1, m1⟩ := Dt.reads I d _ _ h1 r1
        obtain ⟨bs, q2, m2⟩ := DtA.reads I ds _ _ h2 r2
        exact ⟨_, ReadsAll.cons q1 q2, nmem_app m1 m2⟩
theorem DtK.reads (I : Inv X pins σ H s) : ∀ (ds : List (PyData × PyData)) (kvs : List (Key × V)) (vs : List (Key × Value)) (es : List DictEntry), DtK X.K mu H kvs ds → KV kvs vs → Pairs (mixKind X.prog X.w) es vs →
    ∃ as bs, ReadsAll s.heap (es.map (·.key)) (ds.map (·.1)) as ∧ ReadsAll s.heap (es.map (·.val)) (ds.map (·.2)) bs ∧ (∀ a ∈ as, ¬ mu a) ∧ ∀ a ∈ bs, ¬ mu a
  | [], _, _, _, h, r, p => by
    cases h
    cases r
    cases p
    exact ⟨_, _, ReadsAll.nil, ReadsAll.nil, (fun _ z => nomatch z), (fun _ z => nomatch z)⟩
  | (dk, d) :: ds, _, _, _, h, r, p => by
    cases h with
    | @cons k v kvs _ _ h1 h2 =>
      cases r with
      | @cons _ q _ vs r1 r2 =>
        cases p with
        | @cons e _ es _ p1 p2 p3 =>
          obtain ⟨as, q1, m1⟩ := Dt.reads I d _ q.2 h1 r1.2
          obtain ⟨cs, bs, q2, q3, m2, m3⟩ := DtK.reads I ds _ _ _ h2 r2 p3
          have ek : keyIs k e.key = true := by
            have z : keyIs q.1 e.key = true := p1
            rw [← r1.1] at z
            exact z
          have q4 : ∃ as, Reads s.heap e.key (keyD k) as ∧ ∀ a ∈ as, ¬ mu a := by
            rcases keyIs_shape ek with ⟨i, t, z1, z2⟩ | ⟨x, t, z1, z2⟩
            · rw [z1, z2]
              exact ⟨_, Reads.int i t, fun _ z => nomatch z⟩
            · rw [z1, z2]
              exact ⟨_, Reads.str x t, fun _ z => nomatch z⟩
          obtain ⟨a0, q4, m4⟩ := q4
          refine ⟨_, _, ReadsAll.cons q4 q2, ReadsAll.cons (as := as) (by show Reads s.heap e.val d as; rw [p2]; exact q1) q3, nmem_app m4 m2, nmem_app m1 m3⟩
end
end
/-! ### == and repr of data -/
section
variable {X : Cx}
def rEqW (K : PySem.W.Frag) : R2 := fun x y H Q => ∃ mu d e, Dt K mu H x d ∧ Dt K mu H y e ∧ SeqAt.shaped d = true ∧ SeqAt.shaped e = true ∧ Q (.bl (PyData.eqv d e)) H
def rNeW (K : PySem.W.Frag) : R2 := fun x y H Q => ∃ mu d e, Dt K mu H x d ∧ Dt K mu H y e ∧ SeqAt.shaped d = true ∧ SeqAt.shaped e = true ∧ Q (.bl (!PyData.eqv d e)) H
theorem op_eqW (hu : X.A.units + 64 < cLine) : OpR X (compareOp .Eq) (rEqW X.K) := by
  intro pins s σ H x y v u Q I rx ry h
  obtain ⟨mu, d, e, hd, he, sd, se, q⟩ := h
  obtain ⟨as, r1, _⟩ := Dt.reads I d x v hd rx
  obtain ⟨bs, r2, _⟩ := Dt.reads I e y u he ry
  exact SeqAt.compareEq_shaped r1 r2 sd se hu ⟨.bl _, H, I, rfl, q⟩
theorem op_neW (hu : X.A.units + 64 < cLine) : OpR X (compareOp .NotEq) (rNeW X.K) := by
  intro pins s σ H x y v u Q I rx ry h
  obtain ⟨mu, d, e, hd, he, sd, se, q⟩ := h
  obtain ⟨as, r1, _⟩ := Dt.reads I d x v hd rx
  obtain ⟨bs, r2, _⟩ := Dt.reads I e y u he ry
  exact SeqAt.compareNe_shaped r1 r2 sd se hu ⟨.bl _, H, I, rfl, q⟩
/-- == of data, or of one thing with itself -/
def rEqA (K : PySem.W.Frag) : R2 := fun x y H Q => rEqW K x y H Q ∨ (rEqV K x y H Q ∨ rEq x y H Q)
theorem op_eqA (hu : X.A.units + 64 < cLine) : OpR X (compareOp .Eq) (rEqA X.K) := OpR.or (op_eqW hu) (OpR.or (op_eqV hu) op_eq)
def rRepr (K : PySem.W.Frag) : List V → Hp → VK → Prop := fun xs H Q => ∃ (x : V) (mu : Addr → Prop) (d : PyData), xs = [x] ∧ Dt K mu H x d ∧ d.showable = true ∧ (d.hasDict = false ∨ mu sysModules) ∧ d.depth ≤ 60 ∧ d.shown.length ≤ sizeLine ∧ Q (.str d.shown) H
theorem call_repr (hg : Gd X.A) (hu : X.A.units + 64 < cLine) : CallR X (.builtin "repr") (rRepr X.K) := by
  intro pins s σ H xs us Q I r h
  obtain ⟨x, mu, d, rfl, hd, hs, hm, hdp, hl, q⟩ := h
  cases r with
  | @cons _ u _ _ r1 r2 =>
    cases r2
    have fin : ∀ {t : Tok} {tk : Nat}, EP X pins σ Q (.str d.shown t) { s with toks := tk } := fun {t tk} => ⟨.str _, H, I.tok tk, ⟨t, rfl⟩, q⟩
    cases d with
    | none =>
      cases hd
      cases r1
      exact P.repr_of_none fin
    | bool b =>
      cases hd
      cases r1
      exact P.repr_of_bool fin
    | int i =>
      cases hd
      obtain ⟨t, rfl⟩ := r1
      exact P.repr_of_int (of_decide_eq_true hs) fin
    | str y =>
      cases hd
      obtain ⟨t, rfl⟩ := r1
      exact P.repr_of_str fin hl
    | _ =>
      obtain ⟨as, hr, hn⟩ := Dt.reads I _ x u hd r1
      have hu' : ∃ a, u = .ref a := by
        cases hd <;> exact ⟨_, r1⟩
      obtain ⟨a, rfl⟩ := hu'
      exact repr_of_reads' hr hs (fun hz => hm.elim (fun z => by rw [z] at hz; cases hz) fun z y => hn _ y z) hg (by omega) (fun _ _ e => e) (fun h' t tk hk => ⟨.str _, H, (I.kept (h' := h') (t' := tk) hk), ⟨t, rfl⟩, q⟩) hl
end
end Sw
/-! Calls of defs by what they promise; isinstance, len, items of data; the built-ins' names. -/
namespace Sw
open PySem PySem.Spec PyProof.Rows L2

/-- the module's name x is a def that keeps sp -/
structure CalG (P : Program) (w : World) (K : PySem.W.Frag) (mg : Str → Option Value) (base : Heap) (k : Nat) (x : Str) (sp : Sp) : Prop where
  ex : ∃ (f : Addr) (fd : FuncData) (ps : List Str), FnG P w K mg base k f fd ps sp ∧ mg x = some (.ref f) ∧ PySem.W.keepIn K (.ref f) = true ∧ Binds K fd ps []
section
variable {X : Cx} {k j : Nat} {sp : Sp} {x : Str} {e : Expr} {es : List Expr} {t : TA} {p pos : Pos}
theorem pc (c : CalG X.prog X.w X.K X.mg X.base k x sp) (g : Gd X.A) (hr : Room j X.A) (hk : k ≤ j) (hg : Gl X x) (ha : PA X (e :: es) t)
    (hdb : (x == ("__debug__" : Str)) = false := by decide) (he : starEach (e :: es) X.env = (false, eval e X.env) :: starEach es X.env := by rfl) (hpl : (backTo pos (starEach es X.env)).any (·.1) = false := by rfl) :
    PE X (.Call (.Name x p) (e :: es) [] pos) (tCall sp [] E0 t) := by
  obtain ⟨f, fd, ps, F, hm, kp, b⟩ := c.ex
  exact peG F g (hr.mono hk) hg hm kp b .nil ha hdb he hpl
theorem pc0 (c : CalG X.prog X.w X.K X.mg X.base k x sp) (g : Gd X.A) (hr : Room j X.A) (hk : k ≤ j) (hg : Gl X x) (hdb : (x == ("__debug__" : Str)) = false := by decide) :
    PE X (.Call (.Name x p) [] [] pos) (tCall sp [] E0 tNil) := by
  obtain ⟨f, fd, ps, F, hm, kp, b⟩ := c.ex
  exact peG0 F g (hr.mono hk) hg hm kp b .nil hdb
end
theorem Room.u64 {k : Nat} {A : Around} (r : Room k A) : A.units + 64 < cLine := by
  have := r.un
  omega

/-! ### isinstance of data -/
def tyName : PyData → String
  | .none => "NoneType" | .bool _ => "bool" | .int _ => "int" | .str _ => "str" | .list _ => "list" | .tuple _ => "tuple" | .dict _ => "dict"
def isT (T : String) (d : PyData) : Bool := tyName d == T || (tyName d == "bool" && T == "int")
section
variable {K : PySem.W.Frag} {mu : Addr → Prop} {H : Hp}
theorem Dt.tyx {v : V} {d : PyData} (h : Dt K mu H v d) : TyX K H v (.type (tyName d)) := by
  cases h with
  | non => exact .base .non
  | bl b => exact .base (.bl b)
  | int i => exact .base (.int i)
  | str x => exact .base (.str x)
  | lst n r _ =>
    rcases r with r | ⟨o, r⟩
    · exact .base (.lst r)
    · exact .base (.frz r)
  | tup r _ =>
    rcases r with r | ⟨o, r⟩
    · exact .base (.tup r)
    · exact .fTuple r
  | tupK r _ =>
    obtain ⟨o, its, n, h1, h2, _⟩ := r
    exact .kTuple h1 h2
  | dct n r _ =>
    rcases r with r | ⟨o, r⟩
    · exact .base (.dK r)
    · exact .fDict r
end
def tyAsk (T : String) : Bool := ["int", "bool", "str", "list", "tuple", "dict"].contains T
theorem kit_tab : ∀ T ∈ ["int", "bool", "str", "list", "tuple", "dict"], ∀ S ∈ ["NoneType", "bool", "int", "str", "list", "tuple", "dict"], kitB S T = some (S == T || (S == "bool" && T == "int")) := by decide +kernel
theorem tyName_mem (d : PyData) : tyName d ∈ ["NoneType", "bool", "int", "str", "list", "tuple", "dict"] := by
  cases d <;> simp [tyName]
def rIsD (K : PySem.W.Frag) : List V → Hp → VK → Prop := fun xs H Q => ∃ (x : V) (T : String) (mu : Addr → Prop) (d : PyData), xs = [x, .ty T] ∧ T ∈ ["int", "bool", "str", "list", "tuple", "dict"] ∧ Dt K mu H x d ∧ Q (.bl (isT T d)) H
section
variable {X : Cx}
theorem call_isD : CallR X (.builtin "isinstance") (rIsD X.K) := by
  intro pins s σ H xs us Q I r h
  obtain ⟨x, T, mu, d, rfl, hT, hd, q⟩ := h
  exact call_isi pins s σ H _ us Q I r ⟨x, .ty T, _, .type T, _, rfl, .ty T, hd.tyx, kit_ty (kit_tab T hT _ (tyName_mem d)), q⟩

/-! ### len, items -/
def lenD : PyData → Option Nat
  | .str x => some x.length | .list ds => some ds.length | .tuple ds => some ds.length | _ => none
theorem call_lenA : CallR X (.builtin "len") (fun xs H Q => ∃ (x : V) (n : Nat), xs = [x] ∧ LenV X.K x H n ∧ Q (.int n) H) := call_len
theorem lenV_of {K : PySem.W.Frag} {mu : Addr → Prop} {H : Hp} {v : V} {d : PyData} {n : Nat} (h : Dt K mu H v d) (hn : lenD d = some n) (hs : n ≤ sizeLine) : LenV K v H n := by
  cases h with
  | str x =>
    cases hn
    exact ⟨hs, rfl⟩
  | lst m r ha =>
    cases hn
    exact .inl ⟨_, Rd.sqL r, ha.length.symm⟩
  | tup r ha =>
    cases hn
    exact .inr ⟨_, Rd.sqT r, ha.length.symm⟩
  | tupK r ha =>
    cases hn
    exact .inr ⟨_, KTup.sqT r, ha.length.symm⟩
  | _ => cases hn
/-- an item of a tuple, of a list -/
theorem Dt.tupAt {K : PySem.W.Frag} {mu : Addr → Prop} {H : Hp} {v : V} {ds : List PyData} (h : Dt K mu H v (.tuple ds)) : ∃ a xs, v = .ref a ∧ SqT K H a xs ∧ DtA K mu H xs ds := by
  cases h with
  | tup r ha => exact ⟨_, _, rfl, Rd.sqT r, ha⟩
  | tupK r ha => exact ⟨_, _, rfl, KTup.sqT r, ha⟩
theorem Dt.lstAt {K : PySem.W.Frag} {mu : Addr → Prop} {H : Hp} {v : V} {ds : List PyData} (h : Dt K mu H v (.list ds)) : ∃ a xs, v = .ref a ∧ ¬ mu a ∧ Rd H a (.lst xs) ∧ DtA K mu H xs ds := by
  cases h with
  | lst n r ha => exact ⟨_, _, rfl, n, r, ha⟩
/-- o[i] of a list by values (in o[i] op= e), i from 0 on -/
def rGetL (K : PySem.W.Frag) : R2 := fun o i H Q => ∃ (p : Addr) (xs : List V) (j : Nat) (v : V), o = .ref p ∧ i = .int j ∧ SqL K H p xs ∧ xs[j]? = some v ∧ Q v H
theorem get_list : PGet X (rGetL X.K) := by
  intro pins s σ H o i ov iv Q I ro ri h
  obtain ⟨p, xs, j, v, rfl, rfl, hq, he, q⟩ := h
  cases ro
  obtain ⟨t, rfl⟩ := ri
  obtain ⟨its, r, pl, hz⟩ := I.list hq
  obtain ⟨u, eu, ru⟩ := r.get he
  have hn := line63
  have hl := (List.getElem?_eq_some_iff.mp he).1
  exact wpAny_getItem_list pl.isList (by omega) (by omega) (by simpa using eu) ⟨v, H, I, ru, q⟩
end

/-! ### the built-ins' names, not taken by the module -/
structure Bt (mg : Str → Option Value) : Prop where
  len : mg "len" = none
  int : mg "int" = none
  bool : mg "bool" = none
  str : mg "str" = none
  tuple : mg "tuple" = none
  list : mg "list" = none
  dict : mg "dict" = none
  isin : mg "isinstance" = none
  repr : mg "repr" = none
  abs : mg "abs" = none
  max : mg "max" = none
  min : mg "min" = none
  range : mg "range" = none
  enum : mg "enumerate" = none
  zip : mg "zip" = none
theorem bb_abs : bootBuiltins "abs" = some (.builtin "abs") := by decide +kernel
theorem bb_isin : bootBuiltins "isinstance" = some (.builtin "isinstance") := by decide +kernel
theorem bb_repr : bootBuiltins "repr" = some (.builtin "repr") := by decide +kernel
theorem bb_max : bootBuiltins "max" = some (.builtin "max") := by decide +kernel
theorem bb_min : bootBuiltins "min" = some (.builtin "min") := by decide +kernel
theorem bb_len : bootBuiltins "len" = some (.builtin "len") := PySem.boot_len
theorem bb_sum : bootBuiltins "sum" = some (.builtin "sum") := by decide +kernel
theorem bb_all : bootBuiltins "all" = some (.builtin "all") := by decide +kernel
theorem bb_any : bootBuiltins "any" = some (.builtin "any") := by decide +kernel
theorem bb_sorted : bootBuiltins "sorted" = some (.builtin "sorted") := by decide +kernel
theorem bb_divmod : bootBuiltins "divmod" = some (.builtin "divmod") := by decide +kernel
theorem bb_int : bootBuiltins "int" = some (.type "int") := by decide +kernel
theorem bb_bool : bootBuiltins "bool" = some (.type "bool") := by decide +kernel
theorem bb_str : bootBuiltins "str" = some (.type "str") := by decide +kernel
theorem bb_tuple : bootBuiltins "tuple" = some (.type "tuple") := by decide +kernel
theorem bb_list : bootBuiltins "list" = some (.type "list") := by decide +kernel
theorem bb_dict : bootBuiltins "dict" = some (.type "dict") := by decide +kernel
theorem bb_set : bootBuiltins "set" = some (.type "set") := by decide +kernel
theorem bb_VE : bootBuiltins "ValueError" = some (.type "ValueError") := by decide +kernel

/-! ### data of a size that may be shown and compared -/
mutual
def okD : PyData → Bool
  | .none | .bool _ => true
  | .int i => decide (i.natAbs < 10 ^ 500)
  | .str x => PyData.strOk x
  | .list xs | .tuple xs => okA xs
  | .dict kvs => okK kvs
def okA : List PyData → Bool
  | [] => true
  | x :: xs => okD x && okA xs
def okK : List (PyData × PyData) → Bool
  | [] => true
  | (k, v) :: r => okD k && okD v && okK r
end
structure Ok (d : PyData) : Prop where
  ok : okD d = true
  dp : d.depth ≤ 50
  wt : d.weight ≤ 27000
instance (d : PyData) : Decidable (Ok d) := decidable_of_iff (okD d = true ∧ d.depth ≤ 50 ∧ d.weight ≤ 27000) ⟨fun h => ⟨h.1, h.2.1, h.2.2⟩, fun h => ⟨h.ok, h.dp, h.wt⟩⟩
theorem int_short {i : Int} (h : i.natAbs < 10 ^ 500) : (PyData.shown (.int i)).length ≤ 600 := by
  have e := int_text_length_le10 (k := 500) (by decide) h
  show (Str.ofString (toString i)).length ≤ 600
  rw [PySem.ofString_length]
  omega
theorem int_log {i : Int} (h : i.natAbs < 10 ^ 500) : i.natAbs.log2 < 1920 := by
  have e : (10 : Nat) ^ 500 ≤ 2 ^ 1900 := by decide +kernel
  by_cases z : i.natAbs = 0
  · rw [z]
    decide
  · exact Nat.lt_trans ((Nat.log2_lt z).mpr (Nat.lt_of_lt_of_le h e)) (by decide)
mutual
theorem ok_show : ∀ d : PyData, okD d = true → d.showable = true ∧ d.leavesShort 600 = true
  | .none, _ => ⟨rfl, rfl⟩
  | .bool _, _ => ⟨rfl, rfl⟩
  | .int i, h => by
    have h1 : i.natAbs < 10 ^ 500 := by simpa only [okD, decide_eq_true_eq] using h
    exact ⟨by simp only [PyData.showable, decide_eq_true_eq]; exact int_log h1, by simp only [PyData.leavesShort, decide_eq_true_eq]; exact int_short h1⟩
  | .str x, h => ⟨rfl, PyData.leavesShort_of_canLay0 600 (.str x) (by simpa only [okD, PyData.canLay0] using h) rfl⟩
  | .list xs, h => by simpa only [PyData.showable, PyData.leavesShort] using ok_showA xs (by simpa only [okD] using h)
  | .tuple xs, h => by simpa only [PyData.showable, PyData.leavesShort] using ok_showA xs (by simpa only [okD] using h)
  | .dict kvs, h => by simpa only [PyData.showable, PyData.leavesShort] using ok_showK kvs (by simpa only [okD] using h)
theorem ok_showA : ∀ xs : List PyData, okA xs = true → PyData.showableAll xs = true ∧ PyData.leavesShortAll 600 xs = true
  | [], _ => ⟨rfl, rfl⟩
  | x :: xs, h => by
    have h' : okD x = true ∧ okA xs = true := by simpa only [okA, Bool.and_eq_true] using h
    have a := ok_show x h'.1
    have b := ok_showA xs h'.2
    simp only [PyData.showableAll, PyData.leavesShortAll, a.1, a.2, b.1, b.2, Bool.and_self, and_self]
theorem ok_showK : ∀ xs : List (PyData × PyData), okK xs = true → PyData.showableKv xs = true ∧ PyData.leavesShortKv 600 xs = true
  | [], _ => ⟨rfl, rfl⟩
  | (k, v) :: xs, h => by
    have h' : (okD k = true ∧ okD v = true) ∧ okK xs = true := by simpa only [okK, Bool.and_eq_true] using h
    have a := ok_show k h'.1.1
    have c := ok_show v h'.1.2
    have b := ok_showK xs h'.2
    simp only [PyData.showableKv, PyData.leavesShortKv, a.1, a.2, b.1, b.2, c.1, c.2, Bool.and_self, and_self]
end
mutual
theorem ok_lay : ∀ d : PyData, okD d = true → d.hasDict = false → d.canLay0 = true
  | .none, _, _ => rfl
  | .bool _, _, _ => rfl
  | .int i, _, _ => rfl
  | .str x, h, _ => by simpa only [okD, PyData.canLay0] using h
  | .list xs, h, n => by simpa only [PyData.canLay0] using ok_layA xs (by simpa only [okD] using h) (by simpa only [PyData.hasDict] using n)
  | .tuple xs, h, n => by simpa only [PyData.canLay0] using ok_layA xs (by simpa only [okD] using h) (by simpa only [PyData.hasDict] using n)
  | .dict kvs, _, n => by simp [PyData.hasDict] at n
theorem ok_layA : ∀ xs : List PyData, okA xs = true → PyData.hasDictAll xs = false → PyData.canLayAll0 xs = true
  | [], _, _ => rfl
  | x :: xs, h, n => by
    have h' : okD x = true ∧ okA xs = true := by simpa only [okA, Bool.and_eq_true] using h
    have n' : x.hasDict = false ∧ PyData.hasDictAll xs = false := by simpa only [PyData.hasDictAll, Bool.or_eq_false_iff] using n
    simp only [PyData.canLayAll0, ok_lay x h'.1 n'.1, ok_layA xs h'.2 n'.2, Bool.and_self]
end
theorem Ok.show {d : PyData} (h : Ok d) : d.showable = true := (ok_show d h.ok).1
theorem Ok.fits {d : PyData} (h : Ok d) : d.shown.length ≤ sizeLine := by
  have e := PyData.shown_le 600 (by decide) d (ok_show d h.ok).2
  have w := h.wt
  rw [sizeLine_eq]
  omega
theorem Ok.shaped {d : PyData} (h : Ok d) (n : d.hasDict = false) : SeqAt.shaped d = true := by
  have := h.dp
  unfold SeqAt.shaped
  rw [ok_lay d h.ok n, decide_eq_true (by omega)]
  rfl
theorem Ok.repr {K : PySem.W.Frag} {mu : Addr → Prop} {H : Hp} {v : V} {d : PyData} {Q : VK} (h : Ok d) (r : Dt K mu H v d) (n : d.hasDict = false ∨ mu sysModules) (q : Q (.str d.shown) H) : rRepr K [v] H Q :=
  ⟨v, mu, d, rfl, r, h.show, n, by have := h.dp; omega, h.fits, q⟩
theorem eqv_same {d : PyData} (h : d.canLay0 = true) : PyData.eqv d d = true := SeqAt.eqv_refl d h
theorem lay_strs : ∀ {xs : List Str}, (∀ z ∈ xs, PyData.strOk z = true) → PyData.canLayAll0 (xs.map PyData.str) = true ∧ PyData.depthAll (xs.map PyData.str) = 0
  | [], _ => ⟨rfl, rfl⟩
  | x :: xs, h => by
    have e1 : PyData.canLay0 (.str x) = true := by simpa only [PyData.canLay0] using h x List.mem_cons_self
    have e2 := lay_strs fun z hz => h z (List.mem_cons_of_mem _ hz)
    simp only [List.map_cons, PyData.canLayAll0, PyData.depthAll, e1, e2.1, e2.2, PyData.depth, Bool.and_self, Nat.max_self, and_self]
theorem shaped_strs {xs : List Str} (h : ∀ z ∈ xs, PyData.strOk z = true) : SeqAt.shaped (.list (xs.map PyData.str)) = true := by
  have e := lay_strs h
  unfold SeqAt.shaped
  simp only [PyData.canLay0, PyData.depth, e.1, e.2, Bool.true_and]
  decide
/-! ### short words for tests -/
theorem iteNe {A B : Prop} {i j : Int} (h1 : i ≠ j → A) (h2 : i = j → B) : if (!decide (V.int i = V.int j)) = true then A else B := by
  by_cases e : i = j
  · have z : (!decide (V.int i = V.int j)) = false := by rw [e, decide_eq_true rfl]; rfl
    rw [z]
    exact iteF (h2 e)
  · have z : (!decide (V.int i = V.int j)) = true := by rw [decide_eq_false fun q => e (V.int.inj q)]; rfl
    rw [z]
    exact iteT (h1 e)
theorem iteEq {A B : Prop} {i j : Int} (h1 : i = j → A) (h2 : i ≠ j → B) : if decide (V.int i = V.int j) = true then A else B := by
  by_cases e : i = j
  · rw [e, decide_eq_true rfl]
    exact iteT (h1 e)
  · rw [decide_eq_false fun q => e (V.int.inj q)]
    exact iteF (h2 e)
theorem iteP {A B : Prop} {p : Prop} [Decidable p] (h1 : p → A) (h2 : ¬ p → B) : if decide p = true then A else B := by
  by_cases e : p
  · rw [decide_eq_true e]
    exact iteT (h1 e)
  · rw [decide_eq_false e]
    exact iteF (h2 e)
theorem iteB {A B : Prop} {b : Bool} (h1 : b = true → A) (h2 : b = false → B) : if b = true then A else B := by
  cases b with
  | true => exact iteT (h1 rfl)
  | false => exact iteF (h2 rfl)
theorem iteN {A B : Prop} {b : Bool} (h1 : b = false → A) (h2 : b = true → B) : if (!b) = true then A else B := by
  cases b with
  | true => exact iteF (h2 rfl)
  | false => exact iteT (h1 rfl)
theorem dec_int (i j : Int) : decide (V.int i = V.int j) = decide (i = j) := by
  rw [decide_eq_decide]
  exact ⟨V.int.inj, fun e => by rw [e]⟩
theorem okA_mem : ∀ {ds : List PyData} {d : PyData}, okA ds = true → d ∈ ds → okD d = true
  | x :: xs, d, h, m => by
    have h' : okD x = true ∧ okA xs = true := by simpa only [okA, Bool.and_eq_true] using h
    rcases List.mem_cons.mp m with rfl | m
    · exact h'.1
    · exact okA_mem h'.2 m
theorem depthAll_mem : ∀ {ds : List PyData} {d : PyData}, d ∈ ds → d.depth ≤ PyData.depthAll ds
  | x :: xs, d, m => by
    simp only [PyData.depthAll]
    rcases List.mem_cons.mp m with rfl | m
    · omega
    · have := depthAll_mem m
      omega
theorem weightAll_mem : ∀ {ds : List PyData} {d : PyData}, d ∈ ds → d.weight + 1 ≤ PyData.weightAll ds
  | x :: xs, d, m => by
    simp only [PyData.weightAll]
    rcases List.mem_cons.mp m with rfl | m
    · omega
    · have := weightAll_mem m
      omega
theorem Ok.inT {ds : List PyData} {d : PyData} (h : Ok (.tuple ds)) (m : d ∈ ds) : Ok d := by
  have z1 := h.dp
  have z2 := h.wt
  have z3 := h.ok
  simp only [PyData.depth] at z1
  simp only [PyData.weight] at z2
  simp only [okD] at z3
  have y1 := depthAll_mem m
  have y2 := weightAll_mem m
  exact ⟨okA_mem z3 m, by omega, by omega⟩
theorem Ok.inL {ds : List PyData} {d : PyData} (h : Ok (.list ds)) (m : d ∈ ds) : Ok d := by
  have z1 := h.dp
  have z2 := h.wt
  have z3 := h.ok
  simp only [PyData.depth] at z1
  simp only [PyData.weight] at z2
  simp only [okD] at z3
  have y1 := depthAll_mem m
  have y2 := weightAll_mem m
  exact ⟨okA_mem z3 m, by omega, by omega⟩
theorem weight_len : ∀ ds : List PyData, ds.length ≤ PyData.weightAll ds
  | [] => Nat.le_refl _
  | x :: xs => by
    have := weight_len xs
    simp only [PyData.weightAll, List.length_cons]
    omega
theorem Ok.strLen {x : Str} (h : Ok (.str x)) : x.length ≤ 27000 := by
  have := h.wt
  simp only [PyData.weight] at this
  exact this
theorem isTup (d : PyData) : isT "tuple" d = true ↔ ∃ ds, d = .tuple ds := by
  cases d <;> simp [isT, tyName]
theorem isStr (d : PyData) : isT "str" d = true ↔ ∃ x, d = .str x := by
  cases d <;> simp [isT, tyName]
theorem isLst (d : PyData) : isT "list" d = true ↔ ∃ ds, d = .list ds := by
  cases d <;> simp [isT, tyName]
theorem isIntD (d : PyData) : (isT "int" d && !isT "bool" d) = true ↔ ∃ i, d = .int i := by
  cases d <;> simp [isT, tyName]
end Sw
/-! Mathematics of names and common divisors. -/
namespace Sw
open PySem PySem.Spec PyProof.Rows L2

def low (c : Nat) : Bool := decide (97 ≤ c ∧ c ≤ 122)
theorem low_tab : ∀ c, c < 128 → (Unicode.isAlpha c && !(Unicode.isUpper c || Unicode.isTitle c)) = low c ∧ (low c = true → Unicode.isLower c = true) := by decide +kernel
theorem low_lt {c : Nat} (h : low c = true) : c < 128 := by
  have z := of_decide_eq_true h
  omega
/-- what is_name asks of a text's signs, both ways -/
theorem name_two (cs : List Nat) (h : cs ≠ []) : (cs.all (· < 128) && (cs.all Unicode.isAlpha && (cs.any Unicode.isLower && !cs.any fun c => Unicode.isUpper c || Unicode.isTitle c))) = cs.all low := by
  rw [Bool.eq_iff_iff]
  constructor
  · intro z
    simp only [Bool.and_eq_true, List.all_eq_true, decide_eq_true_eq, Bool.not_eq_true', List.any_eq_false] at z
    obtain ⟨z1, z2, z3, z4⟩ := z
    rw [List.all_eq_true]
    intro c hc
    have e := (low_tab c (z1 c hc)).1
    rw [← e, z2 c hc]
    simpa using z4 c hc
  · intro z
    rw [List.all_eq_true] at z
    have key : ∀ c ∈ cs, c < 128 ∧ Unicode.isAlpha c = true ∧ (Unicode.isUpper c || Unicode.isTitle c) = false ∧ Unicode.isLower c = true := fun c hc => by
      have l := low_lt (z c hc)
      have e := low_tab c l
      rw [z c hc] at e
      have e1 := e.1
      rw [Bool.and_eq_true, Bool.not_eq_true'] at e1
      exact ⟨l, e1.1, e1.2, e.2 rfl⟩
    simp only [Bool.and_eq_true, List.all_eq_true, decide_eq_true_eq, Bool.not_eq_true', List.any_eq_false, List.any_eq_true]
    obtain ⟨c, hc⟩ := List.exists_mem_of_ne_nil cs h
    exact ⟨fun c hc => (key c hc).1, fun c hc => (key c hc).2.1, ⟨c, hc, (key c hc).2.2.2⟩, fun c hc => by simpa using (key c hc).2.2.1⟩
/-- a NAME's text -/
def nameS (x : Str) : Bool := decide (1 ≤ x.length) && decide (x.length ≤ 12) && x.cps.toList.all low
theorem name_txt (x : Str) (h : 1 ≤ x.length) : (Txt.isascii x && (Txt.isalpha x && Txt.islower x)) = x.cps.toList.all low := by
  have hl : x.cps.toList ≠ [] := fun z => by
    have e : x.length = x.cps.toList.length := rfl
    rw [z] at e
    simp at e
    omega
  have e := name_two x.cps.toList hl
  rw [← e]
  unfold Txt.isascii Txt.isalpha Txt.islower
  have h2 : decide (x.length > 0) = true := decide_eq_true h
  rw [h2, Bool.true_and, ← Array.all_toList, ← Array.all_toList, ← Array.any_toList, ← Array.any_toList]
def az : Str := "abcdefghijklmnopqrstuvwxyz"
theorem az_mem (c : Nat) : decide (c ∈ az.cps.toList) = low c := by
  have h : az.cps.toList = (List.range 26).map (· + 97) := by decide +kernel
  rw [h]
  unfold low
  rw [decide_eq_decide]
  simp only [List.mem_map, List.mem_range]
  constructor
  · rintro ⟨i, hi, rfl⟩
    omega
  · intro z
    exact ⟨c - 97, by omega, by omega⟩

/-! ### the common divisor by rests -/
theorem gcd_step (a b : Nat) : Nat.gcd b (a % b) = Nat.gcd a b := by
  rw [Nat.gcd_comm a b, Nat.gcd_rec b a, Nat.gcd_comm]
/-- the size of the common divisor -/
def gI (n d : Int) : Int := ((Nat.gcd n.natAbs d.natAbs : Nat) : Int)
def sh (n d : Int) : Int := if gI n d > 1 then gI n d else 1
def redI (n d : Int) : Int × Int := if d < 0 then ((-n) / sh n d, (-d) / sh n d) else (n / sh n d, d / sh n d)
theorem sh_pos (n d : Int) : 0 < sh n d := by
  unfold sh
  split <;> omega
theorem sh_eq {n d : Int} (h : d ≠ 0) : sh n d = gI n d := by
  have : 0 < Nat.gcd n.natAbs d.natAbs := Nat.gcd_pos_of_pos_right _ (by omega)
  unfold sh gI
  split <;> omega
theorem sh_le {n d : Int} (h : d ≠ 0) : (sh n d).natAbs ≤ d.natAbs := by
  rw [sh_eq h]
  unfold gI
  rw [Int.natAbs_natCast]
  exact Nat.le_of_dvd (by omega) (Nat.gcd_dvd_right _ _)
/-- small positive ones, reduced -/
theorem redI_pos {n d : Int} (hn : 0 < n) (hd : 0 < d) : 1 ≤ (redI n d).1 ∧ (redI n d).1 ≤ n ∧ 1 ≤ (redI n d).2 ∧ (redI n d).2 ≤ d ∧ gI (redI n d).1 (redI n d).2 = 1 := by
  obtain ⟨a, rfl⟩ : ∃ a : Nat, n = (a : Int) := ⟨n.toNat, by omega⟩
  obtain ⟨c, rfl⟩ : ∃ c : Nat, d = (c : Int) := ⟨d.toNat, by omega⟩
  have ha : 0 < a := by omega
  have hc : 0 < c := by omega
  have hg : 0 < Nat.gcd a c := Nat.gcd_pos_of_pos_right _ hc
  have e : redI (a : Int) (c : Int) = (((a / Nat.gcd a c : Nat) : Int), ((c / Nat.gcd a c : Nat) : Int)) := by
    unfold redI
    rw [if_neg (by omega), sh_eq (by omega)]
    unfold gI
    rw [Int.natAbs_natCast, Int.natAbs_natCast, Int.natCast_ediv, Int.natCast_ediv]
  rw [e]
  have d1 : Nat.gcd a c ≤ a := Nat.le_of_dvd ha (Nat.gcd_dvd_left a c)
  have d2 : Nat.gcd a c ≤ c := Nat.le_of_dvd hc (Nat.gcd_dvd_right a c)
  have p1 : 0 < a / Nat.gcd a c := Nat.div_pos d1 hg
  have p2 : 0 < c / Nat.gcd a c := Nat.div_pos d2 hg
  have p3 : a / Nat.gcd a c ≤ a := Nat.div_le_self _ _
  have p4 : c / Nat.gcd a c ≤ c := Nat.div_le_self _ _
  have p5 : Nat.gcd (a / Nat.gcd a c) (c / Nat.gcd a c) = 1 := Nat.coprime_div_gcd_div_gcd hg
  refine ⟨by show (1 : Int) ≤ ((a / Nat.gcd a c : Nat) : Int); omega, by show ((a / Nat.gcd a c : Nat) : Int) ≤ _; omega, by show (1 : Int) ≤ ((c / Nat.gcd a c : Nat) : Int); omega, by show ((c / Nat.gcd a c : Nat) : Int) ≤ _; omega, ?_⟩
  unfold gI
  show ((Nat.gcd (((a / Nat.gcd a c : Nat) : Int)).natAbs (((c / Nat.gcd a c : Nat) : Int)).natAbs : Nat) : Int) = 1
  rw [Int.natAbs_natCast, Int.natAbs_natCast, p5]
  rfl

/-! ### the bag of draws -/
/-- the bag at b: what is left of a great cell, the stirred number, how many cells were taken, the cells -/
def BagAt (H : Hp) (b : Addr) : Prop := ∃ (x y z : Int) (l : Addr) (cs : List Int), H b = some (.lst [.int x, .int y, .int z, .ref l]) ∧ H l = some (.lst (cs.map V.int)) ∧ l ≠ b ∧ 0 ≤ x ∧ 0 ≤ y ∧ y < 2147483647 ∧ 0 ≤ z ∧ cs.length ≤ 63 ∧ ∀ c ∈ cs, 0 ≤ c
/-- its cells lie at l -/
def BagL (H : Hp) (b l : Addr) : Prop := ∃ x y z : Int, H b = some (.lst [.int x, .int y, .int z, .ref l])
theorem BagL.eq {H : Hp} {b l k : Addr} {x y z : Int} (h : BagL H b l) (e : H b = some (.lst [.int x, .int y, .int z, .ref k])) : l = k := by
  obtain ⟨x', y', z', e'⟩ := h
  rw [e] at e'
  cases e'
  rfl
/-- the bag alone has changed -/
structure Rel (b : Addr) (H H' : Hp) : Prop where
  keep : ∀ a o, a ≠ b → H a = some o → H' a = some o
  cell : ∀ l, BagL H b l → BagL H' b l
  bag : BagAt H' b
theorem Rel.refl {b : Addr} {H : Hp} (h : BagAt H b) : Rel b H H := ⟨fun _ _ _ e => e, fun _ h => h, h⟩
theorem Rel.trans {b : Addr} {H H1 H2 : Hp} (r : Rel b H H1) (s : Rel b H1 H2) : Rel b H H2 := ⟨fun a o n e => s.keep a o n (r.keep a o n e), fun l h => s.cell l (r.cell l h), s.bag⟩
theorem BagAt.same {b : Addr} {H H' : Hp} (h : BagAt H b) (s : Same H H') : BagAt H' b := by
  obtain ⟨x, y, z, l, cs, h1, h2, r⟩ := h
  exact ⟨x, y, z, l, cs, s _ _ h1, s _ _ h2, r⟩
theorem BagL.same {b l : Addr} {H H' : Hp} (h : BagL H b l) (s : Same H H') : BagL H' b l := by
  obtain ⟨x, y, z, e⟩ := h
  exact ⟨x, y, z, s _ _ e⟩
theorem Rel.same {b : Addr} {H H1 H2 : Hp} (r : Rel b H H1) (s : Same H1 H2) : Rel b H H2 := ⟨fun a o n e => s a o (r.keep a o n e), fun l h => (r.cell l h).same s, r.bag.same s⟩
theorem Rel.of_same {b : Addr} {H H1 : Hp} (h : BagAt H b) (s : Same H H1) : Rel b H H1 := ⟨fun a o n e => s a o e, fun l h => h.same s, h.same s⟩
theorem Rel.fut {b : Addr} {mu : Addr → Prop} {H H' : Hp} (r : Rel b H H') (h : mu b) (hb : BagAt H b) : Fut mu H H' := fun a o e z => r.keep a o (fun q => by
  rcases z with z | z | z
  · exact z (by rw [q]; exact h)
  · obtain ⟨x, y, z', l, cs, h1, _⟩ := hb
    obtain ⟨xs, rfl⟩ := z
    rw [q, h1] at e
    cases e
  · obtain ⟨x, y, z', l, cs, h1, _⟩ := hb
    obtain ⟨ob, u, rfl⟩ := z
    rw [q, h1] at e
    cases e) e
theorem Rel.some {b : Addr} {H H' : Hp} (r : Rel b H H') {a : Addr} (h : H' a = Option.none) : H a = Option.none := by
  by_cases e : a = b
  · obtain ⟨x, y, z', l, cs, h1, _⟩ := r.bag
    rw [e, h1] at h
    cases h
  · cases q : H a with
    | none => rfl
    | some o =>
      rw [r.keep a o e q] at h
      cases h
theorem same_upd {H : Hp} {p : Addr} {o : HO} (h : H p = Option.none) : Same H (upd H p o) := fun b x e => by
  rw [upd_ne (ne_of_none e h)]
  exact e
theorem cut_mem {xs : List V} {lo hi : Option Int} {v : V} (h : v ∈ cutV xs lo hi) : v ∈ xs := by
  unfold cutV at h
  exact List.mem_of_mem_drop (List.mem_of_mem_take h)
theorem cut_len (xs : List V) (lo hi : Option Int) : (cutV xs lo hi).length ≤ xs.length := by
  unfold cutV
  rw [List.length_take, List.length_drop]
  omega
theorem head_cell {cs : List Int} (h : ∀ c ∈ cs, 0 ≤ c) (lo hi : Option Int) : ∃ c : Int, 0 ≤ c ∧ (cutV (cs.map V.int) lo hi ++ [V.int 0])[0]? = some (.int c) := by
  cases e : cutV (cs.map V.int) lo hi with
  | nil => exact ⟨0, Int.le_refl _, rfl⟩
  | cons v r =>
    have m : v ∈ cutV (cs.map V.int) lo hi := by
      rw [e]
      exact List.mem_cons_self
    obtain ⟨c, hc, rfl⟩ := List.mem_map.mp (cut_mem m)
    exact ⟨c, h c hc, rfl⟩
/-- a drawn integer from 0 to many less 1 -/
def spTake : Sp := fun vs H Q _ => ∃ (b : Addr) (many : Int), vs = [.ref b, .int many] ∧ BagAt H b ∧ 0 < many ∧ many < 1073741824 ∧ ∀ v H', 0 ≤ v → v < many → Rel b H H' → Q (.int v) H'
end Sw
/-! What an expression that draws from the bag gives as a datum (Ge exactly, Gv by a word of it). -/
namespace Sw
open PySem PySem.Spec PyProof.Rows L2

def tLstN (t : TA) : TE := fun σ H Q => t σ H fun xs H1 => xs.length ≤ sizeLine ∧ ∀ p, H1 p = none → p ≠ sysModules → Q (.ref p) (upd H1 p (.lst xs))
/-- a list display: its place is new, and not that of sys.modules -/
theorem pe_lstN {X : Cx} {es : List Expr} {t : TA} {pos : Pos} (h : PA X es t) : PE X (.List es pos) (tLstN t) :=
  ⟨fun pins s σ H Q I hq => wpAny_List_spliced (thn (h.run pos pins s σ H _ I hq) fun us s1 g => by
    obtain ⟨xs, H1, I1, r, z, q⟩ := g
    exact ⟨by rw [← r.length]; exact z, .ref s1.heap.objs.size, upd H1 s1.heap.objs.size (.lst xs), I1.laid (t' := s1.toks) (fun b u e => Heap.get?_push_of_some _ e) (Nat.le_refl _) ⟨z, us, 0, r, Heap.get?_push_size _ rfl⟩, rfl,
      q _ (I1.hok.fresh (Nat.le_refl _)) (Nat.ne_of_gt I1.big)⟩)⟩
def tDNewN : TE := fun _ H Q => ∀ p, H p = none → p ≠ sysModules → Q (.ref p) (upd H p (.dK []))
theorem pe_dnewN {X : Cx} {pos : Pos} : PE X (.Dict [] [] pos) tDNewN := ⟨fun pins s σ H Q I h =>
  wpAny_Dict_empty ⟨.ref s.heap.objs.size, _, I.laid (a := s.heap.objs.size) (o := .dK []) (t' := s.toks) (fun _ _ q => Heap.get?_push_of_some _ q) (Nat.le_refl _) (dk_empty s.heap I.big), rfl, h _ (I.hok.fresh (Nat.le_refl _)) (Nat.ne_of_gt I.big)⟩⟩
/-- what may change is tracked (or sys.modules) -/
def MuOk (mu : Addr → Prop) (H : Hp) : Prop := ∀ a, mu a → H a ≠ none ∨ a = sysModules
theorem MuOk.rel {mu : Addr → Prop} {b : Addr} {H H' : Hp} (m : MuOk mu H) (r : Rel b H H') : MuOk mu H' := fun a h => by
  rcases m a h with z | z
  · refine .inl fun e => z (r.some e)
  · exact .inr z
theorem MuOk.same {mu : Addr → Prop} {H H' : Hp} (m : MuOk mu H) (s : Same H H') : MuOk mu H' := fun a h => by
  rcases m a h with z | z
  · exact .inl fun e => z (s.free e)
  · exact .inr z
theorem MuOk.new {mu : Addr → Prop} {H : Hp} (m : MuOk mu H) {p : Addr} (n : H p = none) (s : p ≠ sysModules) : ¬ mu p := fun h => (m p h).elim (fun z => z n) s
theorem MuOk.bag {H : Hp} {b : Addr} (h : BagAt H b) : MuOk (fun a => a = b ∨ a = sysModules) H := fun a z => by
  rcases z with rfl | z
  · obtain ⟨x, y, z, l, cs, h1, _⟩ := h
    exact .inl (by rw [h1]; exact fun z => nomatch z)
  · exact .inr z

/-- a list may be changed -/
def Own (H : Hp) (v : V) (d : PyData) : Prop := (∀ ds, d = .list ds → ∃ a xs, v = .ref a ∧ H a = some (.lst xs)) ∧ (d = .dict [] → ∃ a, v = .ref a ∧ H a = some (.dK []))
theorem Own.fut {K : PySem.W.Frag} {mu : Addr → Prop} {H H' : Hp} {v : V} {d : PyData} (o : Own H v d) (h : Dt K mu H v d) (f : Fut mu H H') : Own H' v d := ⟨fun ds e => by
  subst e
  obtain ⟨a, xs, rfl, e⟩ := o.1 ds rfl
  obtain ⟨a', _, e2, n, _, _⟩ := h.lstAt
  cases e2
  exact ⟨a, xs, rfl, f a _ e (.inl n)⟩, fun e => by
  subst e
  obtain ⟨a, rfl, e⟩ := o.2 rfl
  cases h with
  | dct n _ _ => exact ⟨a, rfl, f a _ e (.inl n)⟩⟩
theorem own_not {H : Hp} {v : V} {d : PyData} (h : ∀ ds, d ≠ .list ds) (h2 : d ≠ .dict [] := by intro z; cases z) : Own H v d := ⟨fun ds e => absurd e (h ds), fun e => absurd e h2⟩
/-- .. all of them -/
def OwnA (H : Hp) (vs : List V) (ds : List PyData) : Prop := ∀ (i : Nat) (v : V) (d : PyData), vs[i]? = some v → ds[i]? = some d → Own H v d
theorem OwnA.nil {H : Hp} {ds : List PyData} : OwnA H [] ds := fun i v d e => by simp at e
theorem OwnA.cons {H : Hp} {v : V} {vs : List V} {d : PyData} {ds : List PyData} (h : Own H v d) (t : OwnA H vs ds) : OwnA H (v :: vs) (d :: ds) := fun i x y e1 e2 => by
  cases i with
  | zero =>
    cases e1
    cases e2
    exact h
  | succ i => exact t i x y (by simpa using e1) (by simpa using e2)
section
variable (K : PySem.W.Frag) (b : Addr) (mu : Addr → Prop) (σ : L2.St) (H0 : Hp)
/-- the expression gives the datum d -/
def Ge (te : TE) (d : PyData) : Prop := ∀ H, Rel b H0 H → MuOk mu H → ∀ Q : VK, (∀ v H', Rel b H H' → Dt K mu H' v d → Q v H') → te σ H Q
/-- .. a datum of which D holds -/
def Gv (te : TE) (D : PyData → Prop) : Prop := ∀ H, Rel b H0 H → MuOk mu H → ∀ Q : VK, (∀ v H' d, D d → Rel b H H' → Dt K mu H' v d → Own H' v d → Q v H') → te σ H Q
def GeA (ta : TA) (ds : List PyData) : Prop := ∀ H, Rel b H0 H → MuOk mu H → ∀ Q : List V → Hp → Prop, (∀ vs H', Rel b H H' → DtA K mu H' vs ds → Q vs H') → ta σ H Q
def GvA (ta : TA) (D : PyData → Prop) (n : Nat) : Prop := ∀ H, Rel b H0 H → MuOk mu H → ∀ Q : List V → Hp → Prop, (∀ vs H' ds, ds.length = n → (∀ d ∈ ds, D d) → Rel b H H' → DtA K mu H' vs ds → OwnA H' vs ds → Q vs H') → ta σ H Q
end
section
variable {K : PySem.W.Frag} {b : Addr} {mu : Addr → Prop} {σ : L2.St} {H0 : Hp} {te : TE} {ta tr : TA} {d : PyData} {ds : List PyData} {D : PyData → Prop} {n : Nat}
theorem Ge.gv (h : Ge K b mu σ H0 te d) (hd : D d) (hn : ∀ ds, d ≠ .list ds := by intro _ z; cases z) (hn2 : d ≠ .dict [] := by intro z; cases z) : Gv K b mu σ H0 te D := fun H hb m Q q => h H hb m Q fun v H' r e => q v H' d hd r e (own_not hn hn2)
theorem gv_lst (hm : mu b) (h : GeA K b mu σ H0 ta ds) (hl : ds.length ≤ 1000) (hd : D (.list ds)) : Gv K b mu σ H0 (tLstN ta) D := fun H hb m Q q =>
  h H hb m _ fun vs H1 r e => ⟨Nat.le_of_lt (small1000 (by rw [e.length]; exact hl)), fun p np ns => q _ _ _ hd (r.same (same_upd np)) (.lst ((m.rel r).new np ns) (.inl upd_same) (e.fut (.of_same (same_upd np)))) ⟨fun _ _ => ⟨p, vs, rfl, upd_same⟩, fun z => nomatch z⟩⟩
theorem ge_int {i : Int} : Ge K b mu σ H0 (tC (.int i)) (.int i) := fun H hb _ _ q => q _ H (.refl hb.bag) (.int i)
theorem ge_bl {i : Bool} : Ge K b mu σ H0 (tC (.bl i)) (.bool i) := fun H hb _ _ q => q _ H (.refl hb.bag) (.bl i)
theorem ge_str {i : Str} : Ge K b mu σ H0 (tC (.str i)) (.str i) := fun H hb _ _ q => q _ H (.refl hb.bag) (.str i)
theorem ge_non : Ge K b mu σ H0 (tC .non) .none := fun H hb _ _ q => q _ H (.refl hb.bag) .non
theorem ge_neg {i : Int} : Ge K b mu σ H0 (tUn (rU fun i => .int (-i)) (tC (.int i))) (.int (-i)) := fun H hb _ _ q => ⟨i, rfl, q _ H (.refl hb.bag) (.int _)⟩
theorem geA_nil : GeA K b mu σ H0 tNil [] := fun H hb _ _ q => q _ H (.refl hb.bag) .nil
theorem geA_cons (hm : mu b) (h : Ge K b mu σ H0 te d) (t : GeA K b mu σ H0 tr ds) : GeA K b mu σ H0 (tCons te tr) (d :: ds) := fun H hb m _ q =>
  h H hb m _ fun v H1 r1 e1 => t H1 (hb.trans r1) (m.rel r1) _ fun vs H2 r2 e2 => q _ H2 (r1.trans r2) (.cons (e1.fut (r2.fut hm r1.bag)) e2)
theorem gvA_nil : GvA K b mu σ H0 tNil D 0 := fun H hb _ _ q => q _ H [] rfl (fun _ z => nomatch z) (.refl hb.bag) .nil .nil
theorem gvA_cons (hm : mu b) (h : Gv K b mu σ H0 te D) (t : GvA K b mu σ H0 tr D n) : GvA K b mu σ H0 (tCons te tr) D (n + 1) := fun H hb m _ q =>
  h H hb m _ fun v H1 d hd r1 e1 o1 => t H1 (hb.trans r1) (m.rel r1) _ fun vs H2 ds hl hds r2 e2 o2 => q _ H2 (d :: ds) (by rw [List.length_cons, hl]) (fun x z => by
    rcases List.mem_cons.mp z with rfl | z
    · exact hd
    · exact hds x z) (r1.trans r2) (.cons (e1.fut (r2.fut hm r1.bag)) e2) (.cons (o1.fut e1 (r2.fut hm r1.bag)) o2)
theorem ge_tup (hm : mu b) (h : GeA K b mu σ H0 ta ds) (hl : ds.length ≤ 1000) : Ge K b mu σ H0 (tTup ta) (.tuple ds) := fun H hb m _ q =>
  h H hb m _ fun vs H1 r e => ⟨Nat.le_of_lt (small1000 (by rw [e.length]; exact hl)), fun p np => q _ _ (r.same (same_upd np)) (.tup (.inl upd_same) (e.fut (.of_same (same_upd np))))⟩
theorem ge_lst (hm : mu b) (h : GeA K b mu σ H0 ta ds) (hl : ds.length ≤ 1000) : Ge K b mu σ H0 (tLstN ta) (.list ds) := fun H hb m _ q =>
  h H hb m _ fun vs H1 r e => ⟨Nat.le_of_lt (small1000 (by rw [e.length]; exact hl)), fun p np ns => q _ _ (r.same (same_upd np)) (.lst ((m.rel r).new np ns) (.inl upd_same) (e.fut (.of_same (same_upd np))))⟩
end
theorem gv_dict {K : PySem.W.Frag} {b : Addr} {mu : Addr → Prop} {σ : L2.St} {H0 : Hp} {D : PyData → Prop} (hd : D (.dict [])) : Gv K b mu σ H0 tDNewN D := fun H hb m Q q =>
  fun p np ns => q _ _ _ hd (Rel.of_same hb.bag (same_upd np)) (.dct (m.new np ns) (.inl upd_same) .nil) ⟨(fun _ z => nomatch z), fun _ => ⟨p, rfl, upd_same⟩⟩
/-- a menu of drawn things: t is a list, one of its items comes back -/
def spSome : Sp := fun vs H Q _ => ∃ (b t : Addr) (xs : List V), vs = [.ref b, .ref t] ∧ BagAt H b ∧ t ≠ b ∧ H t = some (.lst xs) ∧ 0 < xs.length ∧ xs.length ≤ 1000 ∧ ∀ (i : Nat) v H', xs[i]? = some v → Rel b H H' → Q v H'
/-- a menu is asked -/
theorem gv_some {K : PySem.W.Frag} {b : Addr} {mu : Addr → Prop} {σ : L2.St} {H0 : Hp} {ta : TA} {D : PyData → Prop} {n i : Nat} (hm : mu b) (hσ : σ[i]? = some (some (.ref b))) (h : GvA K b mu σ H0 ta D n) (h0 : 0 < n) (h1 : n ≤ 1000) :
    Gv K b mu σ H0 (tCall spSome [] E0 (tCons (tVar i) (tCons (tLst ta) tNil))) D := fun H hb m Q q => by
  refine ⟨_, hσ, h H hb m _ fun vs H1 ds hl hD r e oo => ?_⟩
  have hv : vs.length = n := e.length.trans hl
  refine ⟨Nat.le_of_lt (small1000 (by omega)), fun p np => ?_⟩
  have nb : p ≠ b := fun z => by
    obtain ⟨x, y, z', l, cs, h1, _⟩ := r.bag
    rw [z, h1] at np
    cases np
  refine ⟨b, p, vs, rfl, r.bag.same (same_upd np), nb, upd_same, by omega, by omega, fun j v H2 hj r2 => ?_⟩
  obtain ⟨d, hd, ed⟩ := e.get hj
  have o1 := (oo j v d hj hd).fut ed (.of_same (same_upd (o := .lst vs) np))
  have r3 := r.same (same_upd (o := .lst vs) np)
  exact q v H2 d (hD d (List.mem_of_getElem? hd)) (r3.trans r2) ((ed.fut (.of_same (same_upd np))).fut (r2.fut hm r3.bag)) (o1.fut (ed.fut (.of_same (same_upd np))) (r2.fut hm r3.bag))
theorem gv_var {K : PySem.W.Frag} {b : Addr} {mu : Addr → Prop} {σ : L2.St} {H0 : Hp} {i : Nat} {v : V} {d : PyData} {D : PyData → Prop} (hm : mu b) (hb : BagAt H0 b) (hσ : σ[i]? = some (some v)) (h : Dt K mu H0 v d) (o : Own H0 v d) (hd : D d) : Gv K b mu σ H0 (tVar i) D := fun H r m Q q =>
  ⟨v, hσ, q v H d hd (.refl r.bag) (h.fut (r.fut hm hb)) (o.fut h (r.fut hm hb))⟩
/-- a menu that lies ready -/
theorem gv_someV {K : PySem.W.Frag} {b : Addr} {mu : Addr → Prop} {σ : L2.St} {H0 : Hp} {D : PyData → Prop} {i j : Nat} {t : Addr} {xs : List V} {ds : List PyData} (hm : mu b) (hb : BagAt H0 b) (hσ : σ[i]? = some (some (.ref b))) (hτ : σ[j]? = some (some (.ref t))) (ht : H0 t = some (.lst xs)) (nt : t ≠ b)
    (e : DtA K mu H0 xs ds) (o : OwnA H0 xs ds) (hD : ∀ d ∈ ds, D d) (h0 : 0 < ds.length) (h1 : ds.length ≤ 1000) : Gv K b mu σ H0 (tCall spSome [] E0 (tCons (tVar i) (tCons (tVar j) tNil))) D := fun H r m Q q => by
  have hv : xs.length = ds.length := e.length
  refine ⟨_, hσ, _, hτ, b, t, xs, rfl, r.bag, nt, r.keep _ _ nt ht, by omega, by omega, fun k v H2 hk r2 => ?_⟩
  obtain ⟨d, hd, ed⟩ := e.get hk
  have f := (r.trans r2).fut hm hb
  exact q v H2 d (hD d (List.mem_of_getElem? hd)) r2 (ed.fut f) ((o k v d hk hd).fut ed f)
/-- a def over the bag (and further arguments) gives a datum of which D holds -/
def spG (K : PySem.W.Frag) (as : List V) (D : PyData → Prop) : Sp := fun vs H Q _ => ∃ (b : Addr) (mu : Addr → Prop), vs = .ref b :: as ∧ mu b ∧ BagAt H b ∧ MuOk mu H ∧ ∀ v H' d, D d → Rel b H H' → Dt K mu H' v d → Own H' v d → Q v H'
/-- a drawn FRACTION above 0 -/
def NumP (n m : Int) : Prop := 1 ≤ n ∧ n ≤ 1000000000000 ∧ 1 ≤ m ∧ m ≤ 1000000000000 ∧ gI n m = 1
def NumD (d : PyData) : Prop := ∃ n m, d = .tuple [.int n, .int m] ∧ NumP n m
def spNum (K : PySem.W.Frag) : Sp := fun vs H Q E => ∃ most : Int, 0 < most ∧ most ≤ 100000000 ∧ spG K [.int most] NumD vs H Q E
theorem ge_num {K : PySem.W.Frag} {b : Addr} {mu : Addr → Prop} {σ : L2.St} {H0 : Hp} {i : Nat} {n : Int} (hm : mu b) (hσ : σ[i]? = some (some (.ref b))) (h0 : 0 < n) (h1 : n ≤ 100000000) :
    Gv K b mu σ H0 (tCall (spNum K) [] E0 (tCons (tVar i) (tCons (tC (.int n)) tNil))) NumD := fun H hb m Q q =>
  ⟨_, hσ, n, h0, h1, b, mu, rfl, hm, hb.bag, m, q⟩
theorem numD {n m : Int} (h : NumP n m) : NumD (.tuple [.int n, .int m]) := ⟨n, m, rfl, h⟩
theorem int_pow {n : Int} (h1 : 1 ≤ n) (h2 : n ≤ 1000000000000) : n.natAbs < 10 ^ 500 := by
  have e : (1000000000000 : Nat) < 10 ^ 500 := by decide +kernel
  omega
theorem NumD.not {H : Hp} {v : V} {d : PyData} (h : NumD d) : Own H v d := by
  obtain ⟨n, m, rfl, _⟩ := h
  exact own_not fun _ z => nomatch z
theorem numD_ok {d : PyData} (h : NumD d) : Ok d ∧ d.hasDict = false ∧ d.weight ≤ 202 ∧ d.depth = 1 := by
  obtain ⟨n, m, rfl, h1, h2, h3, h4, _⟩ := h
  have w : ∀ i : Int, 1 ≤ i → i ≤ 1000000000000 → (PyData.int i).weight ≤ 100 := fun i a b => by
    have hz : i.natAbs ≠ 0 := by omega
    have e : i.natAbs.log2 < 40 := (Nat.log2_lt hz).mpr (by omega)
    simp only [PyData.weight]
    split <;> omega
  have w1 := w n h1 h2
  have w2 := w m h3 h4
  have e1 : (PyData.tuple [.int n, .int m]).weight ≤ 202 := by
    simp only [PyData.weight, PyData.weightAll] at w1 w2 ⊢
    omega
  have e2 : (PyData.tuple [.int n, .int m]).depth = 1 := by
    simp [PyData.depth, PyData.depthAll]
  refine ⟨⟨?_, by rw [e2]; decide, by omega⟩, by simp [PyData.hasDict, PyData.hasDictAll], e1, e2⟩
  simp only [okD, okA, Bool.and_true, Bool.and_eq_true, decide_eq_true_eq]
  exact ⟨int_pow h1 h2, int_pow h3 h4⟩
end Sw
/-! Own exceptions as values: made by their own __init__, fields read, classes asked. -/
namespace Sw
open PySem PySem.Spec PyProof.Rows L2

/-- C(e, ..), an error as a value -/
def tMkV (C : Addr) (sp : Sp) (ta : TA) : TE := fun σ H Q => ta σ H fun vs H1 => vs.length ≤ 1000 ∧ ∀ a, H1 a = none → sp (.ref a :: vs) (upd H1 a (exo a C none)) (fun v H2 => v = .non ∧ Q (.ref a) H2) E0
theorem pe_exV {X : Cx} {x : Str} {C fI : Addr} {k : Nat} {fd : FuncData} {ps : List Str} {sp : Sp} {e : Expr} {es : List Expr} {ta : TA} {p pos : Pos} (T : OexC X.K C) (iC : PySem.W.findIn X.K (.ref C) "__init__" = some (some (.ref fI))) (tI : PySem.W.typeIn X.K (.ref fI) = some (.type "function"))
    (F1 : FnG X.prog X.w X.K X.mg X.base k fI fd ps sp) (g : Gd X.A) (hr : Room (k + 1) X.A) (hb : Binds X.K fd ps []) (hg : Gl X x) (hm : X.mg x = some (.ref C)) (ha : PA X (e :: es) ta)
    (hdb : (x == ("__debug__" : Str)) = false := by decide) (he : starEach (e :: es) X.env = (false, eval e X.env) :: starEach es X.env := by rfl) (hpl : (backTo pos (starEach es X.env)).any (·.1) = false := by rfl) :
    PE X (.Call (.Name x p) (e :: es) [] pos) (tMkV C sp ta) := by
  refine ⟨fun pins s σ H Q I h => ?_⟩
  obtain ⟨nm, q, N, bs, bm, sn, sub, ab, col, dd, k0, k1, k2, k3, k5, hC, hbm⟩ := T.cls
  refine wpAny_Call_Name_kw (ld_glob I hg hm ?_ hdb)
  refine PySem.W.callWith_K (h₀ := X.base) I.ok.mod.kin T.kC (thn (ha.run pos pins s σ H _ I h) fun us s1 ⟨vs, H1, I1, r1, hz, q1⟩ => ⟨I1.kIn, ?_⟩) he hpl
  show wpAny _ _ (call (.ref C) us) _ _ _
  obtain ⟨hp, g1, dr, tk, os⟩ := s1
  have hsz : hp.objs.size ≤ hp.objs.size + 1 := Nat.le_succ _
  have hn : H1 (hp.objs.size + 1) = none := I1.hok.fresh hsz
  have hq := q1 (hp.objs.size + 1) hn
  have kk : ∀ b o, hp.get? b = some o → ((hp.push (PySem.W.kdv_tup us)).push (PySem.HandSPX.excO C hp.objs.size)).get? b = some o := fun b o e => Heap.get?_push_of_some _ (Heap.get?_push_of_some _ e)
  have hget : ((hp.push (PySem.W.kdv_tup us)).push (PySem.HandSPX.excO C hp.objs.size)).get? (hp.objs.size + 1) = some (PySem.HandSPX.excO C hp.objs.size) := by heap_get
  have I2 : Inv X pins σ (upd H1 (hp.objs.size + 1) (exo (hp.objs.size + 1) C none)) ⟨(hp.push (PySem.W.kdv_tup us)).push (PySem.HandSPX.excO C hp.objs.size), g1, dr, tk, os⟩ :=
    I1.laid (t' := tk) (a := hp.objs.size + 1) (o := exo (hp.objs.size + 1) C none) (h' := (hp.push (PySem.W.kdv_tup us)).push (PySem.HandSPX.excO C hp.objs.size)) kk hsz (exo_ok hget)
  have r2 : Vals (V.ref (hp.objs.size + 1) :: vs) (Value.ref (hp.objs.size + 1) :: us) := .cons rfl r1
  have hl : (Value.ref (hp.objs.size + 1) :: us).length = ps.length := r2.length.symm.trans (F1.len _ _ _ _ hq)
  have hus : us.length ≤ sizeLine := by
    rw [← Paired.length r1, sizeLine_eq]
    omega
  have hbb := hb ⟨(hp.push (PySem.W.kdv_tup us)).push (PySem.HandSPX.excO C hp.objs.size), g1, dr, tk, os⟩ (Value.ref (hp.objs.size + 1) :: us) I2.kIn (by simpa using hl)
  rw [List.append_nil] at hbb
  refine wpAny_call (PySem.HandSPX.call_own F.excBase_ValueError (fun Y => PySem.HandSPX.refsVE_contains Y bm hbm) (I1.kIn _ _ hC) (PySem.W.looks_findIn I1.kIn iC) (fun self => PySem.W.bind_fn I1.kIn self tI) hus
    (codeAny_mono (F1.go (Gd.make g C us []) (hr.make C us []) (I2.env0.make C us []) hbb r2 hq) fun r s' hq' => ?_))
  match r, hq' with
  | .ok (.ret u), hq' =>
    obtain ⟨v, H2, I3, rv, ev, q2⟩ := I2.after hq'
    subst ev
    exact ⟨rv, .ref (hp.objs.size + 1), H2, I3, rfl, q2⟩
/-- C(), C without an own __init__ -/
def tMk0 (C : Addr) : TE := fun σ H Q => ∀ a, H a = none → Q (.ref a) (upd H a (exo a C none))
theorem pe_ex0 {X : Cx} {C : Addr} {bmB : List Value} {B newId initId : String} {x : Str} {p pos : Pos} (F : ExcBaseFacts B newId initId bmB) (q : PySem.W.excIn X.K C bmB newId = true) (gC : X.mg x = some (.ref C)) (kC : PySem.W.keepIn X.K (.ref C) = true) (hg : Gl X x)
    (hdb : (x == ("__debug__" : Str)) = false := by decide) :
    PE X (.Call (.Name x p) [] [] pos) (tMk0 C) := by
  refine ⟨fun pins s σ H Q I h => ?_⟩
  refine wpAny_Call_Name_kw (ld_glob I hg gC (PySem.W.callWith_K0 I.kIn kC ?_) hdb)
  obtain ⟨bm, N, nm, qn, bs, hdct, sn, sub, ab, col, dd, k0, k1, k2, k3, k5, mN, hC, hN, hni, T⟩ := exc_obj I.kIn q
  refine wpAny_call_exc_subT F T hC hN hni (fun h' a hm => ?_) (by show 0 ≤ sizeLine; rw [sizeLine_eq]; omega)
  have hn : H a = none := I.hok.gone hm.new
  obtain ⟨t, ht, _, _⟩ := hm.there
  exact ⟨.ref a, upd H a (exo a C none), I.laidN hm.keeps hm.new hn (exo_ok ht), rfl, h a hn⟩
/-- e.f, e an own error whose dict is known -/
def tXv (K : PySem.W.Frag) (f : Str) (te : TE) : TE := fun σ H Q => te σ H fun x H1 => ∃ (a C dx : Addr) (fs : List (Str × V)) (v : V), x = .ref a ∧ XfC K C ∧ PySem.W.findIn K (.ref C) f = some none ∧ H1 a = some (exo a C (some dx)) ∧ H1 dx = some (exd dx fs) ∧ fs.lookup f = some v ∧ Q v H1
theorem pe_xv {X : Cx} {e : Expr} {te : TE} {pos : Pos} {n : Str} (he : PE X e te) (hb : attributeBase e n X.env (eval e X.env) = eval e X.env := by rfl) :
    PE X (.Attribute e n pos) (tXv X.K n te) := by
  refine ⟨fun pins s σ H Q I h => ?_⟩
  refine attr_of hb (thn (he.run pins s σ H _ I h) fun u s1 hh => ?_)
  obtain ⟨x, H1, I1, rx, a, C, dx, fs, v, rfl, T, hno, ea, ed, l, q⟩ := hh
  obtain rfl : u = Value.ref a := rx
  obtain ⟨t1, ho⟩ := exo_at I1.hok ea
  obtain ⟨mA, hns, hr⟩ := exd_at I1.hok ed
  obtain ⟨od, hod, hl⟩ := lookIn_ns hns
  obtain ⟨u, hu, ru⟩ := RelO.some_of (v := v) (o := mA n) (by rw [← l]; exact hr n)
  have J : PySem.W.InstAt s1.heap a { cls := .ref C, dict := some dx, data := .fields #[.ref t1, .none, .none, .none, .bool false, .none] } C (some od) := ⟨ho, rfl, rfl, hod⟩
  exact HandSPX.exc_get I1.kIn J T.ga T.gg T.exC (PySem.W.findObj_own T.hdC hno rfl (by rw [hl, hu])) (handed_of ru) ⟨v, H1, I1.tok _, ru, q⟩
/-- isinstance(e, c), e an own error -/
def rIsX (K : PySem.W.Frag) : List V → Hp → VK → Prop := fun xs H Q => ∃ (a D : Addr) (dx : Option Addr) (c : V) (cv : Value) (b : Bool), xs = [.ref a, c] ∧ ExcC K D ∧ H a = some (exo a D dx) ∧ (∀ d, dx = some d → ∃ fs, H d = some (exd d fs)) ∧ (∀ u, RelV c u → u = cv) ∧ PySem.W.kitOne K (.ref D) cv = some b ∧ Q (.bl b) H
theorem call_isX {X : Cx} : CallR X (.builtin "isinstance") (rIsX X.K) := by
  intro pins s σ H xs us Q I r h
  obtain ⟨a, D, dx, c, cv, b, rfl, C, ea, hd, hcv, e, q⟩ := h
  cases r with
  | cons rx rr =>
    cases rr with
    | cons rt rr =>
      cases rr
      cases rx
      have ec := hcv _ rt
      subst ec
      obtain ⟨t1, ho⟩ := exo_at I.hok ea
      have hcl : (PySem.W.clsIn X.K D).isSome = true := by
        obtain ⟨cd, hc, _⟩ := PySem.W.any_some C.hd
        rw [hc]
        rfl
      have J : ∃ od, PySem.W.InstAt s.heap a { cls := .ref D, dict := dx, data := .fields #[.ref t1, .none, .none, .none, .bool false, .none] } D od := by
        cases dx with
        | none => exact ⟨none, ho, rfl, rfl, trivial⟩
        | some d =>
          obtain ⟨fs, ed⟩ := hd d rfl
          obtain ⟨mA, hns, _⟩ := exd_at I.hok ed
          obtain ⟨o, es, ep, e1, _⟩ := hns
          exact ⟨some o, ho, rfl, rfl, e1⟩
      obtain ⟨od, J⟩ := J
      exact PySem.W.kia_one (PySem.W.kitx_exc hcl C.hg C.hk C.hs C.ha C.hn C.ht C.hm) I.kIn J e (fun z => nomatch z) fun tk => ⟨.bl b, H, I.kept (t' := tk) fun _ _ z => z, rfl, q⟩
/-- __init__(self, y): self.f = y -/
def spInit1 (K : PySem.W.Frag) (C : Addr) (f : Str) : Sp := fun vs H Q _ => ∃ (a : Addr) (y : V), vs = [.ref a, y] ∧ H a = some (exo a C none) ∧ ∀ d, H d = none → d ≠ a → Q .non (upd (upd H d (exd d [(f, y)])) a (exo a C (some d)))
def spInit2 (K : PySem.W.Frag) (C : Addr) (f g : Str) : Sp := fun vs H Q _ => ∃ (a : Addr) (y z : V), vs = [.ref a, y, z] ∧ H a = some (exo a C none) ∧ ∀ d H', H d = none → d ≠ a → H' a = some (exo a C (some d)) → H' d = some (exd d [(g, z), (f, y)]) → (∀ b, b ≠ a → b ≠ d → H' b = H b) → Q .non H'
/-- a tuple's display, not to be looked into -/
@[irreducible] def tTupI (t : TA) : TE := tTup t
theorem pe_tupI {X : Cx} {es : List Expr} {k : Nat} {t : TA} {pos : Pos} (h : PA X es t) : PE X (.Tuple es k pos) (tTupI t) := by
  unfold tTupI
  exact pe_tup h
theorem pg_tupK {X : Cx} {K : PySem.W.Frag} {es : List Expr} {k : Nat} {t : TGs} {n : Nat} {pos : Pos} (hK : X.K = K) (hc : X.calm = true) (h : PGs X es t)
    (hn : (assignEach es X.env).length = n := by rfl) (hst : (assignEach es X.env).findIdx? (·.1) = none := by rfl) : PG X (.Tuple es k pos) (gTup K n t) := by
  subst hK
  exact pg_tup hc h hn hst
/-- the module's name x is an error class whose __init__ keeps sp -/
structure ExV (P : Program) (w : World) (K : PySem.W.Frag) (mg : Str → Option Value) (base : Heap) (x : Str) (C : Addr) (sp : Sp) : Prop where
  hm : mg x = some (.ref C)
  oex : OexC K C
  fn : ∃ (fI : Addr) (fd : FuncData) (ps : List Str), PySem.W.findIn K (.ref C) "__init__" = some (some (.ref fI)) ∧ PySem.W.typeIn K (.ref fI) = some (.type "function") ∧ FnG P w K mg base 1 fI fd ps sp ∧ Binds K fd ps []
theorem pex {X : Cx} {x : Str} {C : Addr} {j : Nat} {sp : Sp} {e : Expr} {es : List Expr} {ta : TA} {p pos : Pos} (c : ExV X.prog X.w X.K X.mg X.base x C sp) (g : Gd X.A) (hr : Room j X.A) (hk : 2 ≤ j) (hg : Gl X x) (ha : PA X (e :: es) ta)
    (hdb : (x == ("__debug__" : Str)) = false := by decide) (he : starEach (e :: es) X.env = (false, eval e X.env) :: starEach es X.env := by rfl) (hpl : (backTo pos (starEach es X.env)).any (·.1) = false := by rfl) :
    PE X (.Call (.Name x p) (e :: es) [] pos) (tMkV C sp ta) := by
  obtain ⟨fI, fd, ps, iC, tI, F, b⟩ := c.fn
  exact pe_exV c.oex iC tI F g (hr.mono hk) b hg c.hm ha hdb he hpl
/-- .. without an own __init__ -/
structure Ex0 (K : PySem.W.Frag) (mg : Str → Option Value) (x : Str) (C : Addr) : Prop where
  hm : mg x = some (.ref C)
  kC : PySem.W.keepIn K (.ref C) = true
  q : PySem.W.excIn K C [.type "ValueError", .type "Exception", .type "BaseException", .type "object"] "ValueError.__new__" = true
theorem px0 {X : Cx} {x : Str} {C : Addr} {p pos : Pos} (c : Ex0 X.K X.mg x C) (hg : Gl X x) (hdb : (x == ("__debug__" : Str)) = false := by decide) :
    PE X (.Call (.Name x p) [] [] pos) (tMk0 C) := pe_ex0 F.excBase_ValueError c.q c.hm c.kC hg hdb
end Sw
/-! Fractions in lowest terms, by integers. -/
namespace Sw
open PySem PySem.Spec PyProof.Rows L2

/-- nothing but 1 divides both -/
def Cp (a b : Int) : Prop := Nat.Coprime a.natAbs b.natAbs
theorem Cp.of {a b : Int} (h : ∀ k : Nat, (k : Int) ∣ a → (k : Int) ∣ b → k = 1) : Cp a b := by
  refine h _ ?_ ?_
  · exact Int.ofNat_dvd_left.mpr (Nat.gcd_dvd_left _ _)
  · exact Int.ofNat_dvd_left.mpr (Nat.gcd_dvd_right _ _)
theorem Cp.one {a b : Int} (c : Cp a b) {k : Nat} (h1 : (k : Int) ∣ a) (h2 : (k : Int) ∣ b) : k = 1 := by
  have h := Nat.dvd_gcd (Int.ofNat_dvd_left.mp h1) (Int.ofNat_dvd_left.mp h2)
  rw [show Nat.gcd a.natAbs b.natAbs = 1 from c] at h
  exact Nat.dvd_one.mp h
theorem Cp.symm {a b : Int} (h : Cp a b) : Cp b a := Nat.Coprime.symm h
theorem Cp.left {a b c : Int} (h : Cp a b) (d : c ∣ a) : Cp c b := .of fun _ h1 h2 => h.one (Int.dvd_trans h1 d) h2
theorem Cp.right {a b c : Int} (h : Cp a b) (d : c ∣ b) : Cp a c := (h.symm.left d).symm
theorem Cp.mul {a b c : Int} (h1 : Cp a b) (h2 : Cp a c) : Cp a (b * c) := by
  unfold Cp
  rw [Int.natAbs_mul]
  exact Nat.Coprime.mul_right h1 h2
theorem Cp.mulL {a b c : Int} (h1 : Cp a c) (h2 : Cp b c) : Cp (a * b) c := (h1.symm.mul h2.symm).symm
theorem Cp.add {a b k : Int} (h : Cp a b) : Cp (a + k * b) b := .of fun j h1 h2 => by
  have h3 : (j : Int) ∣ k * b := Int.dvd_trans h2 (Int.dvd_mul_left k b)
  have h4 : (j : Int) ∣ (a + k * b) - k * b := Int.dvd_sub h1 h3
  rw [Int.add_sub_cancel] at h4
  exact h.one h4 h2
theorem Cp.neg {a b : Int} (h : Cp a b) : Cp (-a) b := by
  unfold Cp
  rw [Int.natAbs_neg]
  exact h
theorem Cp.dvd {a b c : Int} (h : Cp a b) (d : a ∣ b * c) : a ∣ c := by
  rw [← Int.natAbs_dvd_natAbs] at d ⊢
  rw [Int.natAbs_mul] at d
  exact Nat.Coprime.dvd_of_dvd_mul_left h d
theorem gI_cp {a b : Int} : gI a b = 1 ↔ Cp a b := by
  unfold gI Cp Nat.Coprime
  omega
theorem gI_dvd (a b : Int) : gI a b ∣ a ∧ gI a b ∣ b := ⟨Int.ofNat_dvd_left.mpr (Nat.gcd_dvd_left _ _), Int.ofNat_dvd_left.mpr (Nat.gcd_dvd_right _ _)⟩
theorem gI_pos {a b : Int} (h : b ≠ 0) : 0 < gI a b := by
  have : 0 < Nat.gcd a.natAbs b.natAbs := Nat.gcd_pos_of_pos_right _ (by omega)
  unfold gI
  omega
/-- by the common divisor, nothing common is left -/
theorem cp_div {a b : Int} (h : b ≠ 0) : Cp (a / gI a b) (b / gI a b) := by
  have g := gI_pos (a := a) h
  obtain ⟨⟨x, hx⟩, y, hy⟩ := gI_dvd a b
  have ex : a / gI a b = x := Int.ediv_eq_of_eq_mul_right (by omega) hx
  have ey : b / gI a b = y := Int.ediv_eq_of_eq_mul_right (by omega) hy
  rw [ex, ey]
  have e1 : x.natAbs = a.natAbs / Nat.gcd a.natAbs b.natAbs := by
    have := congrArg Int.natAbs hx
    rw [Int.natAbs_mul] at this
    unfold gI at this g
    rw [Int.natAbs_natCast] at this
    exact (Nat.div_eq_of_eq_mul_right (by omega) this).symm
  have e2 : y.natAbs = b.natAbs / Nat.gcd a.natAbs b.natAbs := by
    have := congrArg Int.natAbs hy
    rw [Int.natAbs_mul] at this
    unfold gI at this g
    rw [Int.natAbs_natCast] at this
    exact (Nat.div_eq_of_eq_mul_right (by omega) this).symm
  unfold Cp
  rw [e1, e2]
  exact Nat.coprime_div_gcd_div_gcd (Nat.gcd_pos_of_pos_right _ (by omega))
/-- a FRACTION -/
structure Fr (n d : Int) : Prop where
  pos : 0 < d
  cp : Cp n d
theorem fr_eq {n d p q : Int} (h1 : Fr n d) (h2 : Fr p q) (e : n * q = p * d) : n = p ∧ d = q := by
  have a : d ∣ q := h1.cp.symm.dvd (by rw [e]; exact Int.dvd_mul_left p d)
  have b : q ∣ d := h2.cp.symm.dvd (by rw [← e]; exact Int.dvd_mul_left n q)
  have c : d = q := Int.dvd_antisymm (Int.le_of_lt h1.pos) (Int.le_of_lt h2.pos) a b
  subst c
  exact ⟨Int.eq_of_mul_eq_mul_right (by have := h1.pos; omega) e, rfl⟩
theorem redI_fr {x y : Int} (h : y ≠ 0) : Fr (redI x y).1 (redI x y).2 ∧ (redI x y).1 * y = x * (redI x y).2 := by
  have g := gI_pos (a := x) h
  obtain ⟨⟨a, ha⟩, b, hb⟩ := gI_dvd x y
  have ex : x / gI x y = a := Int.ediv_eq_of_eq_mul_right (by omega) ha
  have ey : y / gI x y = b := Int.ediv_eq_of_eq_mul_right (by omega) hb
  have c := cp_div (a := x) h
  rw [ex, ey] at c
  have cross : a * y = x * b := by
    generalize gI x y = k at ha hb
    subst ha hb
    simp only [Int.mul_left_comm, Int.mul_comm]
  unfold redI
  rw [sh_eq h]
  by_cases hy : y < 0
  · rw [if_pos hy, Int.neg_ediv_of_dvd (gI_dvd x y).1, Int.neg_ediv_of_dvd (gI_dvd x y).2, ex, ey]
    refine ⟨⟨?_, ?_⟩, ?_⟩
    · show 0 < -b
      have : b < 0 := by
        rcases Int.lt_or_le b 0 with z | z
        · exact z
        · have := Int.mul_nonneg (Int.le_of_lt g) z
          omega
      omega
    · show Cp (-a) (-b)
      exact (c.neg.symm.neg).symm
    · show -a * y = x * -b
      rw [Int.neg_mul, Int.mul_neg, cross]
  · rw [if_neg hy, ex, ey]
    refine ⟨⟨?_, c⟩, cross⟩
    show 0 < b
    rcases Int.lt_or_le 0 b with z | z
    · exact z
    · have := Int.mul_nonneg (Int.le_of_lt g) (show 0 ≤ -b by omega)
      rw [Int.mul_neg] at this
      omega
theorem redI_eq {x y p q : Int} (h : y ≠ 0) (f : Fr p q) (e : x * q = p * y) : redI x y = (p, q) := by
  obtain ⟨h1, h2⟩ := redI_fr (x := x) h
  have key : (redI x y).1 * q = p * (redI x y).2 := by
    have e3 : ((redI x y).1 * q) * y = (p * (redI x y).2) * y := by
      calc ((redI x y).1 * q) * y = ((redI x y).1 * y) * q := by rw [Int.mul_assoc, Int.mul_comm q y, ← Int.mul_assoc]
        _ = (x * (redI x y).2) * q := by rw [h2]
        _ = (x * q) * (redI x y).2 := by rw [Int.mul_assoc, Int.mul_comm (redI x y).2 q, ← Int.mul_assoc]
        _ = (p * y) * (redI x y).2 := by rw [e]
        _ = (p * (redI x y).2) * y := by rw [Int.mul_assoc, Int.mul_comm y, ← Int.mul_assoc]
    exact Int.eq_of_mul_eq_mul_right h e3
  obtain ⟨a, b⟩ := fr_eq h1 f key
  exact Prod.ext a b
/-- the program's own sum is in lowest terms -/
theorem add_red {n d m e : Int} (h1 : Fr n d) (h2 : Fr m e) : redI (n * e + m * d) (d * e) =
    ((n * (e / gI d e) + m * (d / gI d e)) / gI (n * (e / gI d e) + m * (d / gI d e)) (gI d e), d / gI d e * (e / gI (n * (e / gI d e) + m * (d / gI d e)) (gI d e))) := by
  have he : e ≠ 0 := by have := h2.pos; omega
  have hd : d ≠ 0 := by have := h1.pos; omega
  have gp := gI_pos (a := d) he
  have hdvd := gI_dvd d e
  have hc := cp_div (a := d) he
  obtain ⟨d1, ed⟩ := hdvd.1
  obtain ⟨e1, ee⟩ := hdvd.2
  have qd : d / gI d e = d1 := Int.ediv_eq_of_eq_mul_right (by omega) ed
  have qe : e / gI d e = e1 := Int.ediv_eq_of_eq_mul_right (by omega) ee
  rw [qd, qe] at hc ⊢
  generalize hg : gI d e = c at *
  have hc0 : c ≠ 0 := by omega
  -- part and what it shares with c
  have lp := gI_pos (a := n * e1 + m * d1) hc0
  have ldv := gI_dvd (n * e1 + m * d1) c
  have lcp := cp_div (a := n * e1 + m * d1) hc0
  obtain ⟨p, ep⟩ := ldv.1
  obtain ⟨r, er⟩ := ldv.2
  have qp : (n * e1 + m * d1) / gI (n * e1 + m * d1) c = p := Int.ediv_eq_of_eq_mul_right (by omega) ep
  have qr : c / gI (n * e1 + m * d1) c = r := Int.ediv_eq_of_eq_mul_right (by omega) er
  rw [qp, qr] at lcp
  rw [qp]
  generalize hl : gI (n * e1 + m * d1) c = l at *
  have ee2 : e = l * (r * e1) := by rw [ee, er, Int.mul_assoc]
  have qe2 : e / l = r * e1 := Int.ediv_eq_of_eq_mul_right (by omega) ee2
  rw [qe2]
  have d1p : 0 < d1 := by
    have := h1.pos
    rcases Int.lt_or_le 0 d1 with z | z
    · exact z
    · have := Int.mul_nonneg (Int.le_of_lt gp) (show 0 ≤ -d1 by omega)
      rw [Int.mul_neg] at this
      omega
  have rp : 0 < r * e1 := by
    have := h2.pos
    rcases Int.lt_or_le 0 (r * e1) with z | z
    · exact z
    · have := Int.mul_nonneg (Int.le_of_lt lp) (show 0 ≤ -(r * e1) by omega)
      rw [Int.mul_neg] at this
      omega
  have pd : p ∣ n * e1 + m * d1 := by rw [ep]; exact Int.dvd_mul_left l p
  have c1 : Cp p d1 := ((Cp.add (k := m) ((h1.cp.right (by rw [ed]; exact Int.dvd_mul_left c d1)).mulL hc.symm)).left pd)
  have c2 : Cp p e1 := by
    refine Cp.left (a := m * d1 + n * e1) (Cp.add (k := n) ((h2.cp.right (by rw [ee]; exact Int.dvd_mul_left c e1)).mulL hc)) ?_
    rw [Int.add_comm]
    exact pd
  refine redI_eq (Int.mul_ne_zero hd he) ⟨Int.mul_pos d1p rp, c1.mul (lcp.mul c2)⟩ ?_
  have e4 : n * e + m * d = c * (l * p) := by
    rw [← ep]
    conv =>
      lhs
      rw [ee, ed]
    rw [Int.mul_add, Int.mul_left_comm, Int.mul_left_comm c m]
  rw [e4]
  conv =>
    rhs
    rw [ed, ee2]
  simp only [Int.mul_assoc, Int.mul_comm, Int.mul_left_comm]
/-- .. its product -/
theorem mul_red {n d m e : Int} (h1 : Fr n d) (h2 : Fr m e) : redI (n * m) (d * e) = (n / gI n e * (m / gI m d), d / gI m d * (e / gI n e)) := by
  have he : e ≠ 0 := by have := h2.pos; omega
  have hd : d ≠ 0 := by have := h1.pos; omega
  have g1 := gI_pos (a := n) he
  have g2 := gI_pos (a := m) hd
  have k1 := cp_div (a := n) he
  have k2 := cp_div (a := m) hd
  have v1 := gI_dvd n e
  have v2 := gI_dvd m d
  generalize gI n e = l at *
  generalize gI m d = r at *
  obtain ⟨n1, en⟩ := v1.1
  obtain ⟨e1, ee⟩ := v1.2
  obtain ⟨m1, em⟩ := v2.1
  obtain ⟨d1, ed⟩ := v2.2
  rw [Int.ediv_eq_of_eq_mul_right (by omega) en, Int.ediv_eq_of_eq_mul_right (by omega) ee] at *
  rw [Int.ediv_eq_of_eq_mul_right (by omega) em, Int.ediv_eq_of_eq_mul_right (by omega) ed] at *
  have d1p : 0 < d1 := by
    have := h1.pos
    rcases Int.lt_or_le 0 d1 with z | z
    · exact z
    · have := Int.mul_nonneg (Int.le_of_lt g2) (show 0 ≤ -d1 by omega)
      rw [Int.mul_neg] at this
      omega
  have e1p : 0 < e1 := by
    have := h2.pos
    rcases Int.lt_or_le 0 e1 with z | z
    · exact z
    · have := Int.mul_nonneg (Int.le_of_lt g1) (show 0 ≤ -e1 by omega)
      rw [Int.mul_neg] at this
      omega
  have n1n : n1 ∣ n := by rw [en]; exact Int.dvd_mul_left l n1
  have m1m : m1 ∣ m := by rw [em]; exact Int.dvd_mul_left r m1
  have d1d : d1 ∣ d := by rw [ed]; exact Int.dvd_mul_left r d1
  have e1e : e1 ∣ e := by rw [ee]; exact Int.dvd_mul_left l e1
  refine redI_eq (Int.mul_ne_zero hd he) ⟨Int.mul_pos d1p e1p, Cp.mulL (((h1.cp.left n1n).right d1d).mul k1) (k2.mul ((h2.cp.left m1m).right e1e))⟩ ?_
  conv =>
    lhs
    rw [en, em]
  conv =>
    rhs
    rw [ed, ee]
  simp only [Int.mul_assoc, Int.mul_comm, Int.mul_left_comm]
/-- // by what is not 0 -/
def CDivA (_ j : Int) : Prop := j ≠ 0 ∧ j.natAbs.log2 < 9000
theorem op_fdivA {X : Cx} : OpR X (binaryOp .FloorDiv) (rI CDivA fun i j => .int (i.fdiv j)) := opI fun _ _ _ _ _ _ _ hc q => floordiv_int hc.1 q (.inl (PyProof.noPylong_of_log2 hc.2))
theorem log_lt {j : Int} (h : j.natAbs < 2 ^ 8000) : j.natAbs.log2 < 9000 := Nat.lt_of_lt_of_le (PySem.Flt.log2_lt_of (by decide) h) (by decide)
theorem mulW {i j : Int} (h1 : i.natAbs < 2 ^ 8000) (h2 : j.natAbs < 2 ^ 8000) : CMulW i j := wide_mul h1 h2 (by decide) (by decide) (by decide)
theorem divW {i j : Int} (h0 : 0 < j) (h1 : j.natAbs < 2 ^ 8000) : CDivW i j := wide_div h0 h1 (by decide) (by decide)
theorem gI_le {a b : Int} (h : b ≠ 0) : (gI a b).natAbs ≤ b.natAbs := by
  unfold gI
  rw [Int.natAbs_natCast]
  exact Nat.le_of_dvd (by omega) (Nat.gcd_dvd_right _ _)
theorem div_le {a c : Int} : (a / c).natAbs ≤ a.natAbs := Int.natAbs_ediv_le_natAbs a c
theorem natAbs_lt_mul {i j : Int} {a b : Nat} (h1 : i.natAbs < 2 ^ a) (h2 : j.natAbs < 2 ^ b) : (i * j).natAbs < 2 ^ (a + b) := wide_lt h1 h2
theorem natAbs_lt_add {i j : Int} {a : Nat} (h1 : i.natAbs < 2 ^ a) (h2 : j.natAbs < 2 ^ a) : (i + j).natAbs < 2 ^ (a + 1) := by
  rw [Nat.pow_succ]
  omega
theorem red_fdiv {n d : Int} (h : d ≠ 0) : (n.fdiv (if d < 0 then -gI n d else gI n d), d.fdiv (if d < 0 then -gI n d else gI n d)) = redI n d := by
  have g := gI_pos (a := n) h
  obtain ⟨g1, g2⟩ := gI_dvd n d
  unfold redI
  rw [sh_eq h]
  by_cases hd : d < 0
  · rw [if_pos hd, if_pos hd, Int.fdiv_eq_ediv_of_dvd (Int.neg_dvd.mpr g1), Int.fdiv_eq_ediv_of_dvd (Int.neg_dvd.mpr g2), Int.ediv_neg, Int.ediv_neg, Int.neg_ediv_of_dvd g1, Int.neg_ediv_of_dvd g2]
  · rw [if_neg hd, if_neg hd, Int.fdiv_eq_ediv_of_dvd g1, Int.fdiv_eq_ediv_of_dvd g2]
/-- a couple of integers stands at v -/
def Cpl (K : PySem.W.Frag) (H : Hp) (v : V) (n d : Int) : Prop := ∃ a, v = .ref a ∧ SqT K H a [.int n, .int d]
theorem Cpl.same {K : PySem.W.Frag} {H H' : Hp} {v : V} {n d : Int} (h : Cpl K H v n d) (s : Same H H') : Cpl K H' v n d := by
  obtain ⟨a, rfl, r⟩ := h
  exact ⟨a, rfl, s.seqT r⟩
theorem Cpl.mk {K : PySem.W.Frag} {H : Hp} {p : Addr} {n d : Int} (h : H p = some (.tup [.int n, .int d])) : Cpl K H (.ref p) n d := ⟨p, rfl, .inl (.inl h)⟩
/-- a new couple -/
def Res (Q : VK) (H : Hp) (r : Int × Int) : Prop := ∀ p H', Same H H' → H p = none → H' p = some (.tup [.int r.1, .int r.2]) → Q (.ref p) H'
theorem Res.now {Q : VK} {H H' : Hp} {r : Int × Int} {x y : Int} (h : Res Q H r) (s : Same H H') (e : r = (x, y)) : ∀ p, H' p = none → Q (.ref p) (upd H' p (.tup [.int x, .int y])) := fun p np => by
  subst e
  refine h p _ (s.trans (same_upd np)) ?_ upd_same
  cases z : H p with
  | none => rfl
  | some o =>
    rw [s _ _ z] at np
    cases np
theorem redI_neg {x y : Int} (h : y ≠ 0) : redI (-x) (-y) = redI x y := by
  obtain ⟨f, e⟩ := redI_fr (x := x) h
  have z := redI_eq (x := -x) (y := -y) (p := (redI x y).1) (q := (redI x y).2) (by omega) f (by rw [Int.neg_mul, Int.mul_neg, e])
  rw [z]
theorem Fr.flip {n d : Int} (h : Fr n d) (p : 0 < n) : Fr d n := ⟨p, h.cp.symm⟩
theorem Fr.flipN {n d : Int} (h : Fr n d) (p : n < 0) : Fr (-d) (-n) := ⟨by omega, h.cp.neg.symm.neg⟩
theorem Fr.neg {n d : Int} (h : Fr n d) : Fr (-n) d := ⟨h.pos, h.cp.neg⟩
theorem redI_le {x y : Int} (h : y ≠ 0) : (redI x y).1.natAbs ≤ x.natAbs ∧ (redI x y).2.natAbs ≤ y.natAbs := by
  unfold redI
  split
  · refine ⟨?_, ?_⟩
    · have := div_le (a := -x) (c := sh x y)
      rw [Int.natAbs_neg] at this
      exact this
    · have := div_le (a := -y) (c := sh x y)
      rw [Int.natAbs_neg] at this
      exact this
  · exact ⟨div_le, div_le⟩
theorem Cpl.fut {K : PySem.W.Frag} {mu : Addr → Prop} {H H' : Hp} {v : V} {n d : Int} (h : Cpl K H v n d) (f : Fut mu H H') : Cpl K H' v n d := by
  obtain ⟨a, rfl, (r | ⟨o, r⟩) | r⟩ := h
  · exact ⟨a, rfl, .inl (.inl (f _ _ r (.inr (.inl ⟨_, rfl⟩))))⟩
  · exact ⟨a, rfl, .inl (.inr ⟨o, f _ _ r (.inr (.inr ⟨_, _, rfl⟩))⟩)⟩
  · exact ⟨a, rfl, .inr r⟩
theorem Cpl.dt {K : PySem.W.Frag} {mu : Addr → Prop} {H : Hp} {v : V} {n d : Int} (h : Cpl K H v n d) : Dt K mu H v (.tuple [.int n, .int d]) := by
  obtain ⟨a, rfl, (r | ⟨o, r⟩) | r⟩ := h
  · exact .tup (.inl r) (.cons (.int _) (.cons (.int _) .nil))
  · exact .tup (.inr ⟨o, r⟩) (.cons (.int _) (.cons (.int _) .nil))
  · exact .tupK r (.cons (.int _) (.cons (.int _) .nil))
theorem Dt.cpl {K : PySem.W.Frag} {mu : Addr → Prop} {H : Hp} {v : V} {n d : Int} (h : Dt K mu H v (.tuple [.int n, .int d])) : Cpl K H v n d := by
  obtain ⟨a, xs, rfl, r, ha⟩ := h.tupAt
  obtain ⟨x, y, p, q, rfl, e, h1, h2⟩ := ha.two rfl
  cases e
  cases h1
  cases h2
  exact ⟨a, rfl, r⟩
/-- a row of couples -/
def RowF (K : PySem.W.Frag) (H : Hp) : List V → List (Int × Int) → Prop
  | [], [] => True
  | v :: vs, f :: fs => Cpl K H v f.1 f.2 ∧ RowF K H vs fs
  | _, _ => False
theorem RowF.fut {K : PySem.W.Frag} {mu : Addr → Prop} {H H' : Hp} (f : Fut mu H H') : ∀ {vs : List V} {fs : List (Int × Int)}, RowF K H vs fs → RowF K H' vs fs
  | [], [], _ => True.intro
  | v :: vs, g :: fs, h => ⟨h.1.fut f, RowF.fut f h.2⟩
  | [], _ :: _, h => h.elim
  | _ :: _, [], h => h.elim
theorem RowF.same {K : PySem.W.Frag} {H H' : Hp} {vs : List V} {fs : List (Int × Int)} (h : RowF K H vs fs) (s : Same H H') : RowF K H' vs fs := h.fut (mu := fun _ => False) (.of_same s)
theorem RowF.len {K : PySem.W.Frag} {H : Hp} : ∀ {vs : List V} {fs : List (Int × Int)}, RowF K H vs fs → vs.length = fs.length
  | [], [], _ => rfl
  | v :: vs, g :: fs, h => by rw [List.length_cons, List.length_cons, RowF.len h.2]
  | [], _ :: _, h => h.elim
  | _ :: _, [], h => h.elim
theorem RowF.get {K : PySem.W.Frag} {H : Hp} : ∀ {vs : List V} {fs : List (Int × Int)} {i : Nat} {v : V}, RowF K H vs fs → vs[i]? = some v → ∃ f, fs[i]? = some f ∧ Cpl K H v f.1 f.2
  | [], [], _, _, _, e => by simp at e
  | x :: vs, g :: fs, 0, _, h, e => by
    simp at e
    subst e
    exact ⟨g, rfl, h.1⟩
  | x :: vs, g :: fs, i + 1, v, h, e => by
    obtain ⟨f, h1, h2⟩ := RowF.get (i := i) h.2 (by simpa using e)
    exact ⟨f, by simpa using h1, h2⟩
  | [], _ :: _, _, _, h, _ => h.elim
  | _ :: _, [], _, _, h, _ => h.elim
theorem RowF.getD {K : PySem.W.Frag} {H : Hp} {vs : List V} {fs : List (Int × Int)} {i : Nat} {f : Int × Int} (h : RowF K H vs fs) (e : fs[i]? = some f) : ∃ v, vs[i]? = some v ∧ Cpl K H v f.1 f.2 := by
  have hi : i < vs.length := by rw [h.len]; exact (List.getElem?_eq_some_iff.mp e).1
  obtain ⟨g, h1, h2⟩ := h.get (List.getElem?_eq_getElem hi)
  rw [e] at h1
  cases h1
  exact ⟨_, List.getElem?_eq_getElem hi, h2⟩
theorem RowF.ins {K : PySem.W.Frag} {H : Hp} {v : V} {g : Int × Int} (hv : Cpl K H v g.1 g.2) : ∀ {vs : List V} {fs : List (Int × Int)} (i : Nat), RowF K H vs fs → RowF K H (vs.take i ++ v :: vs.drop i) (fs.take i ++ g :: fs.drop i)
  | vs, fs, 0, h => ⟨hv, h⟩
  | [], [], i + 1, _ => ⟨hv, True.intro⟩
  | x :: vs, f :: fs, i + 1, h => ⟨h.1, RowF.ins hv i h.2⟩
  | [], _ :: _, _ + 1, h => h.elim
  | _ :: _, [], _ + 1, h => h.elim
theorem RowF.dt {K : PySem.W.Frag} {mu : Addr → Prop} {H : Hp} : ∀ {vs : List V} {fs : List (Int × Int)}, RowF K H vs fs → DtA K mu H vs (fs.map fun f => .tuple [.int f.1, .int f.2])
  | [], [], _ => .nil
  | v :: vs, g :: fs, h => .cons h.1.dt (RowF.dt h.2)
  | [], _ :: _, h => h.elim
  | _ :: _, [], h => h.elim
theorem fut_at {H : Hp} {a : Addr} {xs : List V} {o' : HO} (ha : H a = some (.lst xs)) : Fut (fun b => b = a) H (upd H a o') := fun c o e z => by
  have nb : c ≠ a := fun q => by
    rcases z with z | ⟨ys, rfl⟩ | ⟨ob, u, rfl⟩
    · exact z q
    · rw [q, ha] at e
      cases e
    · rw [q, ha] at e
      cases e
  rw [upd_ne nb]
  exact e
theorem shaped_cpl (a b : Int) : SeqAt.shaped (.tuple [.int a, .int b]) = true := by
  simp [SeqAt.shaped, PyData.canLay0, PyData.canLayAll0, PyData.depth, PyData.depthAll]
theorem eqv_cpl (a b c d : Int) : PyData.eqv (.tuple [.int a, .int b]) (.tuple [.int c, .int d]) = decide ((a, b) = (c, d)) := by
  simp only [PyData.eqv, PyData.eqvAll, Bool.and_true, Prod.mk.injEq]
  by_cases h1 : a = c <;> by_cases h2 : b = d <;> simp [h1, h2]
/-- what was not there at first may change as it likes -/
theorem Rel.at {b p : Addr} {H H' : Hp} {o : HO} (R : Rel b H H') (hb : BagAt H b) (np : H p = none) : Rel b H (upd H' p o) := by
  obtain ⟨x0, y0, z0, l0, cs0, hb0, hl0, _⟩ := id hb
  have npb : p ≠ b := fun z => by
    rw [z, hb0] at np
    cases np
  refine ⟨fun a u n e => ?_, fun l hL => ?_, ?_⟩
  · rw [upd_ne (ne_of_none e np)]
    exact R.keep a u n e
  · obtain ⟨x, y, z, e⟩ := R.cell l hL
    exact ⟨x, y, z, by rw [upd_ne npb.symm]; exact e⟩
  · obtain ⟨x, y, z, l, cs, q1, q2, q3, q4⟩ := R.bag
    have el : l0 = l := (R.cell l0 ⟨_, _, _, hb0⟩).eq q1
    have e : l ≠ p := fun e => by
      rw [el, e, np] at hl0
      cases hl0
    exact ⟨x, y, z, l, cs, by rw [upd_ne npb.symm]; exact q1, by rw [upd_ne e]; exact q2, q3, q4⟩
theorem RowF.snoc {K : PySem.W.Frag} {H : Hp} {v : V} {g : Int × Int} (hv : Cpl K H v g.1 g.2) : ∀ {vs : List V} {fs : List (Int × Int)}, RowF K H vs fs → RowF K H (vs ++ [v]) (fs ++ [g])
  | [], [], _ => ⟨hv, True.intro⟩
  | x :: vs, f :: fs, h => ⟨h.1, RowF.snoc hv h.2⟩
  | [], _ :: _, h => h.elim
  | _ :: _, [], h => h.elim
end Sw
/-! sep.join(reversed(a list of texts)). -/
namespace Sw
open PySem PySem.Spec PyProof.Rows L2
section
variable {prog : Program} {w : World} {A : Around} {E : Value → Shared → Prop} {s : Shared}
theorem join_rev {x : Str} {t : Tok} {it l : Addr} {items : Array Value} {ys : List Str} {Q : Value → Shared → Prop} (hh : A.handled = none) (hit : s.heap.IsRevIter it l ((items.size : Int) - 1)) (hl : s.heap.IsList l items) (hne : l ≠ it) (hn : items.size ≤ sizeLine)
    (hP : ∀ acc : Array Value, ItemsOf (fun i v => items[items.size - 1 - i]? = some v) acc items.size → StrsAre acc.toList ys) (hok : (ys.map (·.length)).sum + ys.length * x.length ≤ 16777216)
    (hq : ∀ (h' : Heap), (∀ b o, b ≠ it → s.heap.get? b = some o → h'.get? b = some o) → ∀ (t' : Tok) (k : Nat), Q (.str (Txt.join x ys) t') { s with heap := h', toks := k }) :
    wpAny (model prog w) A (call (.builtin "str.join") [.str x t, .ref it]) Q E s := by
  refine wpAny_call (codeAny_call_builtin F.slot_str_join.plain F.entry_str_join (F.slot_str_join.check _ _ _ _ _ _ _ _ (typeIs_str _ _ _) (F.args_str_join_2 _ _) ?_))
  rw [join_tree_other]
  refine wpAny_bind (wpAny_typeOf hit.typeIs ?_)
  show wpAny _ A.in1 ((pyIter (.ref it)).tryCatch _ >>= fun i => collect i >>= fun zs => joinTail x zs) _ _ s
  refine wpAny_bind (wpAny_tryCatch (wpAny_pyIter_revIter hit ?_))
  have hh1 : A.in1.handled = none := hh
  refine wpAny_bind (RT.collect_rev hh1 hit hl hne hn fun h' tk acc hk hacc => ?_)
  obtain ⟨zs, hz, ht⟩ := strsAre_values (hP acc hacc)
  subst ht
  rw [hz]
  have ok2 := joinOk_of hok
  unfold JoinOk at ok2
  rw [Bool.not_eq_true'] at ok2
  have g : Gives (joinTail x (strValues zs)) (joinMade x zs) := by
    rcases zs with _ | ⟨p, _ | ⟨q, r⟩⟩
    all_goals exact gives_joinTail x _ ok2
  exact g prog w A (wants Q E) _ (post_join zs ⟨joinFit_length ok2, hq h' hk⟩)
end
/-- sep.join(reversed(e)) -/
def tJoinRev (K : PySem.W.Frag) (x : Str) (te : TE) : TE := fun σ H Q => te σ H fun v H1 => ∃ (a : Addr) (ys : List Str), v = .ref a ∧ SqL K H1 a (ys.map V.str) ∧ (ys.map (·.length)).sum + ys.length * x.length ≤ 16777216 ∧ Q (.str (Txt.join x ys.reverse)) H1
theorem pe_joinRev {X : Cx} {x : Str} {e : Expr} {te : TE} {u0 : Nat} {pc0 apos pos p2 pos2 : Pos} (hc : X.calm = true) (hg2 : Gl X "reversed") (hm2 : X.mg "reversed" = none) (he : PE X e te)
    (hs : starEach [e] X.env = (false, eval e X.env) :: starEach [] X.env := by rfl)
    (hs2 : starEach [.Call (.Name "reversed" p2) [e] [] pos2] X.env = [(false, eval (.Call (.Name "reversed" p2) [e] [] pos2) X.env)] := by rfl)
    (hbase : attributeBase (.Constant (.str x) u0 pc0) "join" X.env (eval (.Constant (.str x) u0 pc0) X.env) = eval (.Constant (.str x) u0 pc0) X.env := by rfl) (hline : (apos.endLine == pos.line) = true := by rfl) :
    PE X (.Call (.Attribute (.Constant (.str x) u0 pc0) "join" apos) [.Call (.Name "reversed" p2) [e] [] pos2] [] pos) (tJoinRev X.K x te) := by
  refine ⟨fun pins s σ H Q I h => ?_⟩
  refine PySem.Call_method1 hbase hs2 hline (thn (pe_str.run pins s σ H (fun v H1 => v = .str x ∧ H1 = H) I ⟨rfl, rfl⟩) fun v s1 ⟨x1, H1, I1, r1, q1⟩ => ?_)
  obtain ⟨rfl, rfl⟩ := q1
  obtain ⟨t, rfl⟩ := _root_.id r1
  refine ⟨"str", _, F.plainAttrs_str, F.slot_str_join, F.type_str_join, typeIs_str _ _ _, (fun _ e => nomatch e), Calls.callWith_builtin rfl (Calls.evalArgs_plain (Calls.spliced_cons ?_))⟩
  refine Call_ (ld_blt I1 hg2 hm2 PyProof.Rows.boot_reversed (PyProof.Rows.callWith_type1 (args_cons (thn (he.run pins s1 σ H1 _ I1 h) fun u s2 ⟨v, H2, I2, r2, q2⟩ => args_nil ?_) hs) hs rfl))
  obtain ⟨a, ys, rfl, hq, hz, q⟩ := q2
  obtain rfl : u = Value.ref a := r2
  obtain ⟨its, rv, p', hsz⟩ := I2.list hq
  refine call_reversed_list p'.isList ?_
  have k0 : ∀ b o, s2.heap.get? b = some o → (s2.heap.push (revObj a ((its.toArray.size : Int) - 1))).get? b = some o := fun b o e => Heap.get?_push_of_some _ e
  have I3 : Inv X pins σ H2 { s2 with heap := s2.heap.push (revObj a ((its.toArray.size : Int) - 1)) } := I2.kept (t' := s2.toks) k0
  obtain ⟨f0, f1, f2, f3, f4, f5⟩ := I2.fpOk (H' := H2) (b := s2.heap.objs.size) (Nat.le_refl _) (I2.hok.fresh (Nat.le_refl _))
  have hl := p'.isList
  obtain ⟨ol, hol, _⟩ := id hl
  have hne : a ≠ s2.heap.objs.size := Nat.ne_of_lt (Heap.lt_size hol)
  have hn : its.toArray.size ≤ sizeLine := by rw [List.size_toArray, ← rv.length]; exact hsz
  refine Calls.spliced_nil ?_
  refine join_rev (s := { s2 with heap := s2.heap.push (revObj a ((its.toArray.size : Int) - 1)) }) (ys := ys.reverse) (I2.ok.hd hc) ⟨_, Heap.get?_push_size _ rfl, rfl, rfl⟩ (hl.push _) hne hn (fun acc hacc => ?_) ?_ fun h' hk t' k => ?_
  · have z := RT.vals_rev rv hacc
    rw [← List.map_reverse] at z
    exact strs_of_vals z
  · rw [List.map_reverse, List.sum_reverse, List.length_reverse]
    exact hz
  · exact ⟨.str _, H2, I3.turned (t' := k) (fun b o hb e => hk b o hb e) f0 f1 f3 f4 f5, ⟨t', rfl⟩, q⟩
end Sw
/-! Texts of integers, read. -/
namespace Sw
open PySem PySem.Spec PyProof.Rows L2

/-- behind one sign - -/
def stripL : List Nat → List Nat
  | 45 :: r => r
  | l => l
def digL (l : List Nat) : Bool := decide (0 < l.length) && l.all fun c => decide (48 ≤ c) && decide (c ≤ 57)
theorem digL_iff {l : List Nat} : digL l = true ↔ l ≠ [] ∧ NumText.AllDigits l := by
  unfold digL NumText.AllDigits
  rw [Bool.and_eq_true, decide_eq_true_eq, List.all_eq_true]
  refine and_congr ⟨fun h e => (by rw [e] at h; exact absurd h (by decide)), fun h => List.length_pos_iff.mpr h⟩ ⟨fun h c hc => ?_, fun h c hc => ?_⟩
  · have := h c hc
    rw [Bool.and_eq_true, decide_eq_true_eq, decide_eq_true_eq] at this
    exact this
  · rw [Bool.and_eq_true, decide_eq_true_eq, decide_eq_true_eq]
    exact h c hc
theorem dig_tab : ∀ c, c < 128 → Unicode.isDigit c = (decide (48 ≤ c) && decide (c ≤ 57)) := by decide +kernel
theorem dig_eq (l : List Nat) : (Txt.isascii ⟨l.toArray⟩ && Txt.isdigit ⟨l.toArray⟩) = digL l := by
  unfold Txt.isascii Txt.isdigit digL
  show (l.toArray.all _ && (decide (l.toArray.size > 0) && l.toArray.all _)) = _
  rw [List.all_toArray, List.all_toArray, List.size_toArray]
  have key : ∀ l : List Nat, (l.all (fun c => decide (c < 128)) && l.all Unicode.isDigit) = l.all fun c => decide (48 ≤ c) && decide (c ≤ 57) := by
    intro l
    induction l with
    | nil => rfl
    | cons c l ih =>
      rw [List.all_cons, List.all_cons, List.all_cons, ← ih]
      by_cases hc : c < 128
      · rw [dig_tab c hc, decide_eq_true hc]
        cases decide (48 ≤ c) <;> cases decide (c ≤ 57) <;> simp
      · rw [decide_eq_false hc, decide_eq_false (show ¬ c ≤ 57 by omega)]
        simp
  rw [← key l]
  cases decide (l.length > 0) <;> simp
/-- the integer that a text shows, if it is its own text -/
def valL (l : List Nat) : Int := match l with
  | 45 :: r => -((NumText.digitsVal r : Nat) : Int)
  | l => ((NumText.digitsVal l : Nat) : Int)
theorem strip_min (r : List Nat) : stripL (45 :: r) = r ∧ valL (45 :: r) = -((NumText.digitsVal r : Nat) : Int) := ⟨rfl, rfl⟩
theorem strip_no {l : List Nat} (h : ∀ r, l ≠ 45 :: r) : stripL l = l ∧ valL l = ((NumText.digitsVal l : Nat) : Int) := by
  unfold stripL valL
  refine ⟨?_, ?_⟩
  · split
    · rename_i r
      exact absurd rfl (h r)
    · rfl
  · split
    · rename_i r
      exact absurd rfl (h r)
    · rfl
theorem min_or (l : List Nat) : (∃ r, l = 45 :: r) ∨ ∀ r, l ≠ 45 :: r := by
  by_cases h : ∃ r, l = 45 :: r
  · exact .inl h
  · exact .inr fun r e => h ⟨r, e⟩
theorem int_reads {l : List Nat} (h : digL (stripL l) = true) (hl : (stripL l).length ≤ 40) : intText? ⟨l.toArray⟩ = some (valL l) ∧ l.length ≤ 41 := by
  rcases min_or l with ⟨r, rfl⟩ | hn
  · rw [(strip_min r).1] at h hl
    rw [(strip_min r).2]
    obtain ⟨h1, h2⟩ := digL_iff.mp h
    refine ⟨intText_neg (x := ⟨(45 :: r).toArray⟩) (cs := r) (by simp) h2 h1 ?_, by rw [List.length_cons]; omega⟩
    show (45 :: r).toArray.size ≤ 4300
    rw [List.size_toArray, List.length_cons]
    omega
  · rw [(strip_no hn).1] at h hl
    rw [(strip_no hn).2]
    obtain ⟨h1, h2⟩ := digL_iff.mp h
    refine ⟨intText_digits (x := ⟨l.toArray⟩) (by simpa using h2) (by simpa using h1) ?_, by omega⟩
    show l.toArray.size ≤ 4300
    rw [List.size_toArray]
    omega
def intL (l : List Nat) : Option Int := if digL (stripL l) = true ∧ (stripL l).length ≤ 40 ∧ (Str.ofString (toString (valL l))).cps.toList = l then some (valL l) else none
theorem removeprefix_min (l : List Nat) : Txt.removeprefix ⟨l.toArray⟩ "-" = ⟨(stripL l).toArray⟩ := by
  have em : ("-" : Str) = ⟨#[45]⟩ := by decide +kernel
  rw [em, PySem.StrLaws.removeprefix_eq]
  have e1 : (⟨#[45]⟩ : Str).length = 1 := rfl
  have e2 : (⟨l.toArray⟩ : Str).length = l.length := by
    show l.toArray.size = _
    rw [List.size_toArray]
  have e3 : (⟨l.toArray⟩ : Str).cps.toList = l := by simp
  have e4 : Builtin.Str.subAt ⟨l.toArray⟩ ⟨#[45]⟩ 0 = decide (l.take 1 = [45]) := by
    unfold Builtin.Str.subAt
    show (l.toArray.extract 0 (0 + 1) == #[45]) = _
    rw [show l.toArray.extract 0 (0 + 1) = (l.take 1).toArray by simp]
    rw [Bool.eq_iff_iff, beq_iff_eq, decide_eq_true_eq]
    exact ⟨fun h => by simpa using congrArg Array.toList h, fun h => by rw [h]⟩
  rw [e1, e2, e3, e4]
  rcases min_or l with ⟨r, rfl⟩ | hn
  · rw [(strip_min r).1, if_pos (by simp)]
    simp
  · rw [(strip_no hn).1, if_neg]
    rw [Bool.and_eq_true, decide_eq_true_eq, decide_eq_true_eq]
    rintro ⟨_, h⟩
    match l, h, hn with
    | c :: r, h, hn =>
      have : c = 45 := by simpa using h
      subst this
      exact hn r rfl
/-- a text, k times: only its length is told -/
def rRepS : R2 := fun x y H Q => ∃ (z : Str) (k : Int), x = .str z ∧ y = .int k ∧ 2 ≤ k ∧ k ≤ 1000 ∧ 1 ≤ z.length ∧ z.length ≤ 1000 ∧ ∀ r : Str, r.length = z.length * k.toNat → Q (.str r) H
theorem rep_size (c : Array Nat) : ∀ m : Nat, ((List.replicate m c).foldl (· ++ ·) #[]).size = c.size * m := fun m => by
  have key : ∀ (m : Nat) (a : Array Nat), ((List.replicate m c).foldl (· ++ ·) a).size = a.size + c.size * m := by
    intro m
    induction m with
    | zero =>
      intro a
      simp
    | succ m ih =>
      intro a
      rw [List.replicate_succ, List.foldl_cons, ih, Array.size_append, Nat.mul_succ]
      omega
  rw [key m #[]]
  simp
theorem op_repS {X : Cx} : OpR X (binaryOp .Mult) rRepS := by
  intro pins s σ H x y v u Q I rx ry h
  obtain ⟨z, k, rfl, rfl, k2, k1, z1, z2, q⟩ := h
  obtain ⟨t, rfl⟩ := rx
  obtain ⟨t', rfl⟩ := ry
  have hm : z.length * k.toNat ≤ 1000000 := Nat.le_trans (Nat.mul_le_mul z2 (show k.toNat ≤ 1000 by omega)) (by decide)
  have hc : (k == 1 || z.length == 0) = false := by
    rw [Bool.or_eq_false_iff, beq_eq_false_iff_ne, beq_eq_false_iff_ne]
    omega
  refine P.mul_str (by rw [decide_eq_false (by omega), decide_eq_false (by omega)]; rfl) (fun _ _ => ?_) (fun _ _ => ?_) ?_
  · have e : (1000 : Int) ≤ (2 ^ 63 - 1) / k := by
      rw [Int.le_ediv_iff_mul_le (by omega)]
      omega
    omega
  · unfold Builtin.Str.tooLong
    have sl := sizeLine_eq
    first
      | (rw [decide_eq_false]; omega)
      | (simp; omega)
  · rw [if_neg (by omega), if_neg (by rw [hc]; exact Bool.false_ne_true)]
    have hz : (⟨(List.replicate k.toNat z.cps).foldl (· ++ ·) #[]⟩ : Str).length = z.length * k.toNat := rep_size z.cps k.toNat
    refine ⟨?_, ⟨.str _, H, I.tok _, ⟨_, rfl⟩, q _ hz⟩⟩
    have sl := sizeLine_eq
    first
      | (rw [hz]; omega)
      | (show _ ≤ _; rw [hz]; omega)
end Sw
/-! A written text ahead gives a token. -/
namespace Sw
open PySem PySem.Spec PyProof.Rows L2
section
variable {X : Cx} {f e : Expr} {es : List Expr} {tf te : TE} {ta : TA} {c : Str} {j : Nat} {pc0 pos : Pos} {r : R2}
/-- [.., 'c' + f, ..]: behind it a token is out -/
theorem pa_lit (ho : OpR X (binaryOp .Add) r) (hf : PE X f tf) (hr : PAT X es ta) (hs : starEach (.BinOp (.Constant (.str c) j pc0) .Add f pos :: es) X.env = (false, eval (.BinOp (.Constant (.str c) j pc0) .Add f pos) X.env) :: starEach es X.env := by rfl) :
    PA X (.BinOp (.Constant (.str c) j pc0) .Add f pos :: es) (tCons (tOp r (tC (.str c)) tf) ta) := by
  refine ⟨fun pos' pins s σ H Q I h => ?_⟩
  rw [hs]
  show wpAny _ _ (spliced ((false, eval (.BinOp (.Constant (.str c) j pc0) .Add f pos) X.env) :: backTo pos' (starEach es X.env))) _ _ s
  refine Calls.spliced_cons ?_
  refine wpAny_BinOp (Calls.Constant_str ?_)
  refine wpAny_mono (PySem.wpAny_toks (hf.run pins _ σ H _ (I.tok (s.toks + 1)) h)) (fun u s2 q => ?_) fun _ _ z => z.2
  obtain ⟨hk, y, H1, I1, r1, q1⟩ := q
  have hk : s.toks + 1 ≤ s2.toks := hk
  refine wpAny_mono (PySem.wpAny_toks (ho pins s2 σ H1 (.str c) y _ u _ I1 ⟨s.toks, rfl⟩ r1 q1)) (fun v s3 q => ?_) fun _ _ z => z.2
  obtain ⟨hk2, x, H2, I2, r2, q2⟩ := q
  exact thn (hr pos' pins s3 σ H2 _ (by omega) I2 q2) fun us s4 ⟨xs, H3, I3, r3, q3⟩ => ⟨x :: xs, H3, I3, .cons r2 r3, q3⟩
/-- a part of a list behind a written one, which wants no token itself -/
theorem pat_of (he : PE X e te) (hr : PAT X es ta) (hs : starEach (e :: es) X.env = (false, eval e X.env) :: starEach es X.env := by rfl) : PAT X (e :: es) (tCons te ta) := pat_cons (CwR.PET.of he) hr hs
end
end Sw
/-! Lists beside the empty one; rules within a comprehension. -/
namespace Sw
open PySem PySem.Spec PyProof.Rows L2
def rNeNil (K : PySem.W.Frag) : R2 := fun x y H Q => ∃ p q xs, x = .ref p ∧ y = .ref q ∧ SqL K H p xs ∧ SqL K H q [] ∧ Q (.bl (!decide (xs = []))) H
def rEqNil (K : PySem.W.Frag) : R2 := fun x y H Q => ∃ p q xs, x = .ref p ∧ y = .ref q ∧ SqL K H p xs ∧ SqL K H q [] ∧ Q (.bl (decide (xs = []))) H
theorem op_neNil {X : Cx} {K : PySem.W.Frag} (hK : X.K = K) (hu : X.A.units + 64 < cLine) : OpR X (compareOp .NotEq) (rNeNil K) := by
  subst hK
  intro pins s σ H x y v u Q I rx ry h
  obtain ⟨p, q, xs, rfl, rfl, hp, hq, k⟩ := h
  cases rx
  cases ry
  obtain ⟨its, rv, p', hz⟩ := I.list hp
  obtain ⟨its2, rv2, p2, hz2⟩ := I.list hq
  cases rv2
  have hu' : X.A.units < cLine := by omega
  have hl := rv.length
  cases xs with
  | nil =>
    cases rv
    refine PySem.SeqAt.RcNeAt.lists (e := fun _ => true) p'.isList p2.isList rfl hu' (fun j h1 h2 => by simp at h1) X.prog X.w _ _ ⟨.bl _, H, I, rfl, k⟩
  | cons x xs =>
    refine PySem.SeqAt.RcNeAt.lists_lengths p'.isList p2.isList (by cases rv; simp) hu' X.prog X.w _ _ ⟨.bl _, H, I, rfl, ?_⟩
    simpa using k
theorem op_eqNil {X : Cx} {K : PySem.W.Frag} (hK : X.K = K) (hu : X.A.units + 64 < cLine) : OpR X (compareOp .Eq) (rEqNil K) := by
  subst hK
  intro pins s σ H x y v u Q I rx ry h
  obtain ⟨p, q, xs, rfl, rfl, hp, hq, k⟩ := h
  cases rx
  cases ry
  obtain ⟨its, rv, p', hz⟩ := I.list hp
  obtain ⟨its2, rv2, p2, hz2⟩ := I.list hq
  cases rv2
  have hu' : X.A.units < cLine := by omega
  have hl := rv.length
  cases xs with
  | nil =>
    cases rv
    refine PySem.SeqAt.RcAt.lists (e := fun _ => true) p'.isList p2.isList rfl hu' (fun j h1 h2 => by simp at h1) X.prog X.w _ _ ⟨.bl _, H, I, rfl, k⟩
  | cons x xs =>
    refine PySem.SeqAt.RcAt.lists_lengths p'.isList p2.isList (by cases rv; simp) hu' X.prog X.w _ _ ⟨.bl _, H, I, rfl, ?_⟩
    simpa using k
theorem call_lenK {X : Cx} {K : PySem.W.Frag} (hK : X.K = K) : CallR X (.builtin "len") (fun xs H Q => ∃ x n, xs = [x] ∧ LenV K x H n ∧ Q (V.int ((n : Nat) : Int)) H) := by
  subst hK
  exact call_lenA
end Sw
/-! Rules by a named heap of the top, for what stands within a comprehension; lcm; zip of tuples. -/
namespace Sw
open PySem PySem.Spec PyProof.Rows L2 StX RZ
section
variable {X : Cx} {K : PySem.W.Frag}
theorem ix_listK (hK : X.K = K) : IxR X (rIxL K) := by
  subst hK
  exact ix_list
theorem ix_tupK (hK : X.K = K) : IxR X (rIxT K) := by
  subst hK
  exact ix_tup
theorem sl_listK (hK : X.K = K) : SlR X (rSlL K) := by
  subst hK
  exact sl_list
theorem sl_tupAK (hK : X.K = K) : SlR X (rSlA K) := by
  subst hK
  exact sl_tupA
theorem op_catAK (hK : X.K = K) : OpR X (binaryOp .Add) (rCatA K) := by
  subst hK
  exact op_catA
theorem pi_listK {tg l : Expr} {tl : TE} (hK : X.K = K) (hl : PE X l tl) : PI X tg l (iList K tl) := by
  subst hK
  exact pi_list hl
theorem pi_tupK {tg l : Expr} {tl : TE} (hK : X.K = K) (hl : PE X l tl) : PI X tg l (iTup K tl) := by
  subst hK
  exact pi_tup hl
def rTupOf (K : PySem.W.Frag) : List V → Hp → VK → Prop := fun xs H Q => ∃ p ys, xs = [.ref p] ∧ ((SqL K H p ys ∧ ∀ l, H l = none → Q (.ref l) (upd H l (.tup ys))) ∨ (SqT K H p ys ∧ Q (.ref p) H))
theorem call_tupK (hK : X.K = K) : CallR X (.type "tuple") (rTupOf K) := by
  subst hK
  exact call_tuple_of
theorem pa_starK {e : Expr} {es : List Expr} {te : TE} {t : TA} {p : Pos} (hK : X.K = K) (he : PE X e te) (hr : PA X es t) (hs : starEach (.Starred e p :: es) X.env = (true, eval e X.env) :: starEach es X.env := by rfl) : PA X (.Starred e p :: es) (tStar K te t) := by
  subst hK
  exact pa_star he hr hs
def rLcm : List V → Hp → VK → Prop := fun vs H Q => ∃ a b : Int, vs = [.int a, .int b] ∧ 0 < a ∧ 0 < b ∧ a.natAbs < 2 ^ 3000 ∧ b.natAbs < 2 ^ 3000 ∧ Q (.int ((Nat.lcm a.natAbs b.natAbs : Nat) : Int)) H
theorem lcm_le_mul {a b : Nat} (hb : 0 < b) (ha : 0 < a) : Nat.lcm a b ≤ a * b := by
  unfold Nat.lcm
  exact Nat.div_le_self _ _
theorem cr_lcm : CallR X (.builtin "math.lcm") rLcm := by
  intro pins s σ H vs us Q I r h
  obtain ⟨a, b, rfl, ha0, hb0, ha, hb, q⟩ := h
  obtain ⟨t, u, rfl⟩ := Vals.int2 r
  have l1 : (max 1 a.natAbs).log2 < 3000 := PySem.Flt.log2_lt_of (by decide) (by
    rcases Nat.le_total 1 a.natAbs with z | z
    · rw [Nat.max_eq_right z]
      exact ha
    · omega)
  have l2 : (max a.natAbs b.natAbs).log2 < 3000 := PySem.Flt.log2_lt_of (by decide) (by
    rcases Nat.le_total a.natAbs b.natAbs with z | z
    · rw [Nat.max_eq_right z]
      exact hb
    · rw [Nat.max_eq_left z]
      exact ha)
  have e1 : Nat.lcm 1 a.natAbs = a.natAbs := Nat.lcm_one_left _
  have sz : ((((Nat.lcm 1 a.natAbs).lcm b.natAbs : Nat) : Int)).natAbs.log2 < bitsLine := by
    rw [e1, Int.natAbs_natCast]
    have h6 : Nat.lcm a.natAbs b.natAbs < 2 ^ (3000 + 3000) := by
      rw [Nat.pow_add]
      exact Nat.lt_of_le_of_lt (lcm_le_mul (by omega) (by omega)) (Nat.mul_lt_mul'' ha hb)
    exact Nat.lt_of_lt_of_le (PySem.Flt.log2_lt_of (by decide) h6) (by decide)
  have key := PySem.W.mg_run_lcm a t b u (by omega) (by omega) sz
  refine PySem.call_function_meets PySem.W.MGF.kind_lcm PySem.W.MGF.plain_lcm PySem.W.MGF.entry_lcm (PySem.W.MGF.args_lcm _ _) key.meets ?_
  refine ⟨.int _, H, I.tok _, ⟨_, rfl⟩, ?_⟩
  rw [e1]
  exact q
end
section
variable {K : PySem.W.Frag} {a b : Addr} {xs ys : List V}
theorem walk_zipT {n : Nat} (hn : n = min xs.length ys.length) : Walk (ItzT K a b) n (fun H => SqT K H a xs ∧ SqT K H b ys) (YPair (fun i => xs[i]?) (fun i => ys[i]?)) := by
  subst hn
  refine ⟨fun i _ hi q => ?_, fun _ q => ⟨xs, ys, q.1, q.2, by omega⟩, fun i H v H' _ q y => ?_⟩
  · have h1 : i < xs.length := by omega
    have h2 : i < ys.length := by omega
    exact ⟨xs, ys, xs[i], ys[i], q.1, q.2, by simp [h1], by simp [h2]⟩
  · obtain ⟨T, x, z, h1, h2, h3, h4, h5⟩ := y
    exact ⟨T, x, z, h1, h2, h3, h4 xs q.1, h5 ys q.2⟩
end
end Sw
/-! enumerate over a tuple. -/
namespace Sw
open PySem PySem.Spec PyProof.Rows L2
set_option maxHeartbeats 2000000 in
theorem enumB_new {v : Value} {o : Obj} {W : Heap → Prop} (B : Begins v o W) :
    Meets (Builtin.«enumerate.__new__» ⟨[.type "enumerate", v], []⟩) (fun _ R s => W s.heap ∧ R (.ok (.ret (.ref (s.heap.push o).objs.size)))
      { s with heap := (s.heap.push o).push { cls := .type "enumerate", data := .fields #[.none, .bool false, .ref s.heap.objs.size, rawInt 0, .none, .none] } }) := by
  refine .of_wp fun prog w A R s h => ?_
  obtain ⟨hp, gg, dd, tk, os⟩ := s
  obtain ⟨hW, hR⟩ := h
  have isub := sub_enumerate
  have step : ∀ {A2 : Around} {E2 : Value → Shared → Prop} {Q2 : Value → Shared → Prop}, Q2 (.ref hp.objs.size) ⟨hp.push o, gg, dd, tk, os⟩ → wpAny (model prog w) A2 (pyIter v) Q2 E2 ⟨hp, gg, dd, tk, os⟩ := fun z => B.iter prog w _ _ ⟨hp, gg, dd, tk, os⟩ _ hW z
  wp_walk using step
  refine wpAny_stack_any fun stk => wpAny_pure ?_
  split
  · rename_i c1 _ _ _ _ _
    cases (c1 == Value.type "enumerate") <;> (wp_walk using step; exact ⟨_, rfl, hR⟩)
  · wp_walk using step
    exact ⟨_, rfl, hR⟩
theorem call_enumB {prog : Program} {w : World} {A : Around} {E : Value → Shared → Prop} {s : Shared} {v : Value} {o : Obj} {W : Heap → Prop} {Q : Value → Shared → Prop} (B : Begins v o W) (hW : W s.heap)
    (k : ∀ h2, IsEnum h2 (s.heap.objs.size + 1) s.heap.objs.size 0 .none → h2.get? s.heap.objs.size = some o → (∀ b ob, s.heap.get? b = some ob → h2.get? b = some ob) → Q (.ref (s.heap.objs.size + 1)) { s with heap := h2 }) :
    wpAny (model prog w) A (call (.type "enumerate") [v]) Q E s := by
  refine callType_new F.called_enumerate (by decide) (F.typeCall_enumerate_1 _) (F.newCall_enumerate_1 _) (fun ob => F.args_object_init_2 ob _) F.entry_enumerate_new (enumB_new B) ⟨hW, ?_⟩
  have size1 : (s.heap.push o).objs.size = s.heap.objs.size + 1 := Heap.size_push ..
  show _ ∧ _
  rw [size1]
  have isE : IsEnum ((s.heap.push o).push { cls := .type "enumerate", data := .fields #[.none, .bool false, .ref s.heap.objs.size, rawInt 0, .none, .none] }) (s.heap.objs.size + 1) s.heap.objs.size 0 .none := by
    have z := Heap.get?_push_size (s.heap.push o) (o := { cls := .type "enumerate", data := .fields #[.none, .bool false, .ref s.heap.objs.size, rawInt 0, .none, .none] }) rfl
    rw [size1] at z
    exact z
  exact ⟨⟨_, isE, rfl⟩, k _ isE (Heap.get?_push_of_some _ (Heap.get?_push_size _ B.free)) fun b ob z => Heap.get?_push_of_some _ (Heap.get?_push_of_some _ z)⟩
/-- the tuple at a, each item in a new pair -/
def IteT (K : PySem.W.Frag) (a : Addr) : It where
  go i H := ∃ (xs : List V) (x : V), SqT K H a xs ∧ xs[i]? = some x
  yld i H v H' := ∃ T x, v = .ref T ∧ H T = none ∧ H' = upd H T (.tup [.int (i : Nat), x]) ∧ ∀ xs, SqT K H a xs → xs[i]? = some x
  stop i H := ∃ xs : List V, SqT K H a xs ∧ xs.length = i
theorem tup_ne_enum {h : Heap} {e it a : Addr} {i : Int} {old : Value} {its : Array Value} (he : IsEnum h e it i old) (ht : h.IsTuple a its) : a ≠ e := fun z => by
  obtain ⟨ob, e1, c1, _⟩ := ht
  have e2 : h.get? e = some _ := he
  rw [z, e2] at e1
  cases e1
  exact absurd (Value.type.inj c1) (by decide)
theorem tup_ne_iter {h : Heap} {it a t : Addr} {i : Nat} {its : Array Value} (hi : h.IsTupleIter it t i) (ht : h.IsTuple a its) : a ≠ it := fun z => by
  obtain ⟨ob, e1, c1, _⟩ := ht
  obtain ⟨ob2, e2, c2, _⟩ := hi
  rw [z, e2] at e1
  cases e1
  rw [c2] at c1
  exact absurd (Value.type.inj c1) (by decide)
theorem turn_enumT {P : Program} {w : World} {K : PySem.W.Frag} {elts : List Expr} {kk : Nat} {tpos : Pos} (a e it : Addr) :
    Turn P w K (.Tuple elts kk tpos) (IteT K a) [e, it] e (fun i h => (∃ old, IsEnum h e it ((i : Nat) : Int) old) ∧ h.IsTupleIter it a i ∧ e ≠ it) := by
  refine ⟨by simp, ?_, ?_, ?_, ?_, ?_⟩
  · rintro i h ⟨⟨old, he⟩, ⟨o, ho, _, hd⟩, _⟩ b hb
    rcases (show b = e ∨ b = it by simpa using hb) with rfl | rfl
    · exact ⟨_, he, fun v q => nomatch q⟩
    · exact ⟨o, ho, fun v q => by rw [hd] at q; cases q⟩
  · rintro i h h' ⟨⟨old, he⟩, hi, hne⟩ k
    exact ⟨⟨old, k e (by simp) _ he⟩, hi.at fun o q => k it (by simp) o q, hne⟩
  · intro X hP hw hK hc i pins s σ H E I hf st hg
    subst hP hw hK
    obtain ⟨⟨old, he⟩, hit, hne⟩ := st
    obtain ⟨xs, x, hq, hx⟩ := hg
    obtain ⟨its, rv, p, _⟩ := I.tuple hq
    obtain ⟨u, hu, ru⟩ := rv.get hx
    have p2 : s.heap.IsTuple a its.toArray := p
    have ae := tup_ne_enum he p2
    have ai := tup_ne_iter hit p2
    have hel : e < s.heap.objs.size := Heap.lt_size he
    have hu2 : its.toArray[i]? = some u := by simpa using hu
    have hil : i < its.toArray.size := (Array.getElem?_eq_some_iff.mp hu2).1
    have DD := Draws.tuple (prog := X.prog) (w := X.w) (A := X.A.in1) (I.ok.hd hc) it a ai its.toArray
    refine wpAny_pyNext_enum_itemD DD he ⟨hit, p2⟩ hil hne (by simp only [List.mem_cons, List.not_mem_nil, or_false, not_or]; exact ⟨hne, Ne.symm ae⟩) fun y h' tk hy ho hst hT hsz hk => ?_
    have ey : y = u := by
      rw [hu2] at hy
      exact (Option.some.inj hy).symm
    subst ey
    refine ⟨_, rfl, wpAny_letOwnedTupleGo_enum (s := { s with heap := h', toks := tk + 1 }) ho fun h3 he3 sb => ?_⟩
    have hT3 : h3.get? s.heap.objs.size = some { cls := .type "tuple", data := .seq #[.int i tk, y] } := by
      rw [← hT]
      exact sb.2 _ (Nat.ne_of_gt hel)
    have fresh : ObjOk X.prog X.w (upd H s.heap.objs.size (.tup [.int (i : Nat), x])) h3 s.heap.objs.size (.tup [.int (i : Nat), x]) :=
      ⟨by show 2 ≤ sizeLine; decide, [.int i tk, y], .cons ⟨_, rfl⟩ (.cons ru .nil), ⟨_, hT3, rfl, _, rfl⟩⟩
    have stay : ∀ b ob, b ∉ [e, it] → s.heap.get? b = some ob → h3.get? b = some ob := fun b ob hb q => by
      have b1 : b ≠ e := fun z => hb (by simp [z])
      have b2 : b ≠ it := fun z => hb (by simp [z])
      rw [sb.2 b b1]
      exact hk b ob b1 b2 q
    have I1 : Inv X pins σ (upd H s.heap.objs.size (.tup [.int (i : Nat), x])) { s with heap := h3, toks := tk + 1 } := I.turnedNew (ch := [e, it]) stay hf (Nat.le_refl _) fresh
    refine ⟨.ref s.heap.objs.size, _, I1, rfl, ⟨_, x, rfl, I.hok.fresh (Nat.le_refl _), rfl, fun ys hy => by rw [I.tuple_inj hy hq]; exact hx⟩, ⟨⟨y, ?_⟩, hst.1.at fun ob q => (sb.2 it (Ne.symm hne)).trans q, hne⟩, fun b hb => ?_⟩
    · rw [show ((i + 1 : Nat) : Int) = (i : Int) + 1 by omega]
      exact he3
    · have hb2 : b < s.heap.objs.size := by
        rcases (show b = e ∨ b = it by simpa using hb) with rfl | rfl
        · exact hel
        · obtain ⟨ob, q, _⟩ := hit
          exact Heap.lt_size q
      rw [upd_ne (Nat.ne_of_lt hb2)]
      exact (hf b hb).1
  · intro X hP hw hK hc i pins s σ H E I hf st hg
    subst hP hw hK
    obtain ⟨⟨old, he⟩, hit, hne⟩ := st
    obtain ⟨xs, hq, hx⟩ := hg
    obtain ⟨its, rv, p, _⟩ := I.tuple hq
    have p2 : s.heap.IsTuple a its.toArray := p
    obtain ⟨f0, f1, f2, f3, f4, f5⟩ := hf it (by simp)
    have DD := Draws.tuple (prog := X.prog) (w := X.w) (A := X.A.in1) (I.ok.hd hc) it a (tup_ne_iter hit p2) its.toArray
    have en : i = its.toArray.size := by
      have := rv.length
      rw [List.size_toArray]
      omega
    rw [en] at hit
    exact wpAny_pyNext_enum_endD DD he ⟨hit, p2⟩ fun h' eb => ⟨rfl, I.turned (t' := s.toks) (fun b o hb q => eb b o hb q) f0 f1 f3 f4 f5⟩
  · rintro A i s Q E ⟨⟨_, he⟩, _⟩ h
    exact wpAny_pyIter_enum he h
def iEnumT (K : PySem.W.Frag) (ta : TA) : TI := fun σ H R => ta σ H fun vs H1 => ∃ a xs, vs = [.ref a] ∧ SqT K H1 a xs ∧ R (IteT K a) H1
theorem pi_enumT {X : Cx} {e : Expr} {ta : TA} {p pos tpos : Pos} {elts : List Expr} {kk : Nat} (hg : Gl X "enumerate") (hm : X.mg "enumerate" = none) (ha : PA X [e] ta) (hs : starEach [e] X.env = [(false, eval e X.env)] := by rfl) :
    PI X (.Tuple elts kk tpos) (.Call (.Name "enumerate" p) [e] [] pos) (iEnumT X.K ta) := by
  constructor
  intro pins s σ H R I h
  refine Call_ (ld_blt I hg hm boot_enumerate (PyProof.Rows.callWith_type1 (thn (ha.run pos pins s σ H _ I h) fun us s1 ⟨vs, H1, I1, r1, a, xs, ex, hq, q⟩ => ?_) hs rfl))
  subst ex
  obtain ⟨u, rfl, r2⟩ := vals1 r1
  cases r2
  obtain ⟨its, rv, pl, _⟩ := I1.tuple hq
  have p2 : s1.heap.IsTuple a its.toArray := pl
  refine call_enumB (begins_tuple a its.toArray) p2 fun h2 he ho hk => wpAny_pyIter_enum he ?_
  have I2 : Inv X pins σ H1 { s1 with heap := h2 } := I1.kept (t' := s1.toks) hk
  refine ⟨s1.heap.objs.size + 1, [s1.heap.objs.size + 1, s1.heap.objs.size], _, _, H1, rfl, I2, turn_enumT a (s1.heap.objs.size + 1) s1.heap.objs.size, ⟨⟨.none, he⟩, ⟨_, ho, rfl, rfl⟩, Nat.succ_ne_self _⟩, fun b hb => ?_, q⟩
  have le : s1.heap.objs.size ≤ b := by
    rcases (show b = s1.heap.objs.size + 1 ∨ b = s1.heap.objs.size by simpa using hb) with z | z
    · exact z ▸ Nat.le_succ _
    · exact z ▸ Nat.le_refl _
  exact I1.fpOk le (I1.hok.fresh le)
theorem walk_enumT {K : PySem.W.Frag} {a : Addr} {xs : List V} : Walk (IteT K a) xs.length (fun H => SqT K H a xs) (YPair (fun i => some (.int (i : Nat))) (fun i => xs[i]?)) := by
  refine ⟨fun i H hi q => ⟨xs, xs[i], q, by simp [hi]⟩, fun H q => ⟨xs, q, rfl⟩, fun i H v H' hi q y => ?_⟩
  obtain ⟨T, x, h1, h2, h3, h4⟩ := y
  exact ⟨T, .int (i : Nat), x, h1, h2, h3, rfl, h4 xs q⟩
end Sw
/-! Any datum beside a text: ==, not in. -/
namespace Sw
open PySem PySem.Spec PyProof.Rows L2 PySem.SeqAt
open AutoSeq1 (wpAny_loadPart')
theorem dict_eq_declines_str (l : Addr) (c : Value) (es : Array DictEntry) (ep : Nat) (b : Str) (u : Tok) :
    Meets (Builtin.«dict.__eq__» ⟨[.ref l, .str b u], []⟩) (fun _ R s => s.heap.get? l = some { cls := .type "dict", dict := none, data := .dict es ep, slots := #[] } ∧ R (.ok (.ret .notImplemented)) s) :=
  .of_wp fun prog w A R s h => by obtain ⟨hp, g, d, tk, os⟩ := s; obtain ⟨hl, h⟩ := h; have f1 := F.sub_str_dict; wp_walk using wpAny_loadPart' hl, wpAny_load hl; exact ⟨_, rfl, h⟩
theorem str_eq_declines_dict (b : Str) (u : Tok) (l : Addr) (es : Array DictEntry) (ep : Nat) :
    Meets (Builtin.«str.__eq__» ⟨[.str b u, .ref l], []⟩) (fun _ R s => s.heap.get? l = some { cls := .type "dict", dict := none, data := .dict es ep, slots := #[] } ∧ R (.ok (.ret .notImplemented)) s) :=
  .of_wp fun prog w A R s h => by obtain ⟨hp, g, d, tk, os⟩ := s; obtain ⟨hl, h⟩ := h; wp_walk using wpAny_loadPart' hl, wpAny_load hl; exact ⟨_, rfl, h⟩
section
variable {A : Around} {s : Shared}
theorem rcAt_dict_str {l : Addr} {o : Obj} {es : Array DictEntry} {ep : Nat} (b : Str) (u : Tok) (ho : s.heap.get? l = some o) (hx : o.ExactDict) (hd : o.data = .dict es ep) (hu : A.units < cLine) : RcAt A s (.ref l) (.str b u) false := fun prog w E Q h => by
  obtain ⟨cls, dd, data, sl⟩ := o
  obtain ⟨h1, h2, h3⟩ := hx
  simp only at h1 h2 h3 hd
  subst h1 h2 h3 hd
  exact rc_eq_decline_or (k := false) ⟨_, ho, rfl⟩ (typeIs_str s b u) (by decide) F.sub_str_dict F.slot_dict_eq F.slot_str_eq_refl
    (fun _ hq => call_meets F.slot_dict_eq ⟨_, ho, rfl⟩ F.entry_dict_eq (F.args_dict_eq_2 _ _) (dict_eq_declines_str l (.type "dict") es ep b u) ⟨ho, hq⟩)
    (fun _ hq => call_meets F.slot_str_eq_refl (typeIs_str s b u) F.entry_str_eq (F.args_str_eq_2 _ _) (str_eq_declines_dict b u l es ep) ⟨ho, hq⟩)
    (fun _ hq => wpAny_of_eq (rfl : isSame (.ref l) (.str b u) = pure false) hq) (.inr hu) h
theorem rcAt_str_dict {l : Addr} {o : Obj} {es : Array DictEntry} {ep : Nat} (b : Str) (u : Tok) (ho : s.heap.get? l = some o) (hx : o.ExactDict) (hd : o.data = .dict es ep) (hu : A.units < cLine) : RcAt A s (.str b u) (.ref l) false := fun prog w E Q h => by
  obtain ⟨cls, dd, data, sl⟩ := o
  obtain ⟨h1, h2, h3⟩ := hx
  simp only at h1 h2 h3 hd
  subst h1 h2 h3 hd
  exact rc_eq_decline_or (k := false) (typeIs_str s b u) ⟨_, ho, rfl⟩ (by decide) F.sub_dict_str F.slot_str_eq F.slot_dict_eq_refl
    (fun _ hq => call_meets F.slot_str_eq (typeIs_str s b u) F.entry_str_eq (F.args_str_eq_2 _ _) (str_eq_declines_dict b u l es ep) ⟨ho, hq⟩)
    (fun _ hq => call_meets F.slot_dict_eq_refl ⟨_, ho, rfl⟩ F.entry_dict_eq (F.args_dict_eq_2 _ _) (dict_eq_declines_str l (.type "dict") es ep b u) ⟨ho, hq⟩)
    (fun _ hq => wpAny_of_eq (rfl : isSame (.str b u) (.ref l) = pure false) hq) (.inr hu) h
theorem eqAt_str_dict {l : Addr} {o : Obj} {es : Array DictEntry} {ep : Nat} (b : Str) (u : Tok) (ho : s.heap.get? l = some o) (hx : o.ExactDict) (hd : o.data = .dict es ep) (hu : A.units < cLine) : EqAt A s (.str b u) (.ref l) false := fun prog w E Q h => by
  unfold eqBool
  refine wpAny_holding ?_
  refine wpAny_ite_split (fun hab => absurd (eq_of_beq hab) nofun) (fun _ => ?_)
  exact wpAny_bind (rcAt_str_dict b u ho hx hd hu prog w E _ (wpAny_truthy_bool h))
end
/-- the datum is this text -/
def isS (z : Str) : PyData → Bool
  | .str x => decide (x = z)
  | _ => false
def isSin (zs : List Str) : PyData → Bool
  | .str x => decide (x ∈ zs)
  | _ => false
def rEqS (K : PySem.W.Frag) : R2 := fun x y H Q => ∃ mu d z, Dt K mu H x d ∧ y = .str z ∧ Q (.bl (isS z d)) H
def rNotInS (K : PySem.W.Frag) : R2 := fun x y H Q => ∃ mu d zs p, Dt K mu H x d ∧ y = .ref p ∧ SqT K H p (zs.map V.str) ∧ Q (.bl (!isSin zs d)) H
section
variable {X : Cx} {K : PySem.W.Frag}
theorem op_eqS (hK : X.K = K) (hu : X.A.units + 64 < cLine) : OpR X (compareOp .Eq) (rEqS K) := by
  subst hK
  intro pins s σ H x y v u Q I rx ry h
  obtain ⟨mu, d, z, hd, rfl, q⟩ := h
  have hu' : X.A.units < cLine := by omega
  have sc := fun (a : scal x (.str z) = true) (b : Q (.bl (decide (x = V.str z))) H) => op_eq pins s σ H x (.str z) v u Q I rx ry ⟨a, b⟩
  cases hd with
  | non => exact sc rfl q
  | bl b => exact sc rfl q
  | int i => exact sc rfl q
  | str w =>
    refine sc rfl ?_
    rw [show decide (V.str w = V.str z) = decide (w = z) by rw [Bool.eq_iff_iff]; simp]
    exact q
  | lst _ rd _ =>
    cases rx
    obtain ⟨t, rfl⟩ := ry
    obtain ⟨its, rv, p, _⟩ := I.list (Rd.sqL rd)
    exact RcAt.list_str z t p.isList hu' X.prog X.w _ _ ⟨.bl _, H, I, rfl, q⟩
  | tup rd _ =>
    cases rx
    obtain ⟨t, rfl⟩ := ry
    obtain ⟨its, rv, p, _⟩ := I.tuple (Rd.sqT rd)
    exact RcAt.tuple_str z t p hu' X.prog X.w _ _ ⟨.bl _, H, I, rfl, q⟩
  | tupK rd _ =>
    cases rx
    obtain ⟨t, rfl⟩ := ry
    obtain ⟨its, rv, p, _⟩ := I.tuple (KTup.sqT rd)
    exact RcAt.tuple_str z t p hu' X.prog X.w _ _ ⟨.bl _, H, I, rfl, q⟩
  | @dct a kvs _ _ rd _ =>
    cases rx
    obtain ⟨t, rfl⟩ := ry
    have zo : ObjOk X.prog X.w H s.heap a (.dK kvs) := rd.ok I.hok
    obtain ⟨_, _, vs, rel, o, es, ep, ho, hx, hdd, _⟩ := zo
    exact rcAt_dict_str z t ho hx hdd hu' X.prog X.w _ _ ⟨.bl _, H, I, rfl, q⟩
/-- which of the texts -/
def eqS (d : PyData) : Value → Bool
  | .str z _ => isS z d
  | _ => false
theorem op_notInT (hK : X.K = K) (hu : X.A.units + 64 < cLine) : OpR X (compareOp .NotIn) (rNotInS K) := by
  subst hK
  intro pins s σ H x y v u Q I rx ry h
  obtain ⟨mu, d, zs, p, hd, rfl, hp, q⟩ := h
  cases ry
  obtain ⟨its, rv, pl, hz⟩ := I.tuple hp
  have hu' : X.A.in1.units < cLine := by
    have : X.A.in1.units = X.A.units + 1 := rfl
    omega
  have it : ∀ y ∈ its, ∃ z t, y = Value.str z t := by
    intro y hy
    obtain ⟨i, hi, e⟩ := List.getElem_of_mem hy
    have hl := rv.length
    obtain ⟨y2, e2, r2⟩ := rv.get (show (zs.map V.str)[i]? = some (V.str (zs[i]'(by rw [List.length_map] at hl; omega))) by
      rw [List.getElem?_map, List.getElem?_eq_getElem (by rw [List.length_map] at hl; omega)]
      rfl)
    rw [List.getElem?_eq_getElem hi, e] at e2
    cases e2
    obtain ⟨t, rfl⟩ := r2
    exact ⟨_, t, rfl⟩
  have an : its.any (eqS d) = isSin zs d := by
    have key : ∀ {zs : List Str} {us : List Value}, Vals (zs.map V.str) us → us.any (eqS d) = isSin zs d := by
      intro zs
      induction zs with
      | nil =>
        intro us r
        cases r
        cases d <;> rfl
      | cons z zs ih =>
        intro us r
        cases r with
        | cons r1 r2 =>
          obtain ⟨t, rfl⟩ := r1
          rw [List.any_cons, ih r2]
          show (isS z d || isSin zs d) = isSin (z :: zs) d
          cases d with
          | str w =>
            show (decide (w = z) || decide (w ∈ zs)) = decide (w ∈ z :: zs)
            rw [Bool.eq_iff_iff]
            simp
          | _ => rfl
    exact key rv
  refine notIn_tupleAt (eqS d) pl (fun y hy => ?_) ⟨.bl _, H, I, rfl, ?_⟩
  · obtain ⟨z, t, rfl⟩ := it y (by simpa using hy)
    show EqAt X.A.in1 s (.str z t) v (isS z d)
    cases hd with
    | non =>
      cases rx
      exact EqAt.str_none z t
    | bl b =>
      cases rx
      exact EqAt.str_bool z t b
    | int i =>
      obtain ⟨t2, rfl⟩ := rx
      exact EqAt.str_int z t i t2
    | str w =>
      obtain ⟨t2, rfl⟩ := rx
      have e := EqAt.str_str (A := X.A.in1) (s := s) z t w t2
      have e2 : isS z (.str w) = (z == w) := by
        show decide (w = z) = (z == w)
        rw [Bool.eq_iff_iff, decide_eq_true_eq, beq_iff_eq]
        exact ⟨Eq.symm, Eq.symm⟩
      rw [e2]
      exact e
    | lst _ rd _ =>
      cases rx
      obtain ⟨its, rv, p, _⟩ := I.list (Rd.sqL rd)
      exact EqAt.str_list z t p.isList hu'
    | tup rd _ =>
      cases rx
      obtain ⟨its, rv, p, _⟩ := I.tuple (Rd.sqT rd)
      exact EqAt.str_tuple z t p hu'
    | tupK rd _ =>
      cases rx
      obtain ⟨its, rv, p, _⟩ := I.tuple (KTup.sqT rd)
      exact EqAt.str_tuple z t p hu'
    | @dct a kvs _ _ rd _ =>
      cases rx
      have zo : ObjOk X.prog X.w H s.heap a (.dK kvs) := rd.ok I.hok
      obtain ⟨_, _, vs, rel, o, es, ep, ho, hx, hdd, _⟩ := zo
      exact eqAt_str_dict z t ho hx hdd hu'
  · rw [List.any_toArray, an]
    exact q
end
end Sw
/-! A tuple beside the empty one. -/
namespace Sw
open PySem PySem.Spec PyProof.Rows L2
def rNeNilT (K : PySem.W.Frag) : R2 := fun x y H Q => ∃ p q xs, x = .ref p ∧ y = .ref q ∧ SqT K H p xs ∧ SqT K H q [] ∧ Q (.bl (!decide (xs = []))) H
def rEqNilT (K : PySem.W.Frag) : R2 := fun x y H Q => ∃ p q xs, x = .ref p ∧ y = .ref q ∧ SqT K H p xs ∧ SqT K H q [] ∧ Q (.bl (decide (xs = []))) H
theorem nil_len {xs : List V} {its : List Value} (rv : Vals xs its) : (its.toArray.size == (#[] : Array Value).size) = decide (xs = []) := by
  have := rv.length
  rw [List.size_toArray, Bool.eq_iff_iff, beq_iff_eq, decide_eq_true_eq]
  show its.length = 0 ↔ _
  rw [← this]
  exact List.length_eq_zero_iff
theorem op_neNilT {X : Cx} {K : PySem.W.Frag} (hK : X.K = K) (hu : X.A.units + 64 < cLine) : OpR X (compareOp .NotEq) (rNeNilT K) := by
  subst hK
  intro pins s σ H x y v u Q I rx ry h
  obtain ⟨p, q, xs, rfl, rfl, hp, hq, k⟩ := h
  cases rx
  cases ry
  obtain ⟨its, rv, p', hz⟩ := I.tuple hp
  obtain ⟨its2, rv2, p2, hz2⟩ := I.tuple hq
  cases rv2
  have hu' : X.A.units < cLine := by omega
  refine PySem.SeqAt.RcNeAt.tuples (e := fun _ => true) p' p2 hu' (fun j h1 h2 => absurd h2 (by simp)) X.prog X.w _ _ ⟨.bl _, H, I, rfl, ?_⟩
  rw [nil_len rv]
  simpa using k
theorem op_eqNilT {X : Cx} {K : PySem.W.Frag} (hK : X.K = K) (hu : X.A.units + 64 < cLine) : OpR X (compareOp .Eq) (rEqNilT K) := by
  subst hK
  intro pins s σ H x y v u Q I rx ry h
  obtain ⟨p, q, xs, rfl, rfl, hp, hq, k⟩ := h
  cases rx
  cases ry
  obtain ⟨its, rv, p', hz⟩ := I.tuple hp
  obtain ⟨its2, rv2, p2, hz2⟩ := I.tuple hq
  cases rv2
  have hu' : X.A.units < cLine := by omega
  refine PySem.SeqAt.RcAt.tuples (e := fun _ => true) p' p2 hu' (fun j h1 h2 => absurd h2 (by simp)) X.prog X.w _ _ ⟨.bl _, H, I, rfl, ?_⟩
  rw [nil_len rv]
  simpa using k
theorem extend_tup (l : Addr) (items : Array Value) (n : Nat) (b : Addr) (items2 : Array Value) (n2 : Nat) (dd : Option Addr) (sl : Array (Option Value)) (hs0 : ¬(!items.isEmpty && Builtin.List.listTooLong (items.size + items2.size)) = true) (hs1 : items.size ≤ sizeLine) (hs2 : items.size + items2.size ≤ sizeLine + 1) :
    Meets (Builtin.«list.extend» ⟨[.ref l, .ref b], []⟩) (fun _ R s => s.heap.get? l = some { cls := .type "list", dict := none, data := .seq items n, slots := #[] } ∧ s.heap.get? b = some { cls := .type "tuple", dict := dd, data := .seq items2 n2, slots := sl } ∧ R (.ok (.ret Value.none)) { s with heap := s.heap.update l (Obj.mapSeq fun x => x ++ items2), toks := s.toks }) :=
  .of_wp fun prog w A R s h => by
    obtain ⟨hp, g, d, tk, os⟩ := s; obtain ⟨hl, hb, h⟩ := h; have f1 := AutoSeq1.idx_int; have f2 := AutoSeq1.sub_tuple_tuple; have f3 := AutoSeq1.sub_list_list; have f4 := AutoSeq1.sub_tuple_list; have f5 := AutoSeq1.sub_list_tuple;
    have hz' : (items ++ items2).size ≤ sizeLine + 1 := by rw [Array.size_append]; exact hs2
    wp_walk using (wpAny_updateSeq hl rfl (hz := hs1) (_hz' := hz')), AutoSeq1.wpAny_loadPart' hl, AutoSeq1.wpAny_loadPart' hb; exact ⟨_, rfl, h⟩
def rExtT (K : PySem.W.Frag) : V → List V → Hp → VK → Prop := fun x vs H Q => ∃ l b xs zs, x = .ref l ∧ vs = [.ref b] ∧ H l = some (.lst xs) ∧ SqT K H b zs ∧ xs.length + zs.length ≤ sizeLine ∧ Q .non (upd H l (.lst (xs ++ zs)))
theorem mt_extendT {X : Cx} {K : PySem.W.Frag} (hK : X.K = K) : MtM X "list.extend" (rExtT K) := by
  subst hK
  intro pins s σ H x vs v us Q I rx rv h
  obtain ⟨l, b, xs, zs, rfl, rfl, hH, hB, hz, q⟩ := h
  cases rx
  obtain ⟨u, rfl, ru⟩ := rv.one
  cases ru
  obtain ⟨z, its, n, r, hl, e⟩ := I.lstM hH
  obtain ⟨its2, r2, ⟨⟨cls, dd, data, sl⟩, e2, hc, n2, hd⟩, _⟩ := I.tuple hB
  simp only at hc hd
  subst hc hd
  have hl2 := r2.length
  have hsz : its.toArray.size + its2.toArray.size ≤ sizeLine := by rw [List.size_toArray, List.size_toArray]; omega
  have hlong : ¬ (!its.toArray.isEmpty && Builtin.List.listTooLong (its.toArray.size + its2.toArray.size)) = true := by
    rw [notLongL hsz, Bool.and_false]
    exact Bool.false_ne_true
  refine call_meets F.slot_list_extend ⟨_, e, rfl⟩ F.entry_list_extend (F.args_list_extend_2 _ _)
    (extend_tup l its.toArray n b its2.toArray n2 dd sl hlong (by rw [List.size_toArray]; omega) (by omega)) ⟨e, e2, ?_⟩
  refine ⟨.non, _, I.lset (its' := its ++ its2) hH e (by simp) (r.append r2) ?_, rfl, q⟩
  rw [List.length_append]
  omega
theorem mt_extT {X : Cx} : MtR X "list.extend" (rExtT X.K) := mt_extendT rfl
end Sw
/-! zip of a text and a tuple; dict.update. -/
namespace Sw
open PySem PySem.Spec PyProof.Rows L2
def ItST (K : PySem.W.Frag) (x : Str) (b : Addr) : It where
  go i H := ∃ (ys : List V) (c : Nat) (y : V), SqT K H b ys ∧ x.cps[i]? = some c ∧ ys[i]? = some y
  yld i H v H' := ∃ T c y, v = .ref T ∧ H T = none ∧ H' = upd H T (.tup [.str ⟨#[c]⟩, y]) ∧ x.cps[i]? = some c ∧ ∀ ys, SqT K H b ys → ys[i]? = some y
  stop i H := ∃ ys : List V, SqT K H b ys ∧ (i = x.cps.size ∨ i = ys.length) ∧ i ≤ x.cps.size ∧ i ≤ ys.length
theorem turn_zipST {P : Program} {w : World} {K : PySem.W.Frag} {elts : List Expr} {kk : Nat} {tpos : Pos} {x : Str} {t : Tok} {b z TI TO i1 i2 : Addr} (D : ZipSep2 z TI TO i1 i2 [i1] [i2, b]) (hb : b ≠ i2) :
    Turn P w K (.Tuple elts kk tpos) (ItST K x b) [z, TI, TO, i1, i2] z (fun i h => IsZip h z TI TO .none ∧ IsTupOf2 h TI (.ref i1) (.ref i2) ∧ (∃ a1 a2, IsTupOf2 h TO a1 a2) ∧ h.IsStrIter i1 (strIterType x) x t i ∧ h.IsTupleIter i2 b i) where
  mem := by simp
  obj := fun i h st c hc => by
    obtain ⟨hz, hTI, ⟨x, y, hTO⟩, ⟨o1, e1, _, d1⟩, ⟨o2, e2, _, d2⟩⟩ := st
    have e' : c = z ∨ c = TI ∨ c = TO ∨ c = i1 ∨ c = i2 := by simpa using hc
    rcases e' with q | q | q | q | q
    · rw [q]; exact ⟨_, hz, fun v q => nomatch q⟩
    · rw [q]; exact ⟨_, hTI, fun v q => nomatch q⟩
    · rw [q]; exact ⟨_, hTO, fun v q => nomatch q⟩
    · rw [q]; exact ⟨o1, e1, fun v q => by rw [d1] at q; cases q⟩
    · rw [q]; exact ⟨o2, e2, fun v q => by rw [d2] at q; cases q⟩
  keep := fun i h h' st k => by
    obtain ⟨hz, hTI, ⟨x, y, hTO⟩, h1, h2⟩ := st
    exact ⟨k z (by simp) _ hz, k TI (by simp) _ hTI, ⟨x, y, k TO (by simp) _ hTO⟩, (let ⟨o, e, c, d⟩ := h1; ⟨o, k i1 (by simp) o e, c, d⟩), h2.at fun o q => k i2 (by simp) o q⟩
  item := by
    intro X hP hw hK hc i pins s σ H E I hf st hg
    subst hP hw hK
    obtain ⟨hz, hTI, ⟨x0, y0, hTO⟩, h1, h2⟩ := st
    obtain ⟨ys, c, y, hqy, hx, hy⟩ := hg
    obtain ⟨its2, rv2, p2, _⟩ := I.tuple hqy
    have p3 : s.heap.IsTuple b its2.toArray := p2
    obtain ⟨u2, hu2, ru2⟩ := rv2.get hy
    have hu3 : its2.toArray[i]? = some u2 := by simpa using hu2
    have hzl : z < s.heap.objs.size := Heap.lt_size hz
    have D1 := Draws.text (prog := X.prog) (w := X.w) (A := X.A.in1) (I.ok.hd hc) i1 x t
    have D2 := Draws.tuple (prog := X.prog) (w := X.w) (A := X.A.in1) (I.ok.hd hc) i2 b hb its2.toArray
    refine wpAny_pyNext_zipD2_item D D1 D2 hz hTI hTO h1 ⟨h2, p3⟩ (Array.getElem?_eq_some_iff.mp hx).1 (Array.getElem?_eq_some_iff.mp hu3).1 fun x1 x2 h' tk y1 y2 z' TO' h1' h2' hT hsz hk => ?_
    obtain ⟨c', u1, hc', rfl⟩ := y1
    rw [hx] at hc'
    cases hc'
    have y2 : its2.toArray[i]? = some x2 := y2
    rw [hu3] at y2
    cases y2
    obtain ⟨h2', _⟩ := h2'
    refine ⟨_, rfl, wpAny_letOwnedTupleGo_zip (s := { s with heap := h', toks := tk }) z' fun h'' z'' sb => ?_⟩
    have hT2 : h''.get? s.heap.objs.size = some { cls := .type "tuple", data := .seq #[.str ⟨#[c]⟩ u1, u2] } := (sb.2 _ (Nat.ne_of_gt hzl)).trans hT
    have new : ObjOk X.prog X.w (upd H s.heap.objs.size (.tup [.str ⟨#[c]⟩, y])) h'' s.heap.objs.size (.tup [.str ⟨#[c]⟩, y]) :=
      ⟨by show 2 ≤ sizeLine; decide, [.str ⟨#[c]⟩ u1, u2], .cons ⟨_, rfl⟩ (.cons ru2 .nil), ⟨_, hT2, rfl, _, rfl⟩⟩
    have I1 : Inv X pins σ (upd H s.heap.objs.size (.tup [.str ⟨#[c]⟩, y])) { s with heap := h'', toks := tk } :=
      I.turnedNew (t' := tk) (ch := [z, TI, TO, i1, i2]) (fun c o hb q => (sb.2 c (fun q' => hb (by simp [q']))).trans (hk c o (fun q' => hb (by simp [q'])) (fun q' => hb (by simp [q'])) (fun q' => hb (by simp [q'])) (fun q' => hb (by simp [q'])) q)) hf (Nat.le_refl _) new
    refine ⟨.ref s.heap.objs.size, _, I1, rfl, ⟨_, c, y, rfl, I.hok.fresh (Nat.le_refl _), rfl, hx, fun l hl => by rw [I.tuple_inj hl hqy]; exact hy⟩, ⟨z'', ?_, ⟨.str ⟨#[c]⟩ u1, u2, ?_⟩, ?_, ?_⟩, fun c hcm => ?_⟩
    · exact (sb.2 _ D.TIz).trans (hk _ _ D.TIz D.TITO D.TIi1 D.TIi2 hTI)
    · exact (sb.2 _ D.TOz).trans TO'
    · obtain ⟨o, e, c1, d1⟩ := h1'
      exact ⟨o, (sb.2 _ D.zi1.symm).trans e, c1, d1⟩
    · exact h2'.at fun o q => (sb.2 _ D.zi2.symm).trans q
    · have hlt : c < s.heap.objs.size := by
        have e' : c = z ∨ c = TI ∨ c = TO ∨ c = i1 ∨ c = i2 := by simpa using hcm
        rcases e' with q | q | q | q | q
        · rw [q]; exact hzl
        · rw [q]; exact Heap.lt_size hTI
        · rw [q]; exact Heap.lt_size hTO
        · rw [q]; obtain ⟨_, e1, _⟩ := h1; exact Heap.lt_size e1
        · rw [q]; obtain ⟨_, e2, _⟩ := h2; exact Heap.lt_size e2
      rw [upd_ne (Nat.ne_of_lt hlt)]
      exact (hf c hcm).1
  done := by
    intro X hP hw hK hc i pins s σ H E I hf st hg
    subst hP hw hK
    obtain ⟨hz, hTI, ⟨x0, y0, hTO⟩, h1, h2⟩ := st
    obtain ⟨ys, hqy, hend, l1, l2⟩ := hg
    obtain ⟨its2, rv2, p2, _⟩ := I.tuple hqy
    have p3 : s.heap.IsTuple b its2.toArray := p2
    have ll := rv2.length
    have D1 := Draws.text (prog := X.prog) (w := X.w) (A := X.A.in1) (I.ok.hd hc) i1 x t
    have D2 := Draws.tuple (prog := X.prog) (w := X.w) (A := X.A.in1) (I.ok.hd hc) i2 b hb its2.toArray
    have sz : its2.toArray.size = ys.length := by rw [List.size_toArray, ll]
    exact wpAny_pyNext_zipD2_end D D1 D2 hz hTI hTO h1 ⟨h2, p3⟩ l1 (by rw [sz]; exact l2) (by rw [sz]; exact hend) fun h' tk hk => ⟨rfl, I.turnedL (t' := tk) (ch := [z, TI, TO, i1, i2]) (fun c o hb q =>
      hk c o (fun q' => hb (by simp [q'])) (fun q' => hb (by simp [q'])) (fun q' => hb (by simp [q'])) (fun q' => hb (by simp [q'])) q) hf⟩
  self := fun A i s Q E st h => wpAny_pyIter_zip st.1 h
theorem sepN (n b : Nat) (h : b < n) : ZipSep2 (n + 4) (n + 2) (n + 3) n (n + 1) [n] [n + 1, b] := by
  have two : ∀ c : Nat, c ≠ n + 1 → c ≠ b → ¬ List.Mem c [n + 1, b] := fun c h1 h2 e => by
    have e2 : c ∈ [n + 1, b] := e
    simp only [List.mem_cons, List.not_mem_nil, or_false] at e2
    omega
  have one : ∀ c : Nat, c ≠ n → ¬ List.Mem c [n] := fun c h1 e => by
    have e2 : c ∈ [n] := e
    simp only [List.mem_cons, List.not_mem_nil, or_false] at e2
    omega
  exact { TIz := by show ¬ ((n + 2 : Nat) = n + 4); omega
          TOz := by show ¬ ((n + 3 : Nat) = n + 4); omega
          TITO := by show ¬ ((n + 2 : Nat) = n + 3); omega
          TIi1 := by show ¬ ((n + 2 : Nat) = n); omega
          mem1 := List.mem_cons_self
          zf1 := one _ (by omega)
          Tf1 := one _ (by omega)
          TIi2 := by show ¬ ((n + 2 : Nat) = n + 1); omega
          mem2 := List.mem_cons_self
          zf2 := two _ (by omega) (by omega)
          Tf2 := two _ (by omega) (by omega)
          sep1_2 := two _ (by omega) (by omega)
          sep2_1 := one _ (by omega) }
theorem le5 (n c : Nat) (h : c ∈ [n + 4, n + 2, n + 3, n, n + 1]) : n ≤ c := by
  simp only [List.mem_cons, List.not_mem_nil, or_false] at h
  omega
def iZipST (K : PySem.W.Frag) (ta : TA) : TI := fun σ H R => ta σ H fun vs H1 => ∃ x b ys, vs = [.str x, .ref b] ∧ SqT K H1 b ys ∧ R (ItST K x b) H1
theorem pi_zipST {X : Cx} {e e2 : Expr} {ta : TA} {p pos tpos : Pos} {elts : List Expr} {kk : Nat} (hg : Gl X "zip") (hm : X.mg "zip" = none) (ha : PA X [e, e2] ta)
    (hs : starEach [e, e2] X.env = (false, eval e X.env) :: starEach [e2] X.env := by rfl) (hpl : (backTo pos (starEach [e2] X.env)).any (·.1) = false := by rfl) :
    PI X (.Tuple elts kk tpos) (.Call (.Name "zip" p) [e, e2] [] pos) (iZipST X.K ta) := by
  refine ⟨fun pins s σ H R I h => ?_⟩
  refine Call_ (ld_blt I hg hm PyProof.Rows.boot_zip (PyProof.Rows.callWith_type1 (thn (ha.run pos pins s σ H _ I h) fun us s1 ⟨vs, H1, I1, r1, q1⟩ => ?_) hs hpl))
  obtain ⟨x, b, ys, ex, hqy, q⟩ := q1
  subst ex
  cases r1 with
  | @cons _ u1 _ us1 r1 r2 =>
  obtain ⟨t, rfl⟩ := r1
  cases r2 with
  | @cons _ u2 _ us2 r3 r4 =>
  cases r4
  cases r3
  obtain ⟨its2, rv2, p2, _⟩ := I1.tuple hqy
  have p3 : s1.heap.IsTuple b its2.toArray := p2
  have bl : b < s1.heap.objs.size := by
    obtain ⟨ob, e1, _⟩ := id p3
    exact Heap.lt_size e1
  refine zip_begins2 (begins_text x t) (begins_tuple b its2.toArray) trivial p3 fun h2 hz hTI hTO ho1 ho2 hsz hk => wpAny_pyIter_zip hz ?_
  have I2 : Inv X pins σ H1 { s1 with heap := h2 } := I1.kept (t' := s1.toks) hk
  have D : ZipSep2 (s1.heap.objs.size + 4) (s1.heap.objs.size + 2) (s1.heap.objs.size + 3) s1.heap.objs.size (s1.heap.objs.size + 1) [s1.heap.objs.size] [s1.heap.objs.size + 1, b] := sepN _ _ bl
  refine ⟨s1.heap.objs.size + 4, [s1.heap.objs.size + 4, s1.heap.objs.size + 2, s1.heap.objs.size + 3, s1.heap.objs.size, s1.heap.objs.size + 1], _, _, H1, rfl, I2, turn_zipST (t := t) D (Nat.ne_of_lt (Nat.lt_succ_of_lt bl)), ⟨hz, hTI, ⟨_, _, hTO⟩, ⟨_, ho1, rfl, rfl⟩, ⟨_, ho2, rfl, rfl⟩⟩, fun c hc => ?_, q⟩
  have le : s1.heap.objs.size ≤ c := le5 _ _ hc
  exact I1.fpOk le (I1.hok.fresh le)
theorem walk_zipST {K : PySem.W.Frag} {x : Str} {b : Addr} {ys : List V} {n : Nat} (h1 : n = x.cps.size) (h2 : n = ys.length) : Walk (ItST K x b) n (fun H => SqT K H b ys) (YPair (fun i => (x.cps[i]?).map fun c => V.str ⟨#[c]⟩) (fun i => ys[i]?)) := by
  refine ⟨fun i H hi q => ⟨ys, x.cps[i], ys[i], q, Array.getElem?_eq_getElem (by omega), List.getElem?_eq_getElem (by omega)⟩, fun H q => ⟨ys, q, .inl h1, by omega, by omega⟩, fun i H v H' hi q y => ?_⟩
  obtain ⟨T, c, y0, e1, e2, e3, e4, e5⟩ := y
  exact ⟨T, _, y0, e1, e2, e3, by show (x.cps[i]?).map _ = _; rw [e4]; rfl, e5 ys q⟩
def rUpd : V → List V → Hp → VK → Prop := fun x vs H Q => ∃ d b kvs more, x = .ref d ∧ vs = [.ref b] ∧ H d = some (.dK kvs) ∧ H b = some (.dK more) ∧ d ≠ b ∧ kvs.length + more.length ≤ sizeLine ∧ Q .non (upd H d (.dK (mergeK kvs more)))
theorem mt_update {X : Cx} : MtR X "dict.update" rUpd := by
  intro pins s σ H x vs v us Q I rx rv h
  obtain ⟨d, b, kvs, more, rfl, rfl, hd, hb, ne, hsz, q⟩ := h
  cases rx
  obtain ⟨u, rfl, ru⟩ := rv.one
  cases ru
  obtain ⟨z1, m1, vs1, r1, D1⟩ := dk_of I.hok hd
  obtain ⟨z2, m2, vs2, r2, D2⟩ := dk_of I.hok hb
  refine call_meetsIn PySem.F.slot_dict_update D1.typeIs PySem.F.entry_dict_update (PySem.F.args_dict_update_2 _ _) (meets_dict_update (mixKind X.prog X.w) d b ne m2)
    ⟨vs1, vs2, D1, D2, (by rw [← r1.length, ← r2.length]; exact hsz), fun h' hmm _ hs => ?_⟩
  have hz : (mergeK kvs more).length ≤ sizeLine := Nat.le_trans (length_mergeK more kvs) hsz
  have he : ∃ q, h'.get? d = some q := let ⟨q, _, _, hq, _⟩ := hmm; ⟨q, hq⟩
  exact ⟨.non, _, d_write I (t' := s.toks) (by rw [hd]; exact True.intro) hs he (dk_new hz m1 (r2.merge r1) hmm), rfl, q⟩
end Sw
/-! A tuple, turned about; a text, some times over. -/
namespace Sw
open PySem PySem.Spec PyProof.Rows L2 HT
section
variable {prog : Program} {w : World} {A : Around} {E : Value → Shared → Prop} {s : Shared}
theorem adjust_rev (n : Nat) : Builtin.Slice.sliceAdjust none none (-1) (n : Int) = ((n : Int) - 1, -1) := by
  unfold Builtin.Slice.sliceAdjust
  have h1 : ((-1 : Int) < 0) := by decide
  simp only [h1, if_true]
theorem places_rev (n : Nat) : Builtin.Slice.slicePlaces ((n : Int) - 1) (-1) (-1) = n := by
  unfold Builtin.Slice.slicePlaces
  have h1 : ¬ ((-1 : Int) > 0) := by decide
  simp only [h1, if_false]
  split
  · simp
  · omega
theorem fm_congr {α β : Type} {f g : α → Option β} : ∀ {l : List α}, (∀ x ∈ l, f x = g x) → l.filterMap f = l.filterMap g
  | [], _ => rfl
  | x :: l, h => by
    rw [List.filterMap_cons, List.filterMap_cons, h x List.mem_cons_self, fm_congr fun y hy => h y (List.mem_cons_of_mem _ hy)]
theorem pick_rev (xs : Array Value) : ((List.range xs.size).filterMap fun (m : Nat) => xs[(((xs.size : Int) - 1) + (m : Int) * (-1)).toNat]?).toArray = xs.toList.reverse.toArray := by
  congr 1
  have key : ∀ m : Nat, m < xs.size → xs[(((xs.size : Int) - 1) + (m : Int) * (-1)).toNat]? = xs.toList.reverse[m]? := fun m hm => by
    rw [show (((xs.size : Int) - 1) + (m : Int) * (-1)).toNat = xs.size - 1 - m by omega, List.getElem?_reverse (by rw [Array.length_toList]; exact hm), Array.getElem?_toList, Array.length_toList]
  have e : (List.range xs.size).filterMap (fun (m : Nat) => xs[(((xs.size : Int) - 1) + (m : Int) * (-1)).toNat]?) = (List.range xs.size).filterMap (fun m => xs.toList.reverse[m]?) := fm_congr fun m hm => key m (List.mem_range.mp hm)
  rw [e]
  have e2 : ∀ l : List Value, (List.range l.length).filterMap (fun m => l[m]?) = l := by
    intro l
    induction l with
    | nil => rfl
    | cons x l ih =>
      rw [List.length_cons, List.range_succ_eq_map, List.filterMap_cons]
      show x :: List.filterMap _ (List.map Nat.succ (List.range l.length)) = x :: l
      rw [List.filterMap_map]
      congr 1
  have e3 := e2 xs.toList.reverse
  rw [List.length_reverse, Array.length_toList] at e3
  rw [e3]
theorem getItem_tuple_rev {t sl : Addr} {items : Array Value} {vs : Value} {Q : Value → Shared → Prop} (ht : IsTup s.heap t items) (hs : s.heap.IsSliceOf sl .none .none vs) (ps : IsPart vs (some (-1)))
    (h : Q (.ref s.heap.objs.size) { s with heap := s.heap.push { cls := .type "tuple", data := .seq items.toList.reverse.toArray } })
    (hsz : items.size ≤ sizeLine) : wpAny (model prog w) A (getItem (.ref t) (.ref sl)) Q E s := by
  have hok : sizeOk (.seq items.toList.reverse.toArray) := by
    show items.toList.reverse.toArray.size ≤ sizeLine
    rw [List.size_toArray, List.length_reverse, Array.length_toList]
    exact hsz
  obtain ⟨os, hos, hcs, hds⟩ := id hs
  have hTs : s.TypeIs (.ref sl) "slice" := ⟨os, hos, hcs⟩
  unfold getItem
  try with_reducible refine wpAny_holding ?_
  first | refine wpAny_bind (wpAny_pure ?_) | skip
  refine wpAny_bind (wpAny_sequenceKey ht.typeIs (by decide) ?_)
  refine wpAny_bind (wpAny_callSpecial?_slot (name := Str.ofString "__getitem__") ht.typeIs PyProof.Rows.slot_tuple_getitem
    (wpAny_call_entry PyProof.Rows.slot_tuple_getitem ht.typeIs entry_tuple_getitem ?_ (args_tuple_getitem _ _)))
  show wpAny _ _ (Builtin.Tuple.tupleItemsOf (.ref t) >>= _) _ _ s
  refine wpAny_bind (tupleItemsOf_ ht ?_)
  refine wpAny_bind (wpAny_typeOf hTs ?_)
  rw [if_pos (by decide)]
  have applied : ∀ {Q' : Int × Int × Nat → Shared → Prop} {A' : Around} {E' : Value → Shared → Prop}, Q' ((items.size : Int) - 1, -1, items.size) s → wpAny (model prog w) A' (Builtin.Slice.sliceApplied (.ref sl) (pure (items.size : Int))) Q' E' s := fun {Q' A' E'} q => by
    unfold Builtin.Slice.sliceApplied Builtin.Slice.sliceFields
    refine wpAny_bind (wpAny_bind (wpAny_field hos hds (x := .none) rfl (wpAny_bind (wpAny_field hos hds (x := .none) rfl (wpAny_bind (wpAny_field hos hds (x := vs) rfl (wpAny_pure ?_)))))))
    refine wpAny_bind (slicePart_ ps ?_)
    show wpAny _ _ (if ((-1 : Int) == 0) = true then _ else _) _ _ s
    rw [if_neg (by decide)]
    refine wpAny_bind (slicePart_none (wpAny_bind (slicePart_none (wpAny_bind (wpAny_pure ?_)))))
    show wpAny _ _ (match Builtin.Slice.sliceAdjust none none (-1) (items.size : Int) with | (lo, hi) => pure (lo, (-1 : Int), Builtin.Slice.slicePlaces lo hi (-1))) _ _ s
    rw [adjust_rev]
    show wpAny _ _ (pure ((items.size : Int) - 1, (-1 : Int), Builtin.Slice.slicePlaces ((items.size : Int) - 1) (-1) (-1))) _ _ s
    rw [places_rev]
    exact wpAny_pure q
  refine wpAny_bind (applied ?_)
  have hno : ¬ ((((items.size : Int) - 1) == 0 && (-1 : Int) == 1 && items.size == items.size) = true) := by
    intro q
    rw [Bool.and_eq_true, Bool.and_eq_true] at q
    exact absurd (eq_of_beq q.1.2) (by decide)
  show wpAny _ _ (if (((items.size : Int) - 1) == 0 && (-1 : Int) == 1 && items.size == items.size) = true then _ else _) _ _ s
  rw [if_neg hno, pick_rev]
  first
    | exact wpAny_bind (m := Builtin.Tuple.tupleExact _) (wpAny_newObj_type (wpAny_pure ⟨_, rfl, wpAny_pure h⟩) hok)
    | exact wpAny_bind (m := Builtin.Tuple.tupleExact _) (wpAny_newObj_type (wpAny_bind (wpAny_pure (wpAny_pure ⟨_, rfl, wpAny_pure h⟩))) hok)
    | exact wpAny_bind (wpAny_bind (m := Builtin.Tuple.tupleExact _) (wpAny_newObj_type (wpAny_pure (wpAny_pure ⟨_, rfl, wpAny_pure h⟩)) hok))
    | exact wpAny_bind (wpAny_bind (m := Builtin.Tuple.tupleExact _) (wpAny_newObj_type (wpAny_pure ⟨_, rfl, wpAny_pure h⟩) hok))
end
def tRevT (K : PySem.W.Frag) (te : TE) : TE := fun σ H Q => te σ H fun x H1 => ∃ a xs, x = .ref a ∧ SqT K H1 a xs ∧ ∀ p, H1 p = none → Q (.ref p) (upd H1 p (.tup xs.reverse))
theorem pe_revT {X : Cx} {e : Expr} {te : TE} {k : Nat} {p1 p2 p3 pos : Pos} (he : PE X e te) : PE X (.Subscript e (.Slice none none (some (.UnaryOp .USub (.Constant (.int 1) k p1) p2)) p3) pos) (tRevT X.K te) := by
  refine ⟨fun pins s σ H Q I h => Subscript_ (thn (he.run pins s σ H _ I h) fun v s1 ⟨x, H1, I1, r1, a, xs, ex, hx, q⟩ => ?_)⟩
  subst ex
  cases r1
  have hst : PO X (some (.UnaryOp .USub (.Constant (.int 1) k p1) p2)) (tPart (tUn (rU fun i => .int (-i)) (tC (.int 1)))) := po_some (pe_un un_neg pe_int)
  refine wpAny_Slice (thn (po_none.run pins s1 σ H1 (fun o H2 => o = none ∧ H2 = H1) I1 ⟨rfl, rfl⟩) fun vl s2 ⟨l, H2, I2, pl, el, e2⟩ => ?_)
  subst el e2
  cases pl
  refine thn (po_none.run pins s2 σ H2 (fun o H3 => o = none ∧ H3 = H2) I2 ⟨rfl, rfl⟩) fun vu s3 ⟨u, H3, I3, pu, eu, e3⟩ => ?_
  subst eu e3
  cases pu
  refine thn (hst.run pins s3 σ H3 (fun o H4 => o = some (-1) ∧ H4 = H3) I3 ⟨1, rfl, -1, rfl, rfl, rfl⟩) fun vs s4 ⟨o, H4, I4, ps, eo, e4⟩ => ?_
  subst eo e4
  have I5 : Inv X pins σ H4 { s4 with heap := s4.heap.push { cls := .type "slice", data := .fields #[.none, .none, vs] } } := I4.kept (t' := s4.toks) fun b ob q => Heap.get?_push_of_some _ q
  obtain ⟨its, r, ht, hz⟩ := I5.tuple hx
  have hlen := r.length
  show wpAny (model X.prog X.w) X.A (subscriptTail e (.Slice none none (some (.UnaryOp .USub (.Constant (.int 1) k p1) p2)) p3) (.ref a) (.ref s4.heap.objs.size)) (EP X pins σ Q) X.xe { s4 with heap := s4.heap.push { cls := .type "slice", data := .fields #[.none, .none, vs] } }
  refine tail_any (ops := [.ref a, .ref s4.heap.objs.size]) ht.typeIs (PyProof.Rows.slot_tuple_getitem.lookup) ?_ (by with_unfolding_all rfl)
  refine getItem_tuple_rev ht (Heap.IsSliceOf.new _ .none .none vs) ps ?_ (by rw [List.size_toArray]; omega)
  refine ⟨.ref _, _, I5.laid (t' := s4.toks) (o := .tup xs.reverse) (fun b ob q => Heap.get?_push_of_some _ q) (Nat.le_refl _) ?_, rfl, q _ (I5.hok.fresh (Nat.le_refl _))⟩
  refine ⟨by rw [List.length_reverse]; exact hz, its.reverse, r.reverse, ⟨_, Heap.get?_push_size _ rfl, rfl, 0, ?_⟩⟩
  simp
/-- a text, k times: its length, its letters -/
def rRepQ : R2 := fun x y H Q => ∃ (z : Str) (k : Int), x = .str z ∧ y = .int k ∧ 2 ≤ k ∧ k ≤ 1000 ∧ 1 ≤ z.length ∧ z.length ≤ 1000 ∧ ∀ r : Str, r.length = z.length * k.toNat → (PyData.strOk z = true → PyData.strOk r = true) → Q (.str r) H
theorem rep_all (c : Array Nat) (p : Nat → Bool) (h : c.all p = true) : ∀ m : Nat, ((List.replicate m c).foldl (· ++ ·) #[]).all p = true := fun m => by
  have key : ∀ (m : Nat) (a : Array Nat), a.all p = true → ((List.replicate m c).foldl (· ++ ·) a).all p = true := by
    intro m
    induction m with
    | zero =>
      intro a ha
      simpa using ha
    | succ m ih =>
      intro a ha
      rw [List.replicate_succ, List.foldl_cons]
      exact ih _ (by rw [Array.all_append, ha, h]; rfl)
  exact key m #[] (by simp)
theorem op_repQ {X : Cx} : OpR X (binaryOp .Mult) rRepQ := by
  intro pins s σ H x y v u Q I rx ry h
  obtain ⟨z, k, rfl, rfl, k2, k1, z1, z2, q⟩ := h
  obtain ⟨t, rfl⟩ := rx
  obtain ⟨t', rfl⟩ := ry
  have hm : z.length * k.toNat ≤ 1000000 := Nat.le_trans (Nat.mul_le_mul z2 (show k.toNat ≤ 1000 by omega)) (by decide)
  have hc : (k == 1 || z.length == 0) = false := by
    rw [Bool.or_eq_false_iff, beq_eq_false_iff_ne, beq_eq_false_iff_ne]
    omega
  refine P.mul_str (by rw [decide_eq_false (by omega), decide_eq_false (by omega)]; rfl) (fun _ _ => ?_) (fun _ _ => ?_) ?_
  · have e : (1000 : Int) ≤ (2 ^ 63 - 1) / k := by
      rw [Int.le_ediv_iff_mul_le (by omega)]
      omega
    omega
  · unfold Builtin.Str.tooLong
    have sl := sizeLine_eq
    first
      | (rw [decide_eq_false]; omega)
      | (simp; omega)
  · rw [if_neg (by omega), if_neg (by rw [hc]; exact Bool.false_ne_true)]
    have hz : (⟨(List.replicate k.toNat z.cps).foldl (· ++ ·) #[]⟩ : Str).length = z.length * k.toNat := rep_size z.cps k.toNat
    refine ⟨?_, ⟨.str _, H, I.tok _, ⟨_, rfl⟩, q _ hz fun ho => rep_all z.cps _ ho k.toNat⟩⟩
    have sl := sizeLine_eq
    first
      | (rw [hz]; omega)
      | (show _ ≤ _; rw [hz]; omega)
end Sw
namespace Sw
open PySem PySem.Spec PyProof.Rows L2
/-- entries whose keys are these texts, in order -/
def KeyL : List DictEntry → List Str → Prop
  | [], [] => True
  | e :: r, k :: ks => (∃ t, e.key = .str k t) ∧ KeyL r ks
  | _, _ => False
theorem keyL_find {z : Str} : ∀ {l : List DictEntry} {ks : List Str}, KeyL l ks → (l.find? (·.key.isStr z)).map (·.val) = (ks.zip (l.map (·.val))).lookup z ∧ l.any (·.refKey) = false
  | [], [], _ => ⟨rfl, rfl⟩
  | e :: r, k :: ks, ⟨⟨t, h⟩, q⟩ => by
    obtain ⟨i1, i2⟩ := keyL_find (z := z) q
    have e1 : e.key.isStr z = (k == z) := by rw [h]; rfl
    have e2 : e.refKey = false := by unfold DictEntry.refKey; rw [h]
    refine ⟨?_, ?_⟩
    · rw [List.find?_cons, e1, List.map_cons, List.zip_cons_cons, List.lookup_cons]
      by_cases c : k = z
      · subst c
        rw [beq_self_eq_true]
        rfl
      · have c1 : (k == z) = false := by rw [beq_eq_false_iff_ne]; exact c
        have c2 : (z == k) = false := by rw [beq_eq_false_iff_ne]; exact fun y => c y.symm
        rw [c1, c2]
        exact i1
    · rw [List.any_cons, e2, i2]
      rfl
  | [], _ :: _, h => h.elim
  | _ :: _, [], h => h.elim
theorem nsIn_tab {K : PySem.W.Frag} {d0 : Addr} {c : Value} {od : Option Addr} {es : Array DictEntry} {n : Nat} {sl : Array (Option Value)} {ks : List Str} (l : K.lookup d0 = some ⟨c, od, .dict es n, sl⟩) (h : KeyL es.toList ks) (z : Str) :
    PySem.W.nsIn K d0 z = some ((ks.zip (es.toList.map (·.val))).lookup z) := by
  obtain ⟨i1, i2⟩ := keyL_find (z := z) h
  unfold PySem.W.nsIn
  rw [l]
  show (match es.toList.find? (·.key.isStr z) with
      | some e => some (some e.val)
      | none => if es.toList.any (·.refKey) then none else some none) = _
  rw [← i1, i2]
  cases es.toList.find? (·.key.isStr z) <;> rfl
/-- the values are tuples of texts -/
inductive TabV (K : PySem.W.Frag) : List (Str × List Str) → List Value → Prop
  | nil : TabV K [] []
  | cons {z : Str} {ks : List Str} {a : Addr} {r : List (Str × List Str)} {vs : List Value} : KTup K a (ks.map V.str) → TabV K r vs → TabV K ((z, ks) :: r) (.ref a :: vs)
theorem TabV.get {K : PySem.W.Frag} {z : Str} : ∀ {T : List (Str × List Str)} {vs : List Value}, TabV K T vs → (T.lookup z = none → ((T.map (·.1)).zip vs).lookup z = none) ∧ ∀ ks, T.lookup z = some ks → ∃ a, ((T.map (·.1)).zip vs).lookup z = some (.ref a) ∧ KTup K a (ks.map V.str)
  | [], _, .nil => ⟨fun _ => rfl, fun _ h => nomatch h⟩
  | (k, ks0) :: r, _, .cons (a := a) (vs := vs) h t => by
    obtain ⟨i1, i2⟩ := t.get (z := z)
    rw [List.lookup_cons, List.map_cons, List.zip_cons_cons, List.lookup_cons]
    show ((match z == k with | true => some ks0 | false => r.lookup z) = none → (match z == k with | true => some (Value.ref a) | false => ((r.map (·.1)).zip vs).lookup z) = none) ∧ ∀ ks, (match z == k with | true => some ks0 | false => r.lookup z) = some ks → ∃ a', (match z == k with | true => some (Value.ref a) | false => ((r.map (·.1)).zip vs).lookup z) = some (.ref a') ∧ KTup K a' (ks.map V.str)
    cases z == k with
    | true =>
      refine ⟨fun e => (nomatch e), fun ks e => ?_⟩
      cases e
      exact ⟨a, rfl, h⟩
    | false => exact ⟨i1, i2⟩
theorem kt1 {K : PySem.W.Frag} {a : Addr} {od : Option Addr} {x0 : Str} {t0 : Tok} {k : Nat} {osl : Array (Option Value)} (l : K.lookup a = some ⟨.type "tuple", od, .seq #[.str x0 t0] k, osl⟩) : KTup K a [.str x0] :=
  ⟨_, _, _, l, rfl, rfl, (show 1 ≤ sizeLine by decide), (.cons ⟨_, rfl⟩ .nil)⟩
theorem kt2 {K : PySem.W.Frag} {a : Addr} {od : Option Addr} {x0 x1 : Str} {t0 t1 : Tok} {k : Nat} {osl : Array (Option Value)} (l : K.lookup a = some ⟨.type "tuple", od, .seq #[.str x0 t0, .str x1 t1] k, osl⟩) : KTup K a [.str x0, .str x1] :=
  ⟨_, _, _, l, rfl, rfl, (show 2 ≤ sizeLine by decide), (.cons ⟨_, rfl⟩ (.cons ⟨_, rfl⟩ .nil))⟩
theorem kt3 {K : PySem.W.Frag} {a : Addr} {od : Option Addr} {x0 x1 x2 : Str} {t0 t1 t2 : Tok} {k : Nat} {osl : Array (Option Value)} (l : K.lookup a = some ⟨.type "tuple", od, .seq #[.str x0 t0, .str x1 t1, .str x2 t2] k, osl⟩) : KTup K a [.str x0, .str x1, .str x2] :=
  ⟨_, _, _, l, rfl, rfl, (show 3 ≤ sizeLine by decide), (.cons ⟨_, rfl⟩ (.cons ⟨_, rfl⟩ (.cons ⟨_, rfl⟩ .nil)))⟩
theorem kt4 {K : PySem.W.Frag} {a : Addr} {od : Option Addr} {x0 x1 x2 x3 : Str} {t0 t1 t2 t3 : Tok} {k : Nat} {osl : Array (Option Value)} (l : K.lookup a = some ⟨.type "tuple", od, .seq #[.str x0 t0, .str x1 t1, .str x2 t2, .str x3 t3] k, osl⟩) : KTup K a [.str x0, .str x1, .str x2, .str x3] :=
  ⟨_, _, _, l, rfl, rfl, (show 4 ≤ sizeLine by decide), (.cons ⟨_, rfl⟩ (.cons ⟨_, rfl⟩ (.cons ⟨_, rfl⟩ (.cons ⟨_, rfl⟩ .nil))))⟩
theorem kt5 {K : PySem.W.Frag} {a : Addr} {od : Option Addr} {x0 x1 x2 x3 x4 : Str} {t0 t1 t2 t3 t4 : Tok} {k : Nat} {osl : Array (Option Value)} (l : K.lookup a = some ⟨.type "tuple", od, .seq #[.str x0 t0, .str x1 t1, .str x2 t2, .str x3 t3, .str x4 t4] k, osl⟩) : KTup K a [.str x0, .str x1, .str x2, .str x3, .str x4] :=
  ⟨_, _, _, l, rfl, rfl, (show 5 ≤ sizeLine by decide), (.cons ⟨_, rfl⟩ (.cons ⟨_, rfl⟩ (.cons ⟨_, rfl⟩ (.cons ⟨_, rfl⟩ (.cons ⟨_, rfl⟩ .nil)))))⟩
theorem kt6 {K : PySem.W.Frag} {a : Addr} {od : Option Addr} {x0 x1 x2 x3 x4 x5 : Str} {t0 t1 t2 t3 t4 t5 : Tok} {k : Nat} {osl : Array (Option Value)} (l : K.lookup a = some ⟨.type "tuple", od, .seq #[.str x0 t0, .str x1 t1, .str x2 t2, .str x3 t3, .str x4 t4, .str x5 t5] k, osl⟩) : KTup K a [.str x0, .str x1, .str x2, .str x3, .str x4, .str x5] :=
  ⟨_, _, _, l, rfl, rfl, (show 6 ≤ sizeLine by decide), (.cons ⟨_, rfl⟩ (.cons ⟨_, rfl⟩ (.cons ⟨_, rfl⟩ (.cons ⟨_, rfl⟩ (.cons ⟨_, rfl⟩ (.cons ⟨_, rfl⟩ .nil))))))⟩
end Sw
namespace Sw
open PySem PySem.Spec PyProof.Rows L2
/-- texts in a set that is walked and sorted: m its members, in some order -/
def SetX (P : Program) (w : World) (h : Heap) (a : Addr) (m : List Str) : Prop :=
  ∃ D : PySem.Froz.SD, h.get? a = some (PySem.Froz.sObj "set" D) ∧ PySem.Froz.TxOk P w D m ∧ m.Nodup ∧ m.length < scanBound ∧ Ris D.2.2.place.toList ∧
    (w.params.followText "set-order" = true ∨ D.2.2.led = true)
theorem setX_at {P : Program} {w : World} {h h' : Heap} {a : Addr} {m : List Str} (R : SetX P w h a m) (k : ∀ o, h.get? a = some o → h'.get? a = some o) : SetX P w h' a m := by
  obtain ⟨D, ho, r⟩ := R
  exact ⟨D, k _ ho, r⟩
theorem tail_ris {ep : Nat} {es1 : Array (Int × Value)} {t2 : SetTable} {wd : Bool} (r : Ris t2.place.toList) : Ris (PySem.Froz.tailTx ep es1 t2 wd).2.2.place.toList := by
  unfold PySem.Froz.tailTx
  split
  · exact relayAll_ris _ _ _
  · exact r
theorem tail_led {ep : Nat} {es1 : Array (Int × Value)} {t2 : SetTable} {wd : Bool} : (PySem.Froz.tailTx ep es1 t2 wd).2.2.led = t2.led := by
  unfold PySem.Froz.tailTx
  split
  · exact relayAll_led _ _ _
  · rfl
theorem addTx_ris {hs : Int} {v : Value} {D : PySem.Froz.SD} (r : Ris D.2.2.place.toList) : Ris (PySem.Froz.addTx hs v D).2.2.place.toList := by
  have r1 := layNew_ris D.2.2 D.1 hs v r
  refine tail_ris ?_
  split <;> exact r1
theorem addTx_led {hs : Int} {v : Value} {D : PySem.Froz.SD} : (PySem.Froz.addTx hs v D).2.2.led = D.2.2.led := by
  have r1 := layNew_led D.2.2 D.1 hs v
  refine tail_led.trans ?_
  split <;> exact r1
section
variable {P : Program} {w : World} {A : Around} {E : Value → Shared → Prop} {s : Shared} {a : Addr}
theorem add_old {D : PySem.Froz.SD} {m : List Str} {k : Str} {u : Tok} {Q : Bool → Shared → Prop} (ho : s.heap.get? a = some (PySem.Froz.sObj "set" D)) (F : PySem.Froz.TxOk P w D m) (hk : k ∈ m) (hb : m.length < scanBound)
    (h : Q false s) : wpAny (model P w) A (setAddHashed a (.str k u) (hashStr w k)) Q E s := by
  obtain ⟨es, ep, t⟩ := D
  have hd : (PySem.Froz.sObj "set" (es, ep, t)).data = .set es ep t := rfl
  have hf : t.fits es.size = true := F.fit
  have hel : ElemsOf (strKind P w) es.toList := F.el
  have hb0 : es.size < scanBound := Nat.lt_of_le_of_lt (Nat.le_of_eq F.sz) hb
  have hkey : (strKind P w).is k (.str k u) = true := PySem.Froz.is_str k u
  unfold setAddHashed setAddHashedIn
  refine wpAny_holding (wpAny_bind (wpAny_setState_of ho hd hf ?_))
  dsimp only
  rw [byScan_of rfl hb0 hel]
  simp only [↓reduceIte]
  unfold setAddByScan
  refine wpAny_bind ?_
  refine wpAny_bind (wpAny_rule ?_)
  refine wpAny_bind (wpAny_setScan_of (knd := strKind P w) (k := k) hkey ho hd hf hel ?_)
  cases hr : List.findIdx? (fun e => (strKind P w).is k e.2) es.toList with
  | none =>
    obtain ⟨e, he, q⟩ := (F.mem k).mp hk
    have c := List.findIdx?_eq_none_iff.mp hr e he
    rw [q] at c
    cases c
  | some j =>
    dsimp only
    exact wpAny_pure (wpAny_pure h)
theorem setX_add {m : List Str} {k : Str} {u : Tok} {Q : Bool → Shared → Prop} (R : SetX P w s.heap a m) (room : m.length + 1 < scanBound)
    (hQ : ∀ h', Heap.SameBut a s.heap h' → SetX P w h' a (if k ∈ m then m else k :: m) → Q (!decide (k ∈ m)) { s with heap := h' }) :
    wpAny (model P w) A (setAddHashed a (.str k u) ((strKind P w).hash k)) Q E s := by
  obtain ⟨D, ho, F, nd, hb, hr, hl⟩ := R
  show wpAny (model P w) A (setAddHashed a (.str k u) (hashStr w k)) Q E s
  by_cases hk : k ∈ m
  · refine add_old ho F hk hb ?_
    have q := hQ s.heap (Heap.SameBut.refl a s.heap)
    rw [if_pos hk, decide_eq_true hk] at q
    exact q ⟨D, ho, F, nd, hb, hr, hl⟩
  · refine PySem.Froz.add_x ho F hk room ?_
    have q := hQ (s.heap.update a (fun _ => PySem.Froz.sObj "set" (PySem.Froz.addTx (hashStr w k) (.str k u) D))) (Heap.SameBut.update s.heap a _)
    rw [if_neg hk, decide_eq_false hk] at q
    exact q ⟨_, PySem.Froz.get_upd _ ho rfl, PySem.Froz.add_ok u F, List.nodup_cons.mpr ⟨hk, nd⟩, room, addTx_ris hr, hl.imp id fun z => addTx_led.trans z⟩
theorem setX_fresh {h : Heap} {a : Addr} (ho : h.get? a = some { cls := .type "set", dict := none, data := .set #[] 0 (.fresh 0 0 (!w.params.followText "set-order")) }) : SetX P w h a [] :=
  ⟨(#[], 0, .fresh 0 0 (!w.params.followText "set-order")), ho, PySem.Froz.TxOk.nil rfl, List.nodup_nil, by decide, List.Pairwise.nil, by
    show _ ∨ (!w.params.followText "set-order") = true
    cases w.params.followText "set-order"
    · exact .inr rfl
    · exact .inl rfl⟩
theorem set_update_txs {I : Addr} {fp wr : List Addr} {G : Array GenState → Array GenState → Prop} {n : Nat} {Pv : Nat → Value → Prop} {St : Nat → Shared → Prop} {R : Result → Shared → Prop}
    (W : WalksS P w A.in1 I fp wr G n Pv St) (S : Addr) (hSf : S ∉ fp) (ns : List Str) (hn : n = ns.length) (hb : ns.length + 1 < scanBound) (hval : ∀ i v, Pv i v → ∃ k t, ns[i]? = some k ∧ v = .str k t) :
    ∀ (k i : Nat) (s : Shared), n - i = k → i ≤ n → St i s → (∃ m, m.length ≤ i ∧ (∀ z, z ∈ m ↔ z ∈ ns.take i) ∧ SetX P w s.heap S m) →
      (∀ s' m, Moved (S :: wr) G s s' → m.length ≤ n → (∀ z, z ∈ m ↔ z ∈ ns) → SetX P w s'.heap S m → R (.ok (.ret .none)) s') →
      codeAny (model P w) A (.builtin "set.update.loop" ⟨[.ref S, .ref I], []⟩) R s := by
  have hSw : S ∉ wr := fun h => hSf (W.sub _ h)
  have hsub : ∀ b ∈ wr, b ∈ S :: wr := fun b hb => List.mem_cons_of_mem _ hb
  intro k
  induction k with
  | zero =>
    intro i s hk' hi hst ⟨m, hc, hm0, hS⟩ hR
    have hin : i = n := by omega
    subst hin
    refine codeAny_builtin F.entry_set_update_loop ?_
    rw [Around.under_plainId F.plain_set_update_loop _]
    show wpAny _ A.in1 (pyNext (.ref I) >>= _) _ _ s
    refine wpAny_bind (W.done s _ _ hst fun s' hm => ?_)
    show wpAny _ A.in1 (ret Value.none) _ _ s'
    have e : ns.take i = ns := List.take_of_length_le (by omega)
    rw [e] at hm0
    exact wpAny_pure (hR s' m (hm.mono hsub) hc hm0 (setX_at hS fun o e => hm.heap S o hSw e))
  | succ k ih =>
    intro i s hk' hi hst ⟨m, hc, hm0, hS⟩ hR
    have hlt : i < n := by omega
    refine codeAny_builtin F.entry_set_update_loop ?_
    rw [Around.under_plainId F.plain_set_update_loop _]
    show wpAny _ A.in1 (pyNext (.ref I) >>= _) _ _ s
    refine wpAny_bind (W.item i s _ _ hlt hst fun v s' hP hst' hm => ?_)
    obtain ⟨z, t, hz, rfl⟩ := hval i v hP
    have hS' : SetX P w s'.heap S m := setX_at hS fun o e => hm.heap S o hSw e
    show wpAny _ A.in1 (holding [Value.str z t] (setAdd S (.str z t)) >>= _) _ _ s'
    refine wpAny_bind (wpAny_holding ?_)
    unfold setAdd
    refine wpAny_holding ?_
    refine wpAny_bind ((strKind P w).pyHash (k := z) (PySem.Froz.is_str z t) ?_)
    refine setX_add (s := { s' with toks := s'.toks + 1 }) hS' (by omega) fun h' hsb hS2 => ?_
    have hS3 : (if z ∈ m then m else z :: m).length ≤ i + 1 ∧ ∀ y, y ∈ (if z ∈ m then m else z :: m) ↔ y ∈ ns.take (i + 1) := by
      have e : ns.take (i + 1) = ns.take i ++ [z] := by rw [List.take_add_one, hz] <;> rfl
      rw [e]
      by_cases c : z ∈ m
      · rw [if_pos c]
        refine ⟨by omega, fun y => ?_⟩
        rw [List.mem_append, ← hm0 y, List.mem_singleton]
        exact ⟨.inl, fun q => q.elim id fun q => q ▸ c⟩
      · rw [if_neg c]
        refine ⟨by rw [List.length_cons]; omega, fun y => ?_⟩
        rw [List.mem_append, ← hm0 y, List.mem_singleton, List.mem_cons]
        exact Or.comm
    refine wpAny_pure ⟨plainId_quiet F.plain_set_update_loop _, ih (i + 1) _ (by omega) hlt (W.frame _ s' _ _ hst' (Nat.le_succ _) fun b hb o e => ?_) ⟨_, hS3.1, hS3.2, hS2⟩ fun s'' m2 hm'' hc'' hq'' hS'' => ?_⟩
    · rw [hsb.2 b (fun h : b = S => hSf (by rw [← h]; exact hb))]; exact e
    · refine hR s'' m2 (Moved.trans W.gtrans ((hm.mono hsub).then_heap (Nat.le_succ _) fun b o hb e => ?_) hm'') hc'' hq'' hS''
      rw [hsb.2 b (fun h : b = S => hb (by rw [h]; exact List.mem_cons_self))]; exact e
end
end Sw
namespace Sw
open PySem PySem.Spec PyProof.Rows L2
section
variable {P : Program} {w : World} {A : Around} {E : Value → Shared → Prop} {s : Shared} {a : Addr}
/-- the new set's object -/
def nSet (w : World) : Obj := { cls := .type "set", dict := none, data := .set #[] 0 (.fresh 0 0 (!w.params.followText "set-order")) }
theorem call_setX {l : Addr} {items : Array Value} (ns : List Str) {Q : Value → Shared → Prop} (hh : A.handled = none) (hl : s.heap.IsList l items) (hit : StrsAre items.toList ns) (hb : ns.length + 1 < scanBound)
    (h : ∀ (h' : Heap) (tk : Nat) (m : List Str), SetX P w h' s.heap.objs.size m → m.length ≤ ns.length → (∀ z, z ∈ m ↔ z ∈ ns) → (∀ b o, s.heap.get? b = some o → h'.get? b = some o) → Q (.ref s.heap.objs.size) { s with heap := h', toks := tk }) :
    wpAny (model P w) A (call (.type "set") [.ref l]) Q E s := by
  have hisz : items.size = ns.length := by
    have q := StrsAre.len_eq hit
    rw [Array.length_toList] at q
    exact q
  obtain ⟨c, tl, hmro⟩ := F.called_set.mro
  have hmade := F.called_set.made
  have hsub := F.called_set.sub
  have h1 := F.called_set.notType
  have h2 := F.called_set.canCreate
  have hct := F.typeCall_set_1 (.ref l)
  have hS : (s.heap.push (nSet w)).get? s.heap.objs.size = some (nSet w) := Heap.get?_push_size _ rfl
  have hT : Shared.TypeIs { s with heap := s.heap.push (nSet w) } (.ref s.heap.objs.size) "set" := ⟨_, hS, rfl⟩
  have hz1 : (s.heap.push (nSet w)).objs.size = s.heap.objs.size + 1 := Heap.size_push ..
  have hli := F.called_set.init.lookup
  have hbi := F.called_set.init.bind (.ref s.heap.objs.size)
  refine wpAny_call (codeAny_of_tree ?_)
  show wpAny _ _ (callAny (.type "set") _) _ _ _
  refine wpAny_pure ⟨Code.quiet_builtin _ (by decide +kernel), codeAny_builtin F.entry_type_call ?_⟩
  rw [Around.under_plain (weight_type_call_type "set" [.ref l] []) rfl]
  repeat (any_goals (first | assumption | wp_step))
  refine codeAny_mono (code_set_led1 (.ref l) (E := E) (Q₁ := fun obj s₁ => obj = .ref s.heap.objs.size ∧ s₁ = { s with heap := s.heap.push (nSet w) }) ⟨rfl, rfl⟩) fun r s₁ hr => ?_
  cases r with
  | error e => exact hr
  | ok fl =>
    cases fl with
    | ret obj =>
      obtain ⟨rfl, rfl⟩ := hr
      repeat (any_goals (first | assumption | wp_step))
      refine codeAny_mono (codeAny_call_builtin (R := wants (fun r s₂ => r = .none ∧ ∃ h' tk m, s₂ = { s with heap := h', toks := tk } ∧ SetX P w h' s.heap.objs.size m ∧ m.length ≤ ns.length ∧ (∀ z, z ∈ m ↔ z ∈ ns) ∧
          (∀ b o, s.heap.get? b = some o → h'.get? b = some o)) E) F.called_set.init.plain F.entry_set_init (check_set_init_1 hT ?_)) fun r₂ s₂ hr₂ => ?_
      · obtain ⟨ol, hol, hcl, nl, hdl⟩ := hl
        obtain ⟨ocls, odict, odata, oslots⟩ := ol
        simp only at hcl hdl
        subst hcl; subst hdl
        have hol' : (s.heap.push (nSet w)).get? l = some { cls := .type "list", dict := odict, data := .seq items nl, slots := oslots } := Heap.get?_push_of_some _ hol
        have hsls := F.sub_list_set
        have hslf := F.sub_list_frozenset
        have hne : (Value.type "list" == Value.type "dict") = false := by decide
        have hl1 : (s.heap.push (nSet w)).IsList l items := ⟨_, hol', rfl, nl, rfl⟩
        have hlS : l < s.heap.objs.size := Heap.lt_size hol
        have hh3 : A.in1.in1.in1.handled = none := by simp [hh]
        have hneI : l ≠ (s.heap.push (nSet w)).objs.size := by rw [hz1]; exact Nat.ne_of_lt (Nat.lt_succ_of_lt hlS)
        have hSf : s.heap.objs.size ∉ [(s.heap.push (nSet w)).objs.size, l] := by
          rw [hz1]; simp only [List.mem_cons, List.not_mem_nil, or_false, not_or]; exact ⟨Nat.ne_of_lt (Nat.lt_succ_self _), Nat.ne_of_gt hlS⟩
        have hval : ∀ (i : Nat) (v : Value), items[i]? = some v → ∃ k t, ns[i]? = some k ∧ v = .str k t := fun i v hv => by
          have hi : i < ns.length := by rw [← hisz]; exact (Array.getElem?_eq_some_iff.mp hv).1
          obtain ⟨t, e⟩ := SS.strs_at hit i v (by rw [Array.getElem?_toList]; exact hv)
          refine ⟨ns[i], t, List.getElem?_eq_getElem hi, ?_⟩
          rw [e, List.getD_eq_getElem?_getD, List.getElem?_eq_getElem hi] <;> rfl
        unfold Builtin.«set.__init__» noKeywords Builtin.Frozenset.updateFrom
        generalize hPI : pyIter = PI
        wp_walk
        subst hPI
        refine wpAny_pyIter_list hl1 ?_
        refine wpAny_bind (wpAny_runValue ?_)
        refine set_update_txs ((Walks.list hh3 _ l hneI items).toS) s.heap.objs.size
          hSf ns hisz hb hval (items.size - 0) 0 _ (by omega) (Nat.zero_le _)
          ⟨⟨_, Heap.get?_push_size _ rfl, rfl, rfl⟩, (hl1.push _)⟩ ⟨[], Nat.le_refl 0, fun z => Iff.rfl, setX_fresh (Heap.get?_push_of_some _ hS)⟩ fun s' m hm hc' hq' hS' => ?_
        obtain ⟨h', g2, d', tk', os'⟩ := s'
        have eg : g2 = s.gens := hm.gens
        have ed : d' = s.drawn := hm.drawn
        have eo : os' = s.os := hm.os
        subst eg; subst ed; subst eo
        show wpAny _ _ _ _ _ _
        refine wpAny_pure ?_
        show wpAny _ _ (ret Value.none) _ _ _
        rw [hisz] at hc'
        refine wpAny_pure ⟨rfl, h', tk', m, rfl, hS', hc', hq', fun b o e => ?_⟩
        have hb0 : b < s.heap.objs.size := Heap.lt_size e
        refine hm.heap b o ?_ (Heap.get?_push_of_some _ (Heap.get?_push_of_some _ e))
        rw [hz1]; simp only [List.mem_cons, List.not_mem_nil, or_false, not_or]; exact ⟨Nat.ne_of_lt hb0, Nat.ne_of_lt (Nat.lt_succ_of_lt hb0)⟩
      · cases r₂ with
        | error e => exact hr₂
        | ok fl₂ =>
          cases fl₂ with
          | ret r =>
            obtain ⟨rfl, h', tk, m, rfl, hS', hc', hq', hk'⟩ := hr₂
            repeat (any_goals (first | assumption | wp_step))
            exact h _ _ _ hS' hc' hq' hk'
          | _ => exact hr₂.elim
    | _ => exact hr.elim
end
/-- the state of a set of texts -/
def SetXO (P : Program) (w : World) (a : Addr) (m : List Str) : HO := .ext fun h => SetX P w h a m
section
variable {X : Cx}
theorem setXO_new {P : Program} {w : World} {H : Hp} {h : Heap} {a : Addr} {m : List Str} (R : SetX P w h a m) : ObjOk P w H h a (SetXO P w a m) := by
  have ⟨D, ho, _⟩ := R
  exact ⟨R, ⟨_, ho⟩, fun h1 h2 p k => setX_at p k⟩
/-- set(xs), xs a list of texts -/
def rSetX (K : PySem.W.Frag) (P : Program) (w : World) : List V → Hp → VK → Prop := fun vs H Q => ∃ (l : Addr) (xs : List Str), vs = [V.ref l] ∧ SqL K H l (xs.map V.str) ∧ xs.length < 64 ∧
  ∀ (p : Addr) (m : List Str), m.Nodup → m.length < 64 → (∀ z, z ∈ m ↔ z ∈ xs) → H p = none → Q (.ref p) (upd H p (SetXO P w p m))
theorem cr_setX (hc : X.calm = true) : CallR X (.type "set") (rSetX X.K X.prog X.w) := by
  intro pins s σ H vs us Q I r h
  obtain ⟨l, xs, rfl, hl, hf, q⟩ := h
  rw [Vals.ref1 r]
  obtain ⟨its, rv, pl, hz⟩ := I.list hl
  have hn : H s.heap.objs.size = none := I.hok.fresh (Nat.le_refl _)
  refine call_setX (P := X.prog) (w := X.w) xs (I.ok.hd hc) pl.isList (by simpa using strsAre_of rv) (by unfold scanBound; omega) fun h' tk m R hm hq k => ?_
  have nd : m.Nodup := R.elim fun _ z => z.2.2.1
  exact ⟨.ref s.heap.objs.size, upd H s.heap.objs.size (SetXO X.prog X.w s.heap.objs.size m), I.laid (t' := tk) k (Nat.le_refl _) (setXO_new R), rfl, q _ m nd (Nat.lt_of_le_of_lt hm hf) hq hn⟩
/-- the texts of a set's rows -/
theorem strs_rows {P : Program} {w : World} : ∀ (l : List (Int × Value)), ElemsOf (strKind P w) l → ∃ ss, StrsAre (l.map (·.2)) ss ∧ (∀ z, z ∈ ss ↔ ∃ e ∈ l, (strKind P w).is z e.2 = true)
  | [], _ => ⟨[], .nil, fun z => by simp⟩
  | e :: l, h => by
    obtain ⟨ss, h1, h2⟩ := strs_rows l fun x hx => h x (List.mem_cons_of_mem _ hx)
    obtain ⟨⟨k, hk, _⟩, _⟩ := h e List.mem_cons_self
    have hs : ∃ t, e.2 = Value.str k t := by
      have q : Value.isStrOf k e.2 = true := hk
      revert q
      cases e.2 <;> intro q <;> first | (simp [Value.isStrOf] at q; done) | skip
      rename_i y t
      have : y = k := by simpa [Value.isStrOf] using q
      exact ⟨t, by rw [this]⟩
    obtain ⟨t, ht⟩ := hs
    refine ⟨k :: ss, ?_, fun z => ?_⟩
    · rw [List.map_cons, ht]
      exact .cons k t h1
    · rw [List.mem_cons, h2 z]
      constructor
      · rintro (rfl | ⟨x, hx, q⟩)
        · exact ⟨e, List.mem_cons_self, hk⟩
        · exact ⟨x, List.mem_cons_of_mem _ hx, q⟩
      · rintro ⟨x, hx, q⟩
        rcases List.mem_cons.mp hx with y | y
        · subst y
          exact .inl ((strKind P w).inj x.2 z k q hk)
        · exact .inr ⟨x, y, q⟩
end
end Sw
namespace Sw
open PySem PySem.Spec PyProof.Rows L2
theorem perm_few : ∀ (m ss : List Str), m.Nodup → (∀ z, z ∈ m → z ∈ ss) → ss.length ≤ m.length → m.Perm ss
  | [], ss, _, _, h => by
    rw [List.length_eq_zero_iff.mp (Nat.le_zero.mp h)]
  | x :: m, ss, nd, hs, h => by
    obtain ⟨n1, n2⟩ := List.nodup_cons.mp nd
    have hx := hs x List.mem_cons_self
    have p := perm_few m (ss.erase x) n2 (fun z hz => (List.mem_erase_of_ne (show z ≠ x from fun e => n1 (e ▸ hz))).mpr (hs z (List.mem_cons_of_mem _ hz))) (by
      rw [List.length_erase_of_mem hx]
      rw [List.length_cons] at h
      omega)
    exact (p.cons x).trans (List.perm_cons_erase hx).symm
section
variable {P : Program} {w : World} {A : Around} {E : Value → Shared → Prop} {s : Shared} {a : Addr}
theorem sorted_setX {m : List Str} {Q : Value → Shared → Prop} (R : SetX P w s.heap a m) (hh : A.handled = none) (h64 : m.length < 64)
    (hQ : ∀ s' p (out : Array Value) (c : Nat) (ys : List Str), (∀ b o, s.heap.get? b = some o → s'.heap.get? b = some o) → s'.gens = s.gens → s'.os = s.os → s.heap.objs.size ≤ p →
      s'.heap.get? p = some (seqObj "list" out c) → StrsAre out.toList ys → ys.Perm m → sortedS ys = true → Q (.ref p) s') :
    wpAny (model P w) A (call (.builtin "sorted") [.ref a]) Q E s := by
  obtain ⟨⟨es, ep, t⟩, ho, T, nd, hb, hr, hl⟩ := R
  obtain ⟨ss, hss, hmem⟩ := strs_rows (P := P) (w := w) es.toList T.el
  have hsz : es.size = m.length := T.sz
  have hsl : ss.length = m.length := by
    rw [← StrsAre.len_eq hss, List.length_map, Array.length_toList]; exact hsz
  have pm0 : m.Perm ss := perm_few m ss nd (fun z hz => (hmem z).mpr ((T.mem z).mp hz)) (Nat.le_of_eq hsl)
  refine Calls.call_function_entry kind_sorted plain_sorted entry_sorted (args_sorted1 _) ?_
  unfold Builtin.«sorted»
  refine wpAny_bind (m := checkCount "sorted" 1 1 _) (wpAny_pure ?_)
  refine wpAny_bind (collect_set (A := A.in1) hh ⟨_, ho, rfl, rfl⟩ T.fit (Nat.lt_of_le_of_lt (Nat.le_of_eq hsz) hb) hr hl fun s1 vs k1 hz g1 o1 pm => ?_)
  have hvl : vs.length = m.length := by rw [pm.length_eq, List.length_map, Array.length_toList]; exact hsz
  have hS : StrsAre vs (vs.map strOf) := strsAre_map vs fun v hv => hss.all v (pm.mem_iff.mp hv)
  have pk : (vs.map strOf).Perm m := by
    have q := pm.map strOf
    rw [hss.strs] at q
    exact q.trans pm0.symm
  have h64' : vs.length < 64 := by rw [hvl]; exact h64
  have hL : vs.length ≤ sizeLine := by rw [sizeLine_eq]; omega
  refine wpAny_bind (wpAny_newList ?_ hL)
  have hoL : (s1.heap.push (seqObj "list" vs.toArray 0)).get? s1.heap.objs.size = some (seqObj "list" vs.toArray 0) := Heap.get?_push_size _ rfl
  refine wpAny_bind (wpAny_holding (wpAny_call_entry slot_list_sort ⟨_, hoL, rfl⟩ entry_list_sort
    (list_sort_treeKAny strKind_oneLt hoL hS.keysOf (fun v₁ v₂ rest e => keyKind_strs (by rw [← e]; exact hS)) hL fun st' hp hs => ⟨_, rfl, ?_⟩) (args_list_sort _)))
  obtain ⟨ys, a1, a2, a3⟩ := sorted_out_str hS hp hs
  obtain ⟨c, hc⟩ := sortedHeap_at (vs := vs) (out := (arrOf st').map (·.2)) hoL
  refine wpAny_pure ⟨_, rfl, hQ _ s1.heap.objs.size _ c ys (fun b u e => ?_) g1 o1 hz hc a1 (a2.trans pk) a3⟩
  have q := k1 b u e
  have hlt := Heap.lt_size q
  show (sortedHeap (s1.heap.push (seqObj "list" vs.toArray 0)) s1.heap.objs.size vs ((arrOf st').map (·.2))).get? b = some u
  rw [sortedHeap_old (Nat.ne_of_lt hlt) (by rw [size_push']; exact Nat.lt_succ_of_lt hlt)]
  exact Heap.get?_push_of_some _ q
end
section
variable {X : Cx}
/-- sorted(texts' set) -/
def rSortX (P : Program) (w : World) : List V → Hp → VK → Prop := fun vs H Q => ∃ (a : Addr) (m : List Str), vs = [V.ref a] ∧ H a = some (SetXO P w a m) ∧ m.length < 64 ∧
  ∀ (ys : List Str) (p : Addr), ys.Perm m → sortedS ys = true → H p = none → Q (.ref p) (upd H p (.lst (ys.map V.str)))
theorem cr_sortX (hc : X.calm = true) : CallR X (.builtin "sorted") (rSortX X.prog X.w) := by
  intro pins s σ H vs us Q I r h
  obtain ⟨a, m, rfl, ha, h64, q⟩ := h
  have R : SetX X.prog X.w s.heap a m := (I.hok a _ ha).1
  rw [Vals.ref1 r]
  refine sorted_setX R (I.ok.hd hc) h64 fun s' p out c ys k g o hp hg hi pm hs => ?_
  have hlen : (ys.map V.str).length ≤ sizeLine := by rw [List.length_map, pm.length_eq, sizeLine_eq]; omega
  have hn : H p = none := I.hok.fresh hp
  have J : Inv X pins σ (upd H p (.lst (ys.map V.str))) { s with heap := s'.heap, gens := s'.gens, drawn := s'.drawn, toks := s'.toks } :=
    I.call (ch := []) (Un.laid k hp hn) (I.hok.laid k hp ⟨hlen, out.toList, c, vals_of_strs hi, hg⟩) (by rw [g]; exact I.bare) (fun _ z => nomatch z)
  have e : s' = { s with heap := s'.heap, gens := s'.gens, drawn := s'.drawn, toks := s'.toks } := by
    cases s'
    cases s
    cases o
    rfl
  rw [e]
  exact ⟨.ref p, _, J, rfl, q ys p pm hs hn⟩
end
end Sw
namespace Sw
open PySem PySem.Spec PyProof.Rows L2
/-- a written dict whose place is new, and not that of sys.modules -/
def tDispN (trs : List (TE × TE)) : TE := fun σ H Q => ∀ p, H p = none → p ≠ sysModules → tPairs trs σ (upd H p (.dK [])) fun ps H2 => H2 p = some (.dK []) ∧ ∃ kvs : List (Key × V), ps = kvs.map (fun kv => (kV kv.1, kv.2)) ∧ kvs.length ≤ 15 ∧ Q (.ref p) (upd H2 p (.dK (mergeK [] kvs)))
theorem pe_dispN {X : Cx} {pos : Pos} {keys : List (Option Expr)} {values : List Expr} {trs : List (TE × TE)} (h : PPs X pos keys values trs) (hall : keys.all (·.isSome) = true) (hl : keys.length = values.length) (h0 : keys ≠ [])
    (h15 : keys.length ≤ 15) : PE X (.Dict keys values pos) (tDispN trs) := by
  refine ⟨fun pins s σ H Q I q => ?_⟩
  have I1 := I.laid (a := s.heap.objs.size) (o := .dK []) (t' := s.toks) (fun _ _ q => Heap.get?_push_of_some _ q) (Nat.le_refl _) (dk_empty s.heap I.big)
  refine wpAny_Dict_walk (knd := mixKind X.prog X.w) hall hl h0 h15 (thn (h.run pins _ σ _ _ I1 (q _ (I.hok.fresh (Nat.le_refl _)) (Nat.ne_of_gt I.big))) fun ws s2 g => ?_)
  obtain ⟨ps, H2, I2, rel, e, kvs, ep, lk, q2⟩ := g
  subst ep
  obtain ⟨rs, c, rk⟩ := carries_of (P := X.prog) (w := X.w) rel
  obtain ⟨z, hd, vs0, r0, dd⟩ := dk_of I2.hok e
  cases r0
  have hz : (mergeK [] kvs).length ≤ sizeLine := by
    have h1 := length_mergeK kvs []
    rw [List.length_nil] at h1
    rw [sizeLine_eq]
    omega
  refine ⟨rs, c, dd, fun h' dd' hs => ⟨.ref s.heap.objs.size, _, ?_, rfl, q2⟩⟩
  exact d_write I2 (by rw [e]; exact True.intro) hs (let ⟨u, _, _, hu, _⟩ := dd'; ⟨u, hu⟩) (dk_new hz hd (rk.merge .nil) dd')
theorem gv_disp1 {K : PySem.W.Frag} {b : Addr} {mu : Addr → Prop} {σ : L2.St} {H0 : Hp} {D : PyData → Prop} {te : TE} {k : Str} {d : PyData} (hm : mu b) (h : ∀ mv : Addr → Prop, mv b → Ge K b mv σ H0 te d) (hd : D (.dict [(.str k, d)])) :
    Gv K b mu σ H0 (tDispN [(tC (.str k), te)]) D := fun H hb m Q q p np ns => by
  have npb : p ≠ b := fun z => by
    obtain ⟨_, _, _, _, _, e, _⟩ := hb.bag
    rw [z, e] at np
    cases np
  have r0 := Rel.of_same hb.bag (same_upd (o := .dK []) np)
  refine h (fun a => mu a ∨ a = p) (.inl hm) (upd H p (.dK [])) (hb.trans r0) (fun a z => ?_) _ fun v H1 r1 e1 => ?_
  · rcases z with z | rfl
    · exact (m.rel r0) a z
    · exact .inl (by rw [upd_same]; exact fun z => nomatch z)
  have hp := r1.keep _ _ npb upd_same
  refine ⟨hp, [(.inr k, v)], rfl, by simp, q _ _ _ hd ((r0.trans r1).at hb.bag np) (.dct (m.new np ns) (.inl upd_same) ?_) (own_not (fun _ z => nomatch z))⟩
  refine .cons (k := .inr k) ((e1.fut (mu := fun a => mu a ∨ a = p) fun c o e z => ?_).less fun a z => .inl z) .nil
  by_cases c1 : c = p
  · subst c1
    rw [hp] at e
    cases e
    rcases z with z | ⟨xs, z⟩ | ⟨ob, u, z⟩
    · exact absurd (.inr rfl) z
    · cases z
    · cases z
  · rw [upd_ne c1]
    exact e
end Sw
namespace Sw
open PySem PySem.Spec PyProof.Rows L2
/-- the empty text, k times -/
def rRepE : R2 := fun x y H Q => ∃ (z : Str) (k : Int), x = .str z ∧ y = .int k ∧ 2 ≤ k ∧ k ≤ 1000 ∧ z.length = 0 ∧ Q (.str z) H
theorem op_repE {X : Cx} : OpR X (binaryOp .Mult) rRepE := by
  intro pins s σ H x y v u Q I rx ry h
  obtain ⟨z, k, rfl, rfl, k2, k1, z1, q⟩ := h
  obtain ⟨t, rfl⟩ := rx
  obtain ⟨t', rfl⟩ := ry
  have hc : (k == 1 || z.length == 0) = true := by
    rw [Bool.or_eq_true, beq_iff_eq, beq_iff_eq]
    exact .inr z1
  refine P.mul_str (by rw [decide_eq_false (by omega), decide_eq_false (by omega)]; rfl) (fun _ _ => ?_) (fun _ _ => ?_) ?_
  · rw [z1]
    have e : (0 : Int) ≤ (2 ^ 63 - 1) / k := Int.ediv_nonneg (by decide) (by omega)
    first | omega | exact e
  · unfold Builtin.Str.tooLong
    have sl := sizeLine_eq
    rw [z1]
    first
      | (rw [decide_eq_false]; omega)
      | (simp; omega)
      | simp
  · rw [if_neg (by omega), if_pos hc]
    exact ⟨.str z, H, I, ⟨_, rfl⟩, q⟩
/-- a text, k times: what holds of its signs -/
def rRepP : R2 := fun x y H Q => ∃ (z : Str) (k : Int), x = .str z ∧ y = .int k ∧ 2 ≤ k ∧ k ≤ 1000 ∧ 1 ≤ z.length ∧ z.length ≤ 1000 ∧ ∀ r : Str, r.length = z.length * k.toNat → (∀ p : Nat → Bool, z.cps.all p = true → r.cps.all p = true) → Q (.str r) H
theorem op_repP {X : Cx} : OpR X (binaryOp .Mult) rRepP := by
  intro pins s σ H x y v u Q I rx ry h
  obtain ⟨z, k, rfl, rfl, k2, k1, z1, z2, q⟩ := h
  obtain ⟨t, rfl⟩ := rx
  obtain ⟨t', rfl⟩ := ry
  have hm : z.length * k.toNat ≤ 1000000 := Nat.le_trans (Nat.mul_le_mul z2 (show k.toNat ≤ 1000 by omega)) (by decide)
  have hc : (k == 1 || z.length == 0) = false := by
    rw [Bool.or_eq_false_iff, beq_eq_false_iff_ne, beq_eq_false_iff_ne]
    omega
  refine P.mul_str (by rw [decide_eq_false (by omega), decide_eq_false (by omega)]; rfl) (fun _ _ => ?_) (fun _ _ => ?_) ?_
  · have e : (1000 : Int) ≤ (2 ^ 63 - 1) / k := by
      rw [Int.le_ediv_iff_mul_le (by omega)]
      omega
    omega
  · unfold Builtin.Str.tooLong
    have sl := sizeLine_eq
    first
      | (rw [decide_eq_false]; omega)
      | (simp; omega)
  · rw [if_neg (by omega), if_neg (by rw [hc]; exact Bool.false_ne_true)]
    have hz : (⟨(List.replicate k.toNat z.cps).foldl (· ++ ·) #[]⟩ : Str).length = z.length * k.toNat := rep_size z.cps k.toNat
    refine ⟨?_, ⟨.str _, H, I.tok _, ⟨_, rfl⟩, q _ hz fun p ho => rep_all z.cps p ho k.toNat⟩⟩
    have sl := sizeLine_eq
    first
      | (rw [hz]; omega)
      | (show _ ≤ _; rw [hz]; omega)
/-- a text, empty or not, k times -/
def rRepW : R2 := fun x y H Q => ∃ (z : Str) (k : Int), x = .str z ∧ y = .int k ∧ 2 ≤ k ∧ k ≤ 1000 ∧ z.length ≤ 1000 ∧ ∀ r : Str, r.length = z.length * k.toNat → (∀ p : Nat → Bool, z.cps.all p = true → r.cps.all p = true) → Q (.str r) H
theorem op_repW {X : Cx} : OpR X (binaryOp .Mult) rRepW := by
  intro pins s σ H x y v u Q I rx ry h
  obtain ⟨z, k, rfl, rfl, k2, k1, z2, q⟩ := h
  by_cases e : z.length = 0
  · exact op_repE pins s σ H _ _ _ _ Q I rx ry ⟨z, k, rfl, rfl, k2, k1, e, q z (by rw [e, Nat.zero_mul]) fun _ z => z⟩
  · exact op_repP pins s σ H _ _ _ _ Q I rx ry ⟨z, k, rfl, rfl, k2, k1, by omega, z2, q⟩
end Sw
/-! Dicts: beside the empty one, copied. -/
namespace Sw
open PySem PySem.Spec PyProof.Rows L2
/-- a dict beside {} -/
def rNeNilD : R2 := fun x y H Q => ∃ p q kvs, x = .ref p ∧ y = .ref q ∧ Rd H p (.dK kvs) ∧ Rd H q (.dK []) ∧ Q (.bl (!decide (kvs = []))) H
theorem op_neNilD {X : Cx} (hu : X.A.units + 64 < cLine) : OpR X (compareOp .NotEq) rNeNilD := by
  intro pins s σ H x y v u Q I rx ry h
  obtain ⟨p, q, kvs, rfl, rfl, hp, hq, k⟩ := h
  cases rx
  cases ry
  obtain ⟨z1, l1, vs1, r1, d1⟩ := dk_rd I.hok hp
  obtain ⟨z2, l2, vs2, r2, d2⟩ := dk_rd I.hok hq
  cases r2
  have hl : kvs.length = vs1.length := Paired.length r1
  have e : (!((vs1.length == ([] : List (Key × Value)).length) && decide (kvs = []))) = !decide (kvs = []) := by
    cases kvs with
    | nil => simp at hl; simp [hl]
    | cons _ _ => simp
  refine PySem.W.keq_ne (knd := mixKind X.prog X.w) (r := decide (kvs = [])) l1 l2 d1 d2 (by omega) (fun z => ?_) ⟨.bl _, H, I, ?_, k⟩
  · have : kvs = [] := List.eq_nil_of_length_eq_zero (by rw [hl, z]; rfl)
    subst this
    cases r1
    exact .nil
  · rw [e]
    rfl
/-- dict(d): a copy, its place new, and not that of sys.modules -/
theorem call_dictN {X : Cx} : CallR X (.type "dict") (fun xs H Q => ∃ (a : Addr) (kvs : List (Key × V)), xs = [.ref a] ∧ Rd H a (.dK kvs) ∧ ∀ p, H p = none → p ≠ sysModules → Q (.ref p) (upd H p (.dK kvs))) := by
  intro pins s σ H xs us Q I r q
  obtain ⟨a, kvs, ex, hq, q⟩ := q
  refine thn (call_dictD pins s σ H xs us (fun v H' => ∃ p, v = .ref p ∧ H p = none ∧ H' = upd H p (.dK kvs)) I r ⟨a, kvs, ex, hq, fun p np => ⟨p, rfl, np, rfl⟩⟩) fun v s1 ⟨x, H1, I1, r1, p, e1, np, e2⟩ => ?_
  subst e1 e2
  obtain ⟨_, ne, _⟩ := dk_of I1.hok (upd_same (H := H) (a := p) (o := .dK kvs))
  exact ⟨.ref p, _, I1, r1, q p np (fun z => by rw [z] at ne; simp at ne)⟩
end Sw
/-! Menus of things made of one tuple: slices, sums, lists. -/
namespace Sw
open PySem PySem.Spec PyProof.Rows L2
/-- list(x): its place is new, and not that of sys.modules -/
theorem call_listN {X : Cx} : CallR X (.type "list") (fun xs H Q => ∃ p ys, xs = [.ref p] ∧ (SqL X.K H p ys ∨ SqT X.K H p ys) ∧ ∀ l, H l = none → l ≠ sysModules → Q (.ref l) (upd H l (.lst ys))) := by
  intro pins s σ H xs us Q I r h
  obtain ⟨p, ys, rfl, hq, q⟩ := h
  obtain ⟨u, rfl, rx⟩ := vals1 r
  cases rx
  have fin : ∀ (its : List Value), Vals ys its → ys.length ≤ sizeLine → ∀ (h' : Heap) (c' : Nat), (∀ b o', s.heap.get? b = some o' → h'.get? b = some o') →
      h'.get? s.heap.objs.size = some { cls := .type "list", dict := none, data := .seq its.toArray c', slots := #[] } → EP X pins σ Q (.ref s.heap.objs.size) { s with heap := h' } := fun its r' hz h' c' kp e =>
    ⟨.ref s.heap.objs.size, _, I.laid (t' := s.toks) kp (Nat.le_refl _) (show ObjOk X.prog X.w _ h' _ (.lst ys) from ⟨hz, its, c', r', e⟩), rfl, q _ (I.hok.fresh (Nat.le_refl _)) (Nat.ne_of_gt I.big)⟩
  rcases hq with hq | hq
  · obtain ⟨its, r', pl, hz⟩ := I.list hq
    have hlen := r'.length
    obtain ⟨o, ho, hc, n, hd⟩ := pl.isList
    exact call_list_seq p (.inl rfl) ho hc hd (fun h' c' kp e => fin its r' hz h' c' kp e) (by simp only [List.size_toArray] <;> omega)
  · obtain ⟨its, r', pl, hz⟩ := I.tuple hq
    have hlen := r'.length
    obtain ⟨o, ho, hc, n, hd⟩ := pl
    exact call_list_seq p (.inr rfl) ho hc hd (fun h' c' kp e => fin its r' hz h' c' kp e) (by simp only [List.size_toArray] <;> omega)
theorem call_dictPN {X : Cx} (hcalm : X.calm = true) : CallR X (.type "dict") (fun xs H Q => ∃ (a : Addr) (ps : List Addr) (kvs : List (Key × V)), xs = [.ref a] ∧ SqL X.K H a (ps.map V.ref) ∧ Paired (fun p kv => SqT X.K H p [kV kv.1, kv.2]) ps kvs ∧
    ∀ p, H p = none → p ≠ sysModules → Q (.ref p) (upd H p (.dK (mergeK [] kvs)))) := by
  intro pins s σ H xs us Q I r q
  obtain ⟨a, ps, kvs, ex, hq, hp, q⟩ := q
  refine thn (call_dictP hcalm pins s σ H xs us (fun v H' => ∃ p, v = .ref p ∧ H p = none ∧ H' = upd H p (.dK (mergeK [] kvs))) I r ⟨a, ps, kvs, ex, hq, hp, fun p np => ⟨p, rfl, np, rfl⟩⟩) fun v s1 ⟨x, H1, I1, r1, p, e1, np, e2⟩ => ?_
  subst e1 e2
  obtain ⟨_, ne, _⟩ := dk_of I1.hok (upd_same (H := H) (a := p) (o := .dK (mergeK [] kvs)))
  exact ⟨.ref p, _, I1, r1, q p np (fun z => by rw [z] at ne; simp at ne)⟩
/-- o[i] of a dict by values (in o[i] op= e) -/
def rGetD : R2 := fun o i H Q => ∃ (a : Addr) (v : V), o = .ref a ∧ DGet H a i (some v) ∧ Q v H
theorem get_dict {X : Cx} (hu : X.A.units + 1 < cLine) : PGet X rGetD := by
  intro pins s σ H o i ov iv Q I ro ri h
  obtain ⟨a, v, rfl, g, q⟩ := h
  cases ro
  exact d_getItem hu I g ri fun w' s3 I3 rw' => ⟨v, H, I3, rw', q⟩
/-- a slice of data -/
def sliD (ds : List PyData) (lo hi : Option Int) : List PyData := (ds.drop (HT.sIx ds.length 0 lo)).take (HT.sIx ds.length ds.length hi - HT.sIx ds.length 0 lo)
theorem dtA_cut {K : PySem.W.Frag} {mu : Addr → Prop} {H : Hp} {xs : List V} {ds : List PyData} {lo hi : Option Int} (h : DtA K mu H xs ds) : DtA K mu H (cutV xs lo hi) (sliD ds lo hi) := by
  unfold cutV sliD
  rw [h.length]
  exact (h.drop _).take _
theorem sliD_mem {ds : List PyData} {lo hi : Option Int} {d : PyData} (h : d ∈ sliD ds lo hi) : d ∈ ds := List.mem_of_mem_drop (List.mem_of_mem_take h)
theorem sliD_len (ds : List PyData) (lo hi : Option Int) : (sliD ds lo hi).length ≤ ds.length := by
  unfold sliD
  rw [List.length_take, List.length_drop]
  omega
theorem wtA_app : ∀ ds es : List PyData, PyData.weightAll (ds ++ es) = PyData.weightAll ds + PyData.weightAll es
  | [], es => by simp [PyData.weightAll]
  | d :: ds, es => by
    simp only [List.cons_append, PyData.weightAll, wtA_app ds es]
    omega
theorem wtA_take (ds : List PyData) (n : Nat) : PyData.weightAll (ds.take n) + PyData.weightAll (ds.drop n) = PyData.weightAll ds := by rw [← wtA_app, List.take_append_drop]
theorem sliD_wt (ds : List PyData) (lo hi : Option Int) : PyData.weightAll (sliD ds lo hi) ≤ PyData.weightAll ds := by
  unfold sliD
  have h1 := wtA_take (ds.drop (HT.sIx ds.length 0 lo)) (HT.sIx ds.length ds.length hi - HT.sIx ds.length 0 lo)
  have h2 := wtA_take ds (HT.sIx ds.length 0 lo)
  omega
theorem wtA_rev (ds : List PyData) : PyData.weightAll ds.reverse = PyData.weightAll ds := by
  induction ds with
  | nil => rfl
  | cons d ds ih =>
    rw [List.reverse_cons, wtA_app, ih]
    simp only [PyData.weightAll]
    omega
theorem wtA_split {ds : List PyData} {i : Nat} {e : PyData} (h : ds[i]? = some e) : PyData.weightAll ds = PyData.weightAll (ds.take i) + (e.weight + 1) + PyData.weightAll (ds.drop (i + 1)) := by
  obtain ⟨hi, he⟩ := List.getElem?_eq_some_iff.mp h
  have z := wtA_take ds i
  rw [List.drop_eq_getElem_cons hi, he] at z
  simp only [PyData.weightAll] at z
  omega
theorem dpA_le {n : Nat} : ∀ {ds : List PyData}, PyData.depthAll ds ≤ n ↔ ∀ d ∈ ds, d.depth ≤ n
  | [] => by simp [PyData.depthAll]
  | d :: ds => by
    simp only [PyData.depthAll, List.mem_cons, forall_eq_or_imp, ← dpA_le (ds := ds)]
    omega
theorem cutV_upto (xs : List V) (n : Nat) : cutV xs none (some (n : Int)) = xs.take n := by
  unfold cutV
  rw [HT.sIx_none, HT.sIx_nat, List.drop_zero, Nat.sub_zero]
  by_cases h : n ≤ xs.length
  · rw [Nat.min_eq_left h]
  · rw [Nat.min_eq_right (by omega), List.take_length, List.take_of_length_le (by omega)]
theorem cutV_fromN (xs : List V) (n : Nat) : cutV xs (some (n : Int)) none = xs.drop n := by
  unfold cutV
  rw [HT.sIx_none, HT.sIx_nat]
  by_cases h : n ≤ xs.length
  · rw [Nat.min_eq_left h]
    exact List.take_of_length_le (by rw [List.length_drop]; omega)
  · rw [List.drop_eq_nil_of_le (by omega), List.drop_eq_nil_of_le (by omega), List.take_nil]
theorem sl_use {K : PySem.W.Frag} {H : Hp} {r : Addr} {xs : List V} {lo hi : Option Int} {Q : VK} (h : SqT K H r xs) (k : ∀ p H', Same H H' → SqT K H' p (cutV xs lo hi) → Q (.ref p) H') : rSlA K (.ref r) lo hi H Q := by
  refine ⟨r, xs, rfl, h, fun z => ?_, fun _ p np => k p _ (same_upd np) (.of upd_same)⟩
  refine k r H (.refl H) ?_
  have : cutV xs lo hi = xs := by
    unfold cutV
    rw [z.1, z.2, List.drop_zero, Nat.sub_zero, List.take_length]
  rw [this]
  exact h
theorem cat_use {K : PySem.W.Frag} {H : Hp} {a c : Addr} {xs ys : List V} {Q : VK} (h1 : SqT K H a xs) (h2 : SqT K H c ys) (hz : xs.length + ys.length ≤ sizeLine) (k : ∀ p H', Same H H' → SqT K H' p (xs ++ ys) → Q (.ref p) H') : rCatA K (.ref a) (.ref c) H Q := by
  refine ⟨a, c, xs, ys, rfl, rfl, h1, h2, hz, fun e => ?_, fun _ e => ?_, fun _ _ p np => k p _ (same_upd np) (.of upd_same)⟩
  · subst e
    exact k c H (.refl H) h2
  · subst e
    refine k a H (.refl H) ?_
    rw [List.append_nil]
    exact h1
theorem sq_fut {K : PySem.W.Frag} {mu : Addr → Prop} {H H' : Hp} {a : Addr} {xs : List V} (h : SqT K H a xs) (f : Fut mu H H') : SqT K H' a xs := by
  rcases h with (r | ⟨o, r⟩) | r
  · exact .inl (.inl (f _ _ r (.inr (.inl ⟨_, rfl⟩))))
  · exact .inl (.inr ⟨o, f _ _ r (.inr (.inr ⟨_, _, rfl⟩))⟩)
  · exact .inr r
theorem dt_tupS {K : PySem.W.Frag} {mu : Addr → Prop} {H : Hp} {p : Addr} {xs : List V} {ds : List PyData} (h : SqT K H p xs) (hA : DtA K mu H xs ds) : Dt K mu H (.ref p) (.tuple ds) := by
  rcases h with h | h
  · exact .tup h hA
  · exact .tupK h hA
theorem dtA_revS {K : PySem.W.Frag} {mu : Addr → Prop} {H : Hp} : ∀ {vs : List V} {ds : List PyData}, DtA K mu H vs ds → DtA K mu H vs.reverse ds.reverse
  | _, _, .nil => .nil
  | _, _, .cons h t => by
    rw [List.reverse_cons, List.reverse_cons]
    exact (dtA_revS t).append (.cons h .nil)
theorem bag_ne {b p : Addr} {H : Hp} (hb : BagAt H b) (np : H p = none) : p ≠ b := fun z => by
  obtain ⟨_, _, _, _, _, q, _⟩ := hb
  rw [z, q] at np
  cases np
theorem fut_atD {H : Hp} {a : Addr} {kvs : List (Key × V)} {o' : HO} (ha : H a = some (.dK kvs)) : Fut (fun b => b = a) H (upd H a o') := fun c o e z => by
  by_cases h : c = a
  · subst h
    rw [ha] at e
    cases e
    rcases z with z | ⟨_, z⟩ | ⟨_, _, z⟩
    · exact absurd rfl z
    · cases z
    · cases z
  · rw [upd_ne h]
    exact e
theorem sIx_last (n : Nat) : HT.sIx n 0 (some (-1)) = ((-1 : Int) + (n : Int)).toNat := by
  show (if (-1 : Int) < 0 then ((-1 : Int) + (n : Int)).toNat else min (-1 : Int).toNat n) = _
  rw [if_pos (by decide)]
section
variable {K : PySem.W.Frag} {b : Addr} {mu : Addr → Prop} {σ : L2.St} {H0 : Hp} {te : TE} {ta tr : TA} {d : PyData} {ds : List PyData} {D : PyData → Prop} {n : Nat}
variable (K b mu σ H0) in
/-- the expression gives a datum of which D holds -/
def Gn (te : TE) (D : PyData → Prop) : Prop := ∀ H, Rel b H0 H → MuOk mu H → ∀ Q : VK, (∀ v H' d, D d → Rel b H H' → Dt K mu H' v d → Q v H') → te σ H Q
variable (K b mu σ H0) in
def GnA (ta : TA) (D : PyData → Prop) (n : Nat) : Prop := ∀ H, Rel b H0 H → MuOk mu H → ∀ Q : List V → Hp → Prop, (∀ vs H' ds, ds.length = n → (∀ d ∈ ds, D d) → Rel b H H' → DtA K mu H' vs ds → Q vs H') → ta σ H Q
theorem Ge.gn (h : Ge K b mu σ H0 te d) (hd : D d) : Gn K b mu σ H0 te D := fun H hb m Q q => h H hb m Q fun v H' r e => q v H' d hd r e
theorem Gv.gn (h : Gv K b mu σ H0 te D) : Gn K b mu σ H0 te D := fun H hb m Q q => h H hb m Q fun v H' d hd r e _ => q v H' d hd r e
theorem gnA_nil : GnA K b mu σ H0 tNil D 0 := fun H hb _ _ q => q _ H [] rfl (fun _ z => nomatch z) (.refl hb.bag) .nil
theorem gnA_cons (hm : mu b) (h : Gn K b mu σ H0 te D) (t : GnA K b mu σ H0 tr D n) : GnA K b mu σ H0 (tCons te tr) D (n + 1) := fun H hb m _ q =>
  h H hb m _ fun v H1 d hd r1 e1 => t H1 (hb.trans r1) (m.rel r1) _ fun vs H2 ds hl hds r2 e2 => q _ H2 (d :: ds) (by rw [List.length_cons, hl]) (fun x z => by
    rcases List.mem_cons.mp z with rfl | z
    · exact hd
    · exact hds x z) (r1.trans r2) (.cons (e1.fut (r2.fut hm r1.bag)) e2)
theorem gn_var {i : Nat} {v : V} (hm : mu b) (hb : BagAt H0 b) (hσ : σ[i]? = some (some v)) (h : Dt K mu H0 v d) (hd : D d) : Gn K b mu σ H0 (tVar i) D := fun H r m Q q =>
  ⟨v, hσ, q v H d hd (.refl r.bag) (h.fut (r.fut hm hb))⟩
/-- a menu is asked -/
theorem gn_some {i : Nat} (hm : mu b) (hσ : σ[i]? = some (some (.ref b))) (h : GnA K b mu σ H0 ta D n) (h0 : 0 < n) (h1 : n ≤ 1000) :
    Gn K b mu σ H0 (tCall spSome [] E0 (tCons (tVar i) (tCons (tLst ta) tNil))) D := fun H hb m Q q => by
  refine ⟨_, hσ, h H hb m _ fun vs H1 ds hl hD r e => ?_⟩
  have hv : vs.length = n := e.length.trans hl
  refine ⟨Nat.le_of_lt (small1000 (by omega)), fun p np => ?_⟩
  have nb := bag_ne r.bag np
  refine ⟨b, p, vs, rfl, r.bag.same (same_upd np), nb, upd_same, by omega, by omega, fun j v H2 hj r2 => ?_⟩
  obtain ⟨d, hd, ed⟩ := e.get hj
  have r3 := r.same (same_upd (o := .lst vs) np)
  exact q v H2 d (hD d (List.mem_of_getElem? hd)) (r3.trans r2) ((ed.fut (.of_same (same_upd np))).fut (r2.fut hm r3.bag))
variable (K b σ H0) in
/-- the expression gives a tuple of these -/
def Gs (te : TE) (ys : List V) : Prop := ∀ H, Rel b H0 H → ∀ Q : VK, (∀ p H', Same H H' → SqT K H' p ys → Q (.ref p) H') → te σ H Q
variable {xs ys : List V} {te2 : TE}
theorem gs_var {i : Nat} {a : Addr} (hb : BagAt H0 b) (hσ : σ[i]? = some (some (.ref a))) (h : SqT K H0 a xs) : Gs K b σ H0 (tVar i) xs := fun H r Q q =>
  ⟨_, hσ, q a H (.refl H) (sq_fut h (r.fut (mu := fun z => z = b) rfl hb))⟩
variable (σ) in
/-- a bound of a slice, written -/
def Gp (t : TO) (o : Option Int) : Prop := ∀ (H : Hp) (Q : Option Int → Hp → Prop), Q o H → t σ H Q
theorem gp_none : Gp σ tNoPart none := fun _ _ q => q
theorem gp_int {i : Int} : Gp σ (tPart (tC (.int i))) (some i) := fun _ _ q => ⟨i, rfl, q⟩
theorem gp_neg {i : Int} : Gp σ (tPart (tUn (rU fun i => .int (-i)) (tC (.int i)))) (some (-i)) := fun _ _ q => ⟨i, rfl, _, rfl, q⟩
theorem gp_var {j : Nat} {i : Int} (hσ : σ[j]? = some (some (.int i))) : Gp σ (tPart (tVar j)) (some i) := fun _ _ q => ⟨_, hσ, i, rfl, q⟩
theorem gs_sl {tl th : TO} {lo hi : Option Int} (h : Gs K b σ H0 te xs) (hl : Gp σ tl lo) (hh : Gp σ th hi) : Gs K b σ H0 (tSl (rSlA K) te tl th) (cutV xs lo hi) := fun H r Q q =>
  h H r _ fun p H1 s1 h1 => hl _ _ (hh _ _ (sl_use h1 fun p2 H2 s2 h2 => q p2 H2 (s1.trans s2) h2))
theorem gs_cat (h : Gs K b σ H0 te xs) (h2 : Gs K b σ H0 te2 ys) (hz : xs.length + ys.length ≤ 1000000) : Gs K b σ H0 (tOp (rCatA K) te te2) (xs ++ ys) := fun H r Q q =>
  h H r _ fun p H1 s1 q1 => h2 H1 (r.same s1) _ fun p2 H2 s2 q2 => cat_use (s2.seqT q1) q2 (by rw [sizeLine_eq]; omega) fun p3 H3 s3 q3 => q p3 H3 ((s1.trans s2).trans s3) q3
theorem gs_rev (h : Gs K b σ H0 te xs) : Gs K b σ H0 (tRevT K te) xs.reverse := fun H r Q q =>
  h H r _ fun p H1 s1 q1 => ⟨p, xs, rfl, q1, fun p2 n2 => q p2 _ (s1.trans (same_upd n2)) (.of upd_same)⟩
theorem gs_tup1 {v : V} (h : ∀ (H : Hp) (Q : VK), Q v H → te σ H Q) : Gs K b σ H0 (tTup (tCons te tNil)) [v] := fun H r Q q =>
  h H _ ⟨Nat.le_of_lt (small1000 (show 1 ≤ 1000 by decide)), fun p np => q p _ (same_upd np) (.of upd_same)⟩
theorem Gs.gn (hm : mu b) (hb : BagAt H0 b) (h : Gs K b σ H0 te ys) (e : DtA K mu H0 ys ds) (hd : D (.tuple ds)) : Gn K b mu σ H0 te D := fun H r m Q q =>
  h H r _ fun p H1 s1 h1 => q _ H1 _ hd (Rel.of_same r.bag s1) (dt_tupS h1 ((e.fut (r.fut hm hb)).fut (.of_same s1)))
/-- list(x) of a tuple in a menu -/
theorem Gs.gnL (hm : mu b) (hb : BagAt H0 b) (h : Gs K b σ H0 te ys) (e : DtA K mu H0 ys ds) (hd : D (.list ds)) : Gn K b mu σ H0 (tCB (fun xs H Q => ∃ p ys, xs = [.ref p] ∧ (SqL K H p ys ∨ SqT K H p ys) ∧ ∀ l, H l = none → l ≠ sysModules → Q (.ref l) (upd H l (.lst ys))) (tCons te tNil)) D := fun H r m Q q =>
  h H r _ fun p H1 s1 h1 => ⟨p, ys, rfl, .inr h1, fun l nl ns => q _ _ _ hd ((Rel.of_same r.bag s1).same (same_upd nl)) (.lst ((m.same s1).new nl ns) (.inl upd_same) (((e.fut (r.fut hm hb)).fut (.of_same s1)).fut (.of_same (same_upd nl))))⟩
end
end Sw
/-! Tuples and texts some times over, once and never too. -/
namespace Sw
open PySem PySem.Spec PyProof.Rows L2
theorem tuple_mul1 (l : Addr) (items : Array Value) (n : Nat) (dd : Option Addr) (sl : Array (Option Value)) (u : Tok) :
    Meets (Builtin.«tuple.__mul__» ⟨[.ref l, .int 1 u], []⟩) (fun _ R s => s.heap.get? l = some { cls := .type "tuple", dict := dd, data := .seq items n, slots := sl } ∧
      R (.ok (.ret (Value.ref l))) s) :=
  .of_wp fun prog w A R s h => by
    obtain ⟨hp, g, d, tk, os⟩ := s
    obtain ⟨hl, h⟩ := h
    have f1 := AutoSeq1.idx_int
    have c1 : (items.isEmpty || (1 : Int) == 1) = true := by simp
    have hT : (⟨hp, g, d, tk, os⟩ : Shared).TypeIs (.ref l) "tuple" := ⟨_, hl, rfl⟩
    wp_walk using wpAny_loadPart' hl
    repeat (first
      | (refine wpAny_ite_true (decide_eq_true (by exact c1)) ?_; wp_walk using wpAny_loadPart' hl)
      | (refine wpAny_ite_false (by decide) ?_; wp_walk using wpAny_loadPart' hl))
    exact ⟨_, rfl, h⟩
theorem tuple_mul0 (l : Addr) (items : Array Value) (n : Nat) (dd : Option Addr) (sl : Array (Option Value)) (u : Tok) (hi : items.isEmpty = false) :
    Meets (Builtin.«tuple.__mul__» ⟨[.ref l, .int 0 u], []⟩) (fun _ R s => s.heap.get? l = some { cls := .type "tuple", dict := dd, data := .seq items n, slots := sl } ∧
      R (.ok (.ret (Value.ref s.heap.objs.size))) { s with heap := s.heap.push { cls := Value.type "tuple", data := Data.seq #[] }, toks := s.toks }) :=
  .of_wp fun prog w A R s h => by
    obtain ⟨hp, g, d, tk, os⟩ := s
    obtain ⟨hl, h⟩ := h
    have f1 := AutoSeq1.idx_int
    have c1 : (items.isEmpty || (0 : Int) == 1) = false := by rw [hi]; decide
    wp_walk using wpAny_loadPart' hl
    repeat (first
      | (refine wpAny_ite_false (decide_eq_false (by rw [c1]; exact Bool.false_ne_true)) ?_; wp_walk using wpAny_loadPart' hl)
      | (refine wpAny_ite_false (by decide) ?_; wp_walk using wpAny_loadPart' hl)
      | (refine wpAny_ite_true (by simp) ?_; wp_walk using wpAny_loadPart' hl))
    exact ⟨_, rfl, h⟩
/-- a tuple, k times -/
def rRepU (K : PySem.W.Frag) : R2 := fun x y H Q => ∃ l k xs, x = .ref l ∧ y = .int k ∧ SqT K H l xs ∧ xs ≠ [] ∧ 0 ≤ k ∧ k ≤ 1000 ∧ xs.length ≤ 1000 ∧ ∀ p H', Same H H' → SqT K H' p (List.replicate k.toNat xs).flatten → Q (.ref p) H'
theorem op_repU {X : Cx} : OpR X (binaryOp .Mult) (rRepU X.K) := by
  intro pins s σ H x y v u Q I rx ry h
  obtain ⟨l, k, xs, rfl, rfl, hT, hne, h1, h2, hz, q⟩ := h
  by_cases e2 : 2 ≤ k
  · exact op_repT pins s σ H _ _ _ _ Q I rx ry ⟨l, k, xs, rfl, rfl, hT, hne, e2, h2, hz, fun p np => q p _ (same_upd np) (.of upd_same)⟩
  cases rx
  obtain ⟨t, rfl⟩ := ry
  obtain ⟨its, r, ⟨⟨cls, dd, data, sl⟩, ho, hc, n, hd⟩, hs⟩ := I.tuple hT
  simp only at hc hd
  subst hc hd
  have hle : its.length = xs.length := r.length.symm
  have hn : its ≠ [] := fun e => hne (by
    rw [e] at hle
    exact List.eq_nil_of_length_eq_zero hle.symm)
  have hi : its.toArray.isEmpty = false := by
    cases its with
    | nil => exact absurd rfl hn
    | cons a b => rfl
  rcases (show k = 0 ∨ k = 1 by omega) with rfl | rfl
  · refine wpAny_binaryOp_repeat_ref (T := "tuple") (U := "int") (by decide) ⟨_, ho, rfl⟩ (fun s' => typeIs_int s' 0 t) noFill_tuple_mul F.fills_int_mul F.slot_int_rmul repeat_tuple F.slot_int_index.lookup
      (call_meets F.slot_int_rmul (typeIs_int s 0 t) F.entry_int_rmul (F.args_int_rmul_2 _ _) (int_rmul_tuple 0 t l its.toArray n dd sl)
        ⟨ho, rfl, ⟨_, ho, rfl⟩, call_meets F.slot_tuple_mul ⟨_, ho, rfl⟩ F.entry_tuple_mul (F.args_tuple_mul_2 _ _) (tuple_mul0 l its.toArray n dd sl t hi) ⟨ho, ?_⟩⟩)
    have nf : H s.heap.objs.size = none := I.hok.fresh (Nat.le_refl _)
    refine ⟨.ref s.heap.objs.size, _, I.laid (t' := s.toks) (o := .tup []) (fun b ob q => Heap.get?_push_of_some _ q) (Nat.le_refl _) ?_, rfl, q _ _ (same_upd nf) (.of upd_same)⟩
    exact ⟨Nat.zero_le _, [], .nil, IsTup.new _ _⟩
  · refine wpAny_binaryOp_repeat_ref (T := "tuple") (U := "int") (by decide) ⟨_, ho, rfl⟩ (fun s' => typeIs_int s' 1 t) noFill_tuple_mul F.fills_int_mul F.slot_int_rmul repeat_tuple F.slot_int_index.lookup
      (call_meets F.slot_int_rmul (typeIs_int s 1 t) F.entry_int_rmul (F.args_int_rmul_2 _ _) (int_rmul_tuple 1 t l its.toArray n dd sl)
        ⟨ho, rfl, ⟨_, ho, rfl⟩, call_meets F.slot_tuple_mul ⟨_, ho, rfl⟩ F.entry_tuple_mul (F.args_tuple_mul_2 _ _) (tuple_mul1 l its.toArray n dd sl t) ⟨ho, ?_⟩⟩)
    refine ⟨.ref l, H, I, rfl, q l H (.refl H) ?_⟩
    rw [show (List.replicate (1 : Int).toNat xs).flatten = xs by simp]
    exact hT
/-- a text, once or more -/
def rRepZ : R2 := fun x y H Q => ∃ (z : Str) (k : Int), x = .str z ∧ y = .int k ∧ 1 ≤ k ∧ k ≤ 1000 ∧ z.length ≤ 1000 ∧ ∀ r : Str, r.length = z.length * k.toNat → (∀ p : Nat → Bool, z.cps.all p = true → r.cps.all p = true) → Q (.str r) H
theorem op_repZ {X : Cx} : OpR X (binaryOp .Mult) rRepZ := by
  intro pins s σ H x y v u Q I rx ry h
  obtain ⟨z, k, rfl, rfl, k2, k1, z2, q⟩ := h
  by_cases e : 2 ≤ k
  · exact op_repW pins s σ H _ _ _ _ Q I rx ry ⟨z, k, rfl, rfl, e, k1, z2, q⟩
  obtain ⟨t, rfl⟩ := rx
  obtain ⟨t', rfl⟩ := ry
  obtain rfl : k = 1 := by omega
  refine P.mul_str (by rw [decide_eq_false (by omega), decide_eq_false (by omega)]; rfl) (fun _ _ => ?_) (fun _ _ => ?_) ?_
  · have e : (1000 : Int) ≤ (2 ^ 63 - 1) / 1 := by decide
    omega
  · unfold Builtin.Str.tooLong
    have sl := sizeLine_eq
    first
      | (rw [decide_eq_false]; omega)
      | (simp; omega)
  · rw [if_neg (by omega), if_pos (by simp)]
    exact ⟨.str z, H, I, ⟨_, rfl⟩, q z (by simp) fun _ h => h⟩
end Sw
namespace K02
open PySem PySem.Spec PyProof.Rows L2 Sw
def topS (i : Nat) : Stmt := PySem.Challenge.pw_soldwhole_k02_claims_and_webs_of_any_val.main.body.getD i (.Pass ⟨0, 0, 0, 0⟩)
/-- the module's own names -/
structure Tx (mg : Str → Option Value) : Prop where
  gcd : mg "gcd" = some (.builtin "math.gcd")
  LONGEST_NAME : ∃ u, mg "LONGEST_NAME" = some u ∧ L2.RelV (.int 12) u
/-- a thing that is the same as itself by == -/
def Selfs (K : PySem.W.Frag) (H : Hp) (x y : V) : Prop := ∃ n, n ≤ 60 ∧ EqR K H (EqV K H n) x y
def spAlike (K : PySem.W.Frag) : Sp := fun vs H Q _ => ∃ (x y : V) (mu : Addr → Prop) (d : PyData), vs = [x, y] ∧ Dt K mu H x d ∧ Dt K mu H y d ∧ Ok d ∧ (d.hasDict = false ∨ (mu sysModules ∧ Selfs K H x y)) ∧ Q (.bl true) H
/-! ### what is told of data -/
def isInt (d : PyData) : Bool := isT "int" d && !isT "bool" d
def isFrac : PyData → Bool
  | .tuple [.int n, .int d] => decide (1 ≤ d) && decide (gI n d = 1)
  | _ => false
def isNm : PyData → Bool
  | .str x => nameS x
  | _ => false
theorem isFrac_eq (n d : Int) : isFrac (.tuple [.int n, .int d]) = (decide (1 ≤ d) && decide (gI n d = 1)) := rfl
/-- tells p of any datum -/
def spP (K : PySem.W.Frag) (p : PyData → Bool) : Sp := fun vs H Q _ => ∃ (v : V) (mu : Addr → Prop) (d : PyData), vs = [v] ∧ Dt K mu H v d ∧ Ok d ∧ ∀ H', Same H H' → Q (.bl (p d)) H'
theorem spP_len {K : PySem.W.Frag} {p : PyData → Bool} {x : Str} : ∀ vs H Q E, spP K p vs H Q E → vs.length = [x].length := fun vs H Q E h => by
  obtain ⟨v, mu, d, rfl, _⟩ := h
  rfl
section
variable {P : Program} {w : World} {K : PySem.W.Frag} {mg : Str → Option Value} {base : Heap}
abbrev sis_integer : Stmt := topS 4
theorem sc_is_integer : FnScope ["thing"] ["thing"] (defScope sis_integer) := ⟨rfl, rfl, rfl, by decide +kernel, rfl, by decide +kernel, by decide +kernel⟩
theorem ok_is_integer {f : Addr} {fd : FuncData} (F : Fun K "is_integer" "is_integer" sis_integer f fd) (B : Bt mg) : FnG P w K mg base 1 f fd ["thing"] (spP K isInt) := by
  refine Fun.okG F sc_is_integer spP_len (fun cdv A outer s H vs Q E hg hr h => ?_)
  obtain ⟨v, mu, d, rfl, hd, ho, k⟩ := h
  refine ⟨_, (pss_one (ps_ret (pe_and (pe_callB call_isD (by rfl) B.isin bb_isin (pa_cons (pv 0) (pa_cons (pe_bltn (v := .ty "int") rfl B.int bb_int rfl) pa_nil))) (pe_one (pe_not (pe_callB call_isD (by rfl) B.isin bb_isin (pa_cons (pv 0) (pa_cons (pe_bltn (v := .ty "bool") rfl B.bool bb_bool rfl) pa_nil)))))))), ?_⟩
  refine ⟨_, rfl, _, "int", mu, d, rfl, by decide, hd, _, rfl, ?_⟩
  have k := k H (Same.refl H)
  unfold isInt at k
  cases h1 : isT "int" d with
  | false =>
    rw [h1] at k
    exact iteF k
  | true =>
    rw [h1] at k
    exact iteT ⟨_, rfl, _, "bool", mu, d, rfl, by decide, hd, _, rfl, k⟩
abbrev sis_fraction : Stmt := topS 5
theorem sc_is_fraction : FnScope ["thing", "n", "d"] ["thing"] (defScope sis_fraction) := ⟨rfl, rfl, rfl, by decide +kernel, rfl, by decide +kernel, by decide +kernel⟩
theorem ok_is_fraction {f : Addr} {fd : FuncData} (F : Fun K "is_fraction" "is_fraction" sis_fraction f fd) (B : Bt mg) (T : Tx mg) (c_is_integer : CalG P w K mg base 1 "is_integer" (spP K isInt)) : FnG P w K mg base 2 f fd ["thing"] (spP K isFrac) := by
  refine Fun.okG F sc_is_fraction spP_len (fun cdv A outer s H vs Q E hg hr h => ?_)
  obtain ⟨v, mu, d, rfl, hd, ho, k⟩ := h
  refine ⟨_, (pss_cons (ps_if (PW.pt (pw_or (pt_not (pt_val (pe_callB call_isD (by rfl) B.isin bb_isin (pa_cons (pv 0) (pa_cons (pe_bltn (v := .ty "tuple") rfl B.tuple bb_tuple rfl) pa_nil))))) (pw_or1 (pt_cmpR op_ne (pe_callB call_lenA (by rfl) B.len boot_len (pa_cons (pv 0) pa_nil)) pe_int (nomark _)))))
      (pss_one (ps_ret pe_bl))
      pss_nil)
    (pss_cons (ps_asg (pv 0) (pg_tup (n := 2) rfl (pgs_cons (pg_name (i := 1) sc_is_fraction.nd rfl (Or.inl rfl)) (pgs_cons (pg_name (i := 2) sc_is_fraction.nd rfl (Or.inl rfl)) pgs_nil))))
    (pss_one (ps_ret (pe_and (pc c_is_integer hg hr (by decide) (by rfl) (pa_cons (pv 1) pa_nil)) (pe_and (pc c_is_integer hg hr (by decide) (by rfl) (pa_cons (pv 2) pa_nil)) (pe_and (pe_cmpR op_ge (pv 2) pe_int (nomark _)) (pe_one (pe_cmpR op_eq (pe_callBfun cr_gcd (by rfl) T.gcd (pa_cons (pv 1) (pa_cons (pv 2) pa_nil))) pe_int (nomark _)))))))))), ?_⟩
  refine ⟨_, rfl, _, "tuple", mu, d, rfl, by decide, hd, _, rfl, ?_⟩
  have k0 := k H (Same.refl H)
  refine iteN (fun ht => ?_) fun ht => ?_
  · have e : isFrac d = false := by
      cases d <;> first | rfl | (simp [isT, tyName] at ht)
    rw [e] at k0
    exact iteT k0
  · obtain ⟨ds, rfl⟩ := (isTup d).mp ht
    obtain ⟨a, xs, rfl, hS, hA⟩ := hd.tupAt
    have el := hA.length
    refine ⟨_, rfl, _, xs.length, rfl, .inr ⟨_, hS, rfl⟩, rfl, _, rfl, iteNe (fun hn => ?_) fun hn => ?_⟩
    · have e : isFrac (.tuple ds) = false := by
        unfold isFrac
        split
        · rename_i z
          injection z with z
          rw [z] at el
          simp at el
          omega
        · rfl
      rw [e] at k0
      exact k0
    · obtain ⟨x, y, d1, d2, rfl, rfl, r1, r2⟩ := hA.two (by omega)
      · have o1 : Ok d1 := ho.inT (by simp)
        have o2 : Ok d2 := ho.inT (by simp)
        refine ⟨_, rfl, a, [x, y], rfl, hS, rfl, x, [y], rfl, y, [], rfl, rfl, ?_⟩
        have no : (∀ n m, d1 = .int n → d2 = .int m → False) → isFrac (.tuple [d1, d2]) = false := fun z => by
          unfold isFrac
          split
          · rename_i q
            injection q with q
            injection q with q1 q
            injection q with q2 _
            exact (z _ _ q1 q2).elim
          · rfl
        refine ⟨x, rfl, x, mu, d1, rfl, r1, o1, fun H1 s1 => ⟨_, rfl, iteB (fun h1 => ?_) fun h1 => ?_⟩⟩
        · refine ⟨y, rfl, y, mu, d2, rfl, r2.fut (.of_same s1), o2, fun H2 s2 => ⟨_, rfl, iteB (fun h2 => ?_) fun h2 => ?_⟩⟩
          · obtain ⟨n, rfl⟩ := (isIntD d1).mp h1
            obtain ⟨m, rfl⟩ := (isIntD d2).mp h2
            cases r1
            cases r2
            have kk := k H2 (s1.trans s2)
            rw [isFrac_eq] at kk
            refine ⟨_, rfl, _, _, rfl, rfl, _, rfl, iteP (fun h3 => ?_) fun h3 => ?_⟩
            · rw [decide_eq_true h3, Bool.true_and] at kk
              refine ⟨_, rfl, _, rfl, _, _, rfl, rfl, ?_⟩
              show Q (.bl (decide (V.int (gI n m) = V.int 1))) H2
              rw [Sw.dec_int]
              exact kk
            · rw [decide_eq_false h3, Bool.false_and] at kk
              exact kk
          · have kk := k H2 (s1.trans s2)
            rw [no fun n m e1 e2 => by rw [e2] at h2; cases h2] at kk
            exact kk
        · have kk := k H1 s1
          rw [no fun n m e1 e2 => by rw [e1] at h1; cases h1] at kk
          exact kk
abbrev sis_name : Stmt := topS 7
theorem sc_is_name : FnScope ["thing"] ["thing"] (defScope sis_name) := ⟨rfl, rfl, rfl, by decide +kernel, rfl, by decide +kernel, by decide +kernel⟩
theorem ok_is_name {f : Addr} {fd : FuncData} (F : Fun K "is_name" "is_name" sis_name f fd) (B : Bt mg) (T : Tx mg) : FnG P w K mg base 1 f fd ["thing"] (spP K isNm) := by
  refine Fun.okG F sc_is_name spP_len (fun cdv A outer s H vs Q E hg hr h => ?_)
  obtain ⟨v, mu, d, rfl, hd, ho, k⟩ := h
  refine ⟨_, (pss_cons (ps_if (PW.pt (pw_or (pt_not (pt_val (pe_callB call_isD (by rfl) B.isin bb_isin (pa_cons (pv 0) (pa_cons (pe_bltn (v := .ty "str") rfl B.str bb_str rfl) pa_nil))))) (pw_or1 (pt_not (pt_chain op_le op_le pe_int (pe_callB call_lenA (by rfl) B.len boot_len (pa_cons (pv 0) pa_nil)) (C8.pe_gc rfl T.LONGEST_NAME))))))
      (pss_one (ps_ret pe_bl))
      pss_nil)
    (pss_one (ps_ret (pe_and (pe_bm0 PySem.F.plainAttrs_str PySem.F.slot_str_isascii PySem.F.type_str_isascii mt_isascii (pv 0)) (pe_and (pe_bm0 PySem.F.plainAttrs_str PySem.F.slot_str_isalpha PySem.F.type_str_isalpha mt_isalpha (pv 0)) (pe_one (pe_bm0 PySem.F.plainAttrs_str PySem.F.slot_str_islower PySem.F.type_str_islower mt_islower (pv 0)))))))), ?_⟩
  refine ⟨_, rfl, _, "str", mu, d, rfl, by decide, hd, _, rfl, ?_⟩
  have k0 := k H (Same.refl H)
  refine iteN (fun ht => ?_) fun ht => ?_
  · have e : isNm d = false := by
      cases d <;> first | rfl | (simp [isT, tyName] at ht)
    rw [e] at k0
    exact k0
  · obtain ⟨x, rfl⟩ := (isStr d).mp ht
    have hl := ho.strLen
    cases hd
    have e0 : isNm (.str x) = nameS x := rfl
    unfold nameS at e0
    refine ⟨_, rfl, .str x, x.length, rfl, ⟨Nat.le_trans hl (by decide), rfl⟩, _, _, rfl, rfl, _, rfl, iteP (fun h1 => ?_) fun h1 => ?_⟩
    · refine ⟨_, _, rfl, rfl, _, rfl, iteN (fun h2 => ?_) fun h2 => ?_⟩
      · have z : ¬ x.length ≤ 12 := by
          have := of_decide_eq_false h2
          omega
        rw [e0, decide_eq_false z, Bool.and_false, Bool.false_and] at k0
        exact k0
      · have z : x.length ≤ 12 := by
          have := of_decide_eq_true h2
          omega
        have z1 : 1 ≤ x.length := by omega
        rw [e0, decide_eq_true z, decide_eq_true z1, Bool.true_and, Bool.true_and, ← name_txt x z1] at k0
        refine ⟨_, rfl, rfl, x, rfl, rfl, trivial, _, rfl, iteB (fun h3 => ?_) fun h3 => ?_⟩
        · rw [h3, Bool.true_and] at k0
          refine ⟨_, rfl, rfl, x, rfl, rfl, trivial, _, rfl, iteB (fun h4 => ?_) fun h4 => ?_⟩
          · rw [h4, Bool.true_and] at k0
            exact ⟨_, rfl, rfl, x, rfl, rfl, trivial, k0⟩
          · rw [h4, Bool.false_and] at k0
            exact k0
        · rw [h3, Bool.false_and] at k0
          exact k0
    · have z1 : ¬ 1 ≤ x.length := by omega
      rw [e0, decide_eq_false z1, Bool.false_and, Bool.false_and] at k0
      exact ⟨_, rfl, iteT k0⟩
abbrev s_law_is_int : Stmt := topS 30
theorem sc__law_is_int : FnScope ["thing"] ["thing"] (defScope s_law_is_int) := ⟨rfl, rfl, rfl, by decide +kernel, rfl, by decide +kernel, by decide +kernel⟩
theorem ok__law_is_int {f : Addr} {fd : FuncData} (F : Fun K "_law_is_int" "_law_is_int" s_law_is_int f fd) (B : Bt mg) : FnG P w K mg base 1 f fd ["thing"] (spP K isInt) := by
  refine Fun.okG F sc__law_is_int spP_len (fun cdv A outer s H vs Q E hg hr h => ?_)
  obtain ⟨v, mu, d, rfl, hd, ho, k⟩ := h
  refine ⟨_, (pss_one (ps_ret (pe_and (pe_callB call_isD (by rfl) B.isin bb_isin (pa_cons (pv 0) (pa_cons (pe_bltn (v := .ty "int") rfl B.int bb_int rfl) pa_nil))) (pe_one (pe_not (pe_callB call_isD (by rfl) B.isin bb_isin (pa_cons (pv 0) (pa_cons (pe_bltn (v := .ty "bool") rfl B.bool bb_bool rfl) pa_nil)))))))), ?_⟩
  refine ⟨_, rfl, _, "int", mu, d, rfl, by decide, hd, _, rfl, ?_⟩
  have k := k H (Same.refl H)
  unfold isInt at k
  cases h1 : isT "int" d with
  | false =>
    rw [h1] at k
    exact iteF k
  | true =>
    rw [h1] at k
    exact iteT ⟨_, rfl, _, "bool", mu, d, rfl, by decide, hd, _, rfl, k⟩
/-- the common divisor of two integers' sizes -/
def spCommon : Sp := fun vs H Q _ => ∃ a b : Int, vs = [.int a, .int b] ∧ Q (.int (gI a b)) H
abbrev s_law_common : Stmt := topS 21
theorem sc__law_common : FnScope ["one", "other"] ["one", "other"] (defScope s_law_common) := ⟨rfl, rfl, rfl, by decide +kernel, rfl, by decide +kernel, by decide +kernel⟩
theorem ok__law_common {f : Addr} {fd : FuncData} (F : Fun K "_law_common" "_law_common" s_law_common f fd) (B : Bt mg) : FnG P w K mg base 1 f fd ["one", "other"] spCommon := by
  refine Fun.okG F sc__law_common (fun vs H Q E h => ?_) (fun cdv A outer s H vs Q E hg hr h => ?_)
  · obtain ⟨a, b, rfl, _⟩ := h
    rfl
  obtain ⟨a, b, rfl, k⟩ := h
  refine ⟨_, (pss_cons (ps_par (i := 0) (j := 1) rfl sc__law_common.nd rfl rfl (by decide) rfl rfl (pa_cons (pe_callB call_abs (by rfl) B.abs bb_abs (pa_cons (pv 0) pa_nil)) (pa_cons (pe_callB call_abs (by rfl) B.abs bb_abs (pa_cons (pv 1) pa_nil)) pa_nil)) (by rfl))
    (pss_cons (ps_while PassesOwn.never (pt_cmpR op_gt (pv 1) pe_int (nomark _))
      (pss_one (ps_par (i := 0) (j := 1) rfl sc__law_common.nd rfl rfl (by decide) rfl rfl (pa_cons (pv 1) (pa_cons (pe_op op_mod (pe_callTy call_int1 (by rfl) B.int bb_int (pa_cons (pv 0) pa_nil)) (pv 1)) pa_nil)) (by rfl))))
    (pss_one (ps_ret (pv 0))))), ?_⟩
  have ab : ∀ i : Int, (if i < 0 then -i else i) = (i.natAbs : Int) := fun i => by split <;> omega
  refine ⟨_, rfl, a, rfl, _, rfl, b, rfl, _, _, rfl, ?_⟩
  rw [ab a, ab b]
  refine while_by (fun σ H1 => ∃ x y : Nat, σ = [some (.int x), some (.int y)] ∧ Nat.gcd x y = Nat.gcd a.natAbs b.natAbs ∧ H1 = H) (fun σ _ => match σ with | [_, some (.int j)] => j.toNat | _ => 0) ⟨a.natAbs, b.natAbs, rfl, rfl, rfl⟩ ?_ ?_
  · rintro σ H1 ⟨x, y, rfl, e, rfl⟩
    refine ⟨_, rfl, _, _, rfl, rfl, _, rfl, iteP (fun h => ?_) fun h => ?_⟩
    · refine ⟨_, rfl, _, rfl, .inl ⟨_, rfl, _, rfl, _, _, rfl, rfl, h, _, _, rfl, ?_⟩⟩
      refine ⟨⟨y, x % y, ?_, (gcd_step x y).trans e, rfl⟩, ?_⟩
      · show [some (V.int (y : Int)), some (V.int ((x : Int) % (y : Int)))] = _
        rw [← Int.natCast_emod]
      · show ((x : Int) % (y : Int)).toNat < ((y : Nat) : Int).toNat
        have := Int.emod_lt_of_pos (x : Int) h
        have := Int.emod_nonneg (x : Int) (show (y : Int) ≠ 0 by omega)
        omega
    · have hy : y = 0 := by omega
      subst hy
      rw [Nat.gcd_zero_right] at e
      rw [e] 
      exact ⟨_, rfl, k⟩
  · rintro σ H1 R R' hh ⟨v, e1, i, j, e2, e3, c, e4, q⟩
    exact ⟨v, e1, i, j, e2, e3, c, e4, hh _ _ q⟩
abbrev s_law_take : Stmt := topS 18
theorem sc__law_take : FnScope ["bag", "many", "cell", "stirred", "value", "begin", "second"] ["bag", "many"] (defScope s_law_take) := ⟨rfl, rfl, rfl, by decide +kernel, rfl, by decide +kernel, by decide +kernel⟩
theorem ok__law_take {f : Addr} {fd : FuncData} (F : Fun K "_law_take" "_law_take" s_law_take f fd) (B : Bt mg) : FnG P w K mg base 1 f fd ["bag", "many"] spTake := by
  refine Fun.okG F sc__law_take (fun vs H Q E h => ?_) (fun cdv A outer s H vs Q E hg hr h => ?_)
  · obtain ⟨b, m, rfl, _⟩ := h
    rfl
  obtain ⟨b, many, rfl, hb, hm0, hm1, k⟩ := h
  refine ⟨_, (C8.pss_cut (ps_if (pt_cmpR op_eq (pe_ix ix_list (pv 0) pe_int (fun _ _ => rfl)) pe_int (nomark _))
      (pss_cons (ps_set (i := 2) sc__law_take.nd rfl (Or.inl rfl) (pe_ix ix_list (pe_op op_cat (pe_slice sl_list (pe_ix ix_list (pv 0) pe_int (fun _ _ => rfl)) (po_some (pe_ix ix_list (pv 0) pe_int (fun _ _ => rfl))) po_none) (pe_lst (pa_cons pe_int pa_nil))) pe_int (fun _ _ => rfl)))
      (pss_cons (ps_augS (pv 0) pe_int get_list pe_int ip_add set_list)
      (C8.pss_cut (ps_if (pt_cmpR op_ge (pv 2) (pe_op op_pow pe_int pe_int) (nomark _))
        (pss_one (ps_asg (pv 2) (pg_sub (pv 0) pe_int set_list)))
        pss_nil)
      (pss_cons (ps_set (i := 3) sc__law_take.nd rfl (Or.inl rfl) (pe_op op_add (pe_op op_add (pe_op op_mul (pe_ix ix_list (pv 0) pe_int (fun _ _ => rfl)) pe_int) (pe_op op_mod (pe_callTy call_int1 (by rfl) B.int bb_int (pa_cons (pv 2) pa_nil)) pe_int)) (pe_op op_mul pe_int (pe_ix ix_list (pv 0) pe_int (fun _ _ => rfl)))))
      (pss_one (ps_asg (pe_op op_mod (pe_callTy call_int1 (by rfl) B.int bb_int (pa_cons (pv 3) pa_nil)) pe_int) (pg_sub (pv 0) pe_int set_list)))))))
      pss_nil)
    (pss_cons (ps_if (pt_cmpR op_gt (pe_ix ix_list (pv 0) pe_int (fun _ _ => rfl)) pe_int (nomark _))
      (pss_cons (ps_set (i := 4) sc__law_take.nd rfl (Or.inl rfl) (pe_op op_mod (pe_callTy call_int1 (by rfl) B.int bb_int (pa_cons (pe_ix ix_list (pv 0) pe_int (fun _ _ => rfl)) pa_nil)) (pv 1)))
      (pss_cons (ps_asg (pe_op op_fdiv (pe_callTy call_int1 (by rfl) B.int bb_int (pa_cons (pe_ix ix_list (pv 0) pe_int (fun _ _ => rfl)) pa_nil)) (pv 1)) (pg_sub (pv 0) pe_int set_list))
      (pss_one (ps_ret (pv 4)))))
      pss_nil)
    (pss_cons (ps_set (i := 5) sc__law_take.nd rfl (Or.inl rfl) (pe_op op_mod (pe_callTy call_int1 (by rfl) B.int bb_int (pa_cons (pe_op op_mul (pe_op op_add (pe_ix ix_list (pv 0) pe_int (fun _ _ => rfl)) pe_int) pe_int) pa_nil)) pe_int))
    (pss_cons (ps_set (i := 6) sc__law_take.nd rfl (Or.inl rfl) (pe_op op_mod (pe_callTy call_int1 (by rfl) B.int bb_int (pa_cons (pe_op op_mul (pe_op op_mod (pe_callTy call_int1 (by rfl) B.int bb_int (pa_cons (pe_op op_mul (pv 5) (pv 5)) pa_nil)) pe_int) pe_int) pa_nil)) pe_int))
    (pss_one (ps_ret (pe_op op_mod (pe_callTy call_int1 (by rfl) B.int bb_int (pa_cons (pe_op op_fdiv (pv 6) pe_int) pa_nil)) (pv 1)))))))), ?_⟩
  obtain ⟨x, y, z, l, cs, h1, h2, hlb, hx, hy0, hy1, hz, hcl, hc⟩ := hb
  refine ⟨fun σ H' => ∃ v2 v3, σ = [some (.ref b), some (.int many), v2, v3, none, none, none] ∧ Rel b H H', ?_, ?_⟩
  · refine ⟨_, rfl, b, _, 0, .int x, rfl, rfl, .of h1, atI_nat (j := 0) rfl, rfl, _, rfl, iteEq (fun e => ?_) fun e => ?_⟩
    · -- cell = (bag[3][bag[2]:] + [0])[0]
      refine ⟨_, rfl, b, _, 3, .ref l, rfl, rfl, .of h1, atI_nat (j := 3) rfl, _, rfl, b, _, 2, .int z, rfl, rfl, .of h1, atI_nat (j := 2) rfl, z, rfl, l, _, rfl, .of h2, fun p1 n1 => ?_⟩
      refine ⟨by show 1 ≤ sizeLine; decide, fun p2 n2 => ?_⟩
      have s1 := same_upd (o := .lst (cutV (cs.map V.int) (some z) none)) n1
      have s2 := same_upd (o := .lst [.int 0]) n2
      have hle : (cutV (cs.map V.int) (some z) none).length ≤ 63 := Nat.le_trans (cut_len _ _ _) (by rw [List.length_map]; exact hcl)
      refine ⟨p1, p2, _, _, rfl, rfl, s2 _ _ upd_same, upd_same, Nat.le_of_lt (small1000 (by show _ + 1 ≤ 1000; omega)), fun p3 n3 => ?_⟩
      have s3 := same_upd (o := .lst (cutV (cs.map V.int) (some z) none ++ [.int 0])) n3
      obtain ⟨c, hc0, hcv⟩ := head_cell hc (some z) none
      refine ⟨p3, _, 0, .int c, rfl, rfl, .of upd_same, atI_nat (j := 0) hcv, ?_⟩
      have s13 := (s1.trans s2).trans s3
      clear s1 s2 s3 n1 n2 n3 hle hcv
      revert s13
      generalize upd (upd (upd H p1 (.lst (cutV (cs.map V.int) (some z) none))) p2 (.lst [.int 0])) p3 (.lst (cutV (cs.map V.int) (some z) none ++ [.int 0])) = H3
      intro s13
      have g1 := s13 _ _ h1
      have g2 := s13 _ _ h2
      -- bag[2] += 1
      refine ⟨_, rfl, b, _, 2, .int z, rfl, rfl, .of g1, rfl, z, 1, rfl, rfl, b, _, 2, 2, rfl, rfl, g1, rfl, ?_⟩
      have r1 : Rel b H (upd H3 b (.lst [.int x, .int y, .int (z + 1), .ref l])) := ⟨fun a o n e => by rw [upd_ne n]; exact s13 a o e, fun k z => by rw [z.eq h1]; exact ⟨_, _, _, upd_same⟩, x, y, z + 1, l, cs, upd_same, by rw [upd_ne hlb]; exact g2, hlb, hx, hy0, hy1, by omega, hcl, hc⟩
      -- if cell >= 10 ** 18: bag[0] = cell
      refine ⟨fun σ H' => ∃ x', σ = [some (.ref b), some (.int many), some (.int c), none, none, none, none] ∧ Rel b H H' ∧ H' b = some (.lst [.int x', .int y, .int (z + 1), .ref l]) ∧ 0 ≤ x', ?_, ?_⟩
      · refine ⟨_, rfl, _, _, rfl, rfl, ⟨by decide, by decide, by decide⟩, _, _, rfl, rfl, _, rfl, iteP (fun h => ?_) fun h => ?_⟩
        · refine ⟨_, rfl, _, rfl, b, _, 0, 0, rfl, rfl, upd_same, rfl, c, rfl, ⟨fun a o n e => by rw [upd_ne n]; exact r1.keep a o n e, fun k z => by rw [z.eq h1]; exact ⟨_, _, _, upd_same⟩, c, y, z + 1, l, cs, upd_same, by rw [upd_ne hlb, upd_ne hlb]; exact g2, hlb, hc0, hy0, hy1, by omega, hcl, hc⟩, upd_same, hc0⟩
        · exact ⟨x, rfl, r1, upd_same, hx⟩
      · rintro σ H' ⟨x', rfl, R, hB, hx'⟩
        have e1 : l ≠ b := hlb
        have g3 : H' l = some (.lst (cs.map V.int)) := R.keep _ _ hlb h2
        refine ⟨_, rfl, b, _, 1, .int y, rfl, rfl, .of hB, atI_nat (j := 1) rfl, _, _, rfl, rfl, .inl ⟨by omega, by omega⟩, _, rfl, .inl ⟨_, rfl, _, _, rfl, rfl, (by show (0 : Int) < _; decide), _, _, rfl, rfl, _, rfl, b, _, 2, .int (z + 1), rfl, rfl, .of hB, atI_nat (j := 2) rfl, _, _, rfl, rfl, .inl ⟨by decide, by decide⟩, _, _, rfl, rfl, ?_⟩⟩
        refine ⟨_, rfl, .inl ⟨_, rfl, _, _, rfl, rfl, (by show (0 : Int) < _; decide), _, rfl, b, _, 1, 1, rfl, rfl, hB, rfl, _, _, rfl, ?_⟩⟩
        exact ⟨fun a o n e => by rw [upd_ne n]; exact R.keep a o n e, fun k z => by rw [z.eq h1]; exact ⟨_, _, _, upd_same⟩, x', _, z + 1, l, cs, upd_same, by rw [upd_ne hlb]; exact g3, hlb, hx', Int.emod_nonneg _ (by decide), Int.emod_lt_of_pos _ (by decide), by omega, hcl, hc⟩
    · exact ⟨_, _, rfl, .refl ⟨x, y, z, l, cs, h1, h2, hlb, hx, hy0, hy1, hz, hcl, hc⟩⟩
  · rintro σ H' ⟨v2, v3, rfl, R⟩
    obtain ⟨x, y, z, l, cs, h1, h2, hlb, hx, hy0, hy1, hz, hcl, hc⟩ := id R.bag
    refine ⟨_, rfl, b, _, 0, .int x, rfl, rfl, .of h1, atI_nat (j := 0) rfl, _, _, rfl, rfl, _, rfl, iteP (fun h => ?_) fun h => ?_⟩
    · refine ⟨_, rfl, b, _, 0, .int x, rfl, rfl, .of h1, atI_nat (j := 0) rfl, .inl ⟨_, rfl, _, rfl, _, _, rfl, rfl, hm0, ?_⟩⟩
      refine ⟨_, rfl, b, _, 0, .int x, rfl, rfl, .of h1, atI_nat (j := 0) rfl, .inl ⟨_, rfl, _, rfl, _, _, rfl, rfl, ⟨hm0, hm1⟩, _, rfl, b, _, 0, 0, rfl, rfl, h1, rfl, ?_⟩⟩
      refine ⟨_, rfl, k _ _ (Int.emod_nonneg _ (by omega)) (Int.emod_lt_of_pos _ hm0) ⟨fun a o n e => by rw [upd_ne n]; exact R.keep a o n e, fun k z => by rw [(R.cell k z).eq h1]; exact ⟨_, _, _, upd_same⟩, _, y, z, l, cs, upd_same, by rw [upd_ne hlb]; exact h2, hlb, Int.ediv_nonneg hx (by omega), hy0, hy1, hz, hcl, hc⟩⟩
    · have f1 := Int.emod_nonneg ((y + 1) * 39373) (show (1000000007 : Int) ≠ 0 by decide)
      have f2 := Int.emod_lt_of_pos ((y + 1) * 39373) (show (0 : Int) < 1000000007 by decide)
      refine ⟨_, rfl, b, _, 1, .int y, rfl, rfl, .of h1, atI_nat (j := 1) rfl, _, _, rfl, rfl, _, _, rfl, rfl, .inl ⟨by omega, by omega⟩, .inl ⟨_, rfl, _, _, rfl, rfl, (by show (0 : Int) < _; decide), ?_⟩⟩
      refine ⟨_, rfl, _, rfl, _, _, rfl, rfl, .inl ⟨by omega, by omega⟩, .inl ⟨_, rfl, _, _, rfl, rfl, (by show (0 : Int) < _; decide), _, _, rfl, rfl, .inr ⟨by decide, by decide⟩, .inl ⟨_, rfl, _, _, rfl, rfl, (by show (0 : Int) < _; decide), ?_⟩⟩⟩
      refine ⟨_, rfl, _, _, rfl, rfl, ⟨by decide, by decide⟩, .inl ⟨_, rfl, _, rfl, _, _, rfl, rfl, hm0, k _ _ (Int.emod_nonneg _ (by omega)) (Int.emod_lt_of_pos _ hm0) R⟩⟩
abbrev s_law_some : Stmt := topS 20
theorem sc__law_some : FnScope ["bag", "things"] ["bag", "things"] (defScope s_law_some) := ⟨rfl, rfl, rfl, by decide +kernel, rfl, by decide +kernel, by decide +kernel⟩
theorem ok__law_some {f : Addr} {fd : FuncData} (F : Fun K "_law_some" "_law_some" s_law_some f fd) (B : Bt mg) (c__law_take : CalG P w K mg base 1 "_law_take" spTake) : FnG P w K mg base 2 f fd ["bag", "things"] spSome := by
  refine Fun.okG F sc__law_some (fun vs H Q E h => ?_) (fun cdv A outer s H vs Q E hg hr h => ?_)
  · obtain ⟨b, t, xs, rfl, _⟩ := h
    rfl
  obtain ⟨b, t, xs, rfl, hb, ht, h1, h2, h3, k⟩ := h
  refine ⟨_, (pss_one (ps_ret (pe_ix ix_list (pv 1) (pc c__law_take hg hr (by decide) (by rfl) (pa_cons (pv 0) (pa_cons (pe_callB call_lenA (by rfl) B.len boot_len (pa_cons (pv 1) pa_nil)) pa_nil))) (fun _ _ => rfl)))), ?_⟩
  refine ⟨_, rfl, _, rfl, _, rfl, _, xs.length, rfl, .inl ⟨xs, .of h1, rfl⟩, b, _, rfl, hb, by omega, by omega, fun v H' v0 v1 R => ?_⟩
  obtain ⟨i, rfl⟩ : ∃ i : Nat, v = (i : Int) := ⟨v.toNat, by omega⟩
  have hi : i < xs.length := by omega
  exact ⟨t, xs, i, xs[i], rfl, rfl, .of (R.keep _ _ ht h1), atI_nat (List.getElem?_eq_getElem hi), k i _ H' (List.getElem?_eq_getElem hi) R⟩
/-- the FRACTION n / d -/
def spRed : Sp := fun vs H Q _ => ∃ n d : Int, vs = [.int n, .int d] ∧ d ≠ 0 ∧ d.natAbs < 2 ^ 8000 ∧ ∀ p, H p = none → Q (.ref p) (upd H p (.tup [.int (redI n d).1, .int (redI n d).2]))
abbrev s_law_reduced : Stmt := topS 22
theorem sc__law_reduced : FnScope ["n", "d", "shared"] ["n", "d"] (defScope s_law_reduced) := ⟨rfl, rfl, rfl, by decide +kernel, rfl, by decide +kernel, by decide +kernel⟩
theorem ok__law_reduced {f : Addr} {fd : FuncData} (F : Fun K "_law_reduced" "_law_reduced" s_law_reduced f fd) (B : Bt mg) (c__law_common : CalG P w K mg base 1 "_law_common" spCommon) : FnG P w K mg base 2 f fd ["n", "d"] spRed := by
  refine Fun.okG F sc__law_reduced (fun vs H Q E h => ?_) (fun cdv A outer s H vs Q E hg hr h => ?_)
  · obtain ⟨n, d, rfl, _⟩ := h
    rfl
  obtain ⟨n, d, rfl, h0, h1, k⟩ := h
  refine ⟨_, (pss_cons (ps_set (i := 2) sc__law_reduced.nd rfl (Or.inl rfl) (pe_callB (call_max2 rfl) (by rfl) B.max bb_max (pa_cons pe_int (pa_cons (pc c__law_common hg hr (by decide) (by rfl) (pa_cons (pv 0) (pa_cons (pv 1) pa_nil))) pa_nil))))
    (pss_cons (ps_if (pt_cmpR op_lt (pv 1) pe_int (nomark _))
      (pss_one (ps_ret (pe_tup (pa_cons (pe_op op_fdivW (pe_un un_neg (pv 0)) (pv 2)) (pa_cons (pe_op op_fdivW (pe_un un_neg (pv 1)) (pv 2)) pa_nil)))))
      pss_nil)
    (pss_one (ps_ret (pe_tup (pa_cons (pe_op op_fdivW (pv 0) (pv 2)) (pa_cons (pe_op op_fdivW (pv 1) (pv 2)) pa_nil))))))), ?_⟩
  have hw : CDivW 0 (sh n d) := wide_div (sh_pos n d) (Nat.lt_of_le_of_lt (sh_le h0) h1) (by decide) (by decide)
  have e1 : (if gI n d > 1 then gI n d else 1) = sh n d := rfl
  refine ⟨_, rfl, _, rfl, n, d, rfl, _, _, rfl, ?_⟩
  rw [e1]
  refine ⟨_, rfl, _, _, rfl, rfl, _, rfl, iteP (fun h => ?_) fun h => ?_⟩
  · have e2 : redI n d = ((-n) / sh n d, (-d) / sh n d) := if_pos h
    rw [e2] at k
    refine ⟨_, rfl, _, rfl, _, rfl, _, _, rfl, rfl, hw, _, rfl, _, rfl, _, rfl, _, _, rfl, rfl, hw, by show 2 ≤ sizeLine; decide, fun p np => k p np⟩
  · have e2 : redI n d = (n / sh n d, d / sh n d) := if_neg h
    rw [e2] at k
    refine ⟨_, rfl, _, rfl, _, _, rfl, rfl, hw, _, rfl, _, rfl, _, _, rfl, rfl, hw, by show 2 ≤ sizeLine; decide, fun p np => k p np⟩
/-- a drawn FRACTION, not heavy -/
def NumE (d : PyData) : Prop := NumD d ∧ d.weight ≤ 43
def spNumE (K : PySem.W.Frag) : Sp := fun vs H Q E => ∃ most : Int, 0 < most ∧ most ≤ 1000000 ∧ spG K [.int most] NumE vs H Q E
theorem wt_pair {n m : Int} {j k : Nat} (hn : n.natAbs < 2 ^ j) (hm : m.natAbs < 2 ^ k) : (PyData.tuple [.int n, .int m]).weight ≤ j + k + 2 := by
  have one : ∀ {i : Int} {e : Nat}, i.natAbs < 2 ^ e → (PyData.int i).weight ≤ e := fun {i e} h => by
    simp only [PyData.weight]
    by_cases hz : i = 0
    · rw [hz]
      exact Nat.zero_le _
    · have := (Nat.log2_lt (show i.natAbs ≠ 0 by omega)).mpr h
      split <;> omega
  have h1 := one hn
  have h2 := one hm
  simp only [PyData.weight, PyData.weightAll] at h1 h2 ⊢
  omega
abbrev s_law_number : Stmt := topS 23
theorem sc__law_number : FnScope ["bag", "most", "way"] ["bag", "most"] (defScope s_law_number) := ⟨rfl, rfl, rfl, by decide +kernel, rfl, by decide +kernel, by decide +kernel⟩
theorem ok__law_number {f : Addr} {fd : FuncData} (F : Fun K "_law_number" "_law_number" s_law_number f fd) (B : Bt mg) (c__law_take : CalG P w K mg base 1 "_law_take" spTake) (c__law_some : CalG P w K mg base 2 "_law_some" spSome) (c__law_reduced : CalG P w K mg base 2 "_law_reduced" spRed) :
    FnG P w K mg base 3 f fd ["bag", "most"] (spNumE K) := by
  refine Fun.okG F sc__law_number (fun vs H Q E h => ?_) (fun cdv A outer s H vs Q E hg hr h => ?_)
  · obtain ⟨most, _, _, b, mu, rfl, _⟩ := h
    rfl
  obtain ⟨most, hm0, hm1, b, mu, rfl, hmu, hb, hM, k⟩ := h
  refine ⟨_, (pss_cons (ps_set (i := 2) sc__law_number.nd rfl (Or.inl rfl) (pc c__law_take hg hr (by decide) (by rfl) (pa_cons (pv 0) (pa_cons pe_int pa_nil))))
    (pss_cons (ps_if (pt_cmpR op_eq (pv 2) pe_int (nomark _))
      (pss_one (ps_ret (pc c__law_reduced hg hr (by decide) (by rfl) (pa_cons (pe_op op_add pe_int (pc c__law_take hg hr (by decide) (by rfl) (pa_cons (pv 0) (pa_cons (pe_op op_mul pe_int (pv 1)) pa_nil)))) (pa_cons (pc c__law_some hg hr (by decide) (by rfl) (pa_cons (pv 0) (pa_cons (pe_lst (pa_cons pe_int (pa_cons pe_int (pa_cons pe_int pa_nil)))) pa_nil))) pa_nil)))))
      pss_nil)
    (pss_cons (ps_if (pt_cmpR op_eq (pv 2) pe_int (nomark _))
      (pss_one (ps_ret (pc c__law_some hg hr (by decide) (by rfl) (pa_cons (pv 0) (pa_cons (pe_lst (pa_cons (pe_tup (pa_cons pe_int (pa_cons pe_int pa_nil))) (pa_cons (pe_tup (pa_cons pe_int (pa_cons pe_int pa_nil))) (pa_cons (pe_tup (pa_cons pe_int (pa_cons pe_int pa_nil))) (pa_cons (pe_tup (pa_cons pe_int (pa_cons pe_int pa_nil))) (pa_cons (pe_tup (pa_cons pe_int (pa_cons pe_int pa_nil))) pa_nil)))))) pa_nil)))))
      pss_nil)
    (pss_one (ps_ret (pe_tup (pa_cons (pe_op op_add pe_int (pc c__law_take hg hr (by decide) (by rfl) (pa_cons (pv 0) (pa_cons (pv 1) pa_nil)))) (pa_cons pe_int pa_nil)))))))), ?_⟩
  -- way = _law_take(bag, 12)
  refine ⟨_, rfl, b, _, rfl, hb, by decide, by decide, fun way H1 w0 w1 R1 => ?_⟩
  have M1 := hM.rel R1
  refine ⟨_, rfl, rfl, _, rfl, iteEq (fun e => ?_) fun e => ?_⟩
  · -- _law_reduced(1 + _law_take(bag, 3 * most), _law_some(bag, [2, 3, 7]))
    refine ⟨_, rfl, _, rfl, _, _, rfl, rfl, .inl ⟨by decide, by decide⟩, b, _, rfl, R1.bag, by omega, by omega, fun t H2 t0 t1 R2 => ⟨_, _, rfl, rfl, ?_⟩⟩
    have M2 := M1.rel R2
    refine gv_some (K := K) (mu := mu) (D := fun d => ∃ j : Int, d = .int j ∧ 2 ≤ j ∧ j ≤ 7) (n := 3) hmu rfl (gvA_cons hmu (ge_int.gv ⟨2, rfl, by decide, by decide⟩) (gvA_cons hmu (ge_int.gv ⟨3, rfl, by decide, by decide⟩) (gvA_cons hmu (ge_int.gv ⟨7, rfl, by decide, by decide⟩) gvA_nil))) (by decide) (by decide) H2 (.refl R2.bag) M2 _ fun v H3 d hd R3 hv _ => ?_
    obtain ⟨j, rfl, j0, j1⟩ := hd
    cases hv
    have hp : (7 : Nat) < 2 ^ 8000 := by decide +kernel
    refine ⟨_, _, rfl, by omega, Nat.lt_of_le_of_lt (show j.natAbs ≤ 7 by omega) hp, fun p np => ?_⟩
    have R := (R1.trans R2).trans R3
    obtain ⟨q1, q2, q3, q4, q5⟩ := redI_pos (show 0 < 1 + t by omega) (show 0 < j by omega)
    exact k (.ref p) _ _ ⟨⟨_, _, rfl, q1, by omega, q3, by omega, q5⟩, Nat.le_trans (wt_pair (j := 22) (k := 3) (by omega) (by omega)) (by decide)⟩ (R.same (same_upd np)) (.tup (.inl upd_same) (.cons (.int _) (.cons (.int _) .nil))) (own_not fun _ z => nomatch z)
  · refine ⟨_, rfl, rfl, _, rfl, iteEq (fun e1 => ?_) fun e1 => ?_⟩
    · have g : ∀ {σ : L2.St} {H0 : Hp} {n m : Int}, NumP n m → (PyData.tuple [.int n, .int m]).weight ≤ 43 → Gv K b mu σ H0 (tTup (tCons (tC (.int n)) (tCons (tC (.int m)) tNil))) NumE := fun {σ H0 n m} h h2 => (ge_tup hmu (geA_cons hmu ge_int (geA_cons hmu ge_int geA_nil)) (show 2 ≤ 1000 by decide)).gv ⟨numD h, h2⟩
      refine gv_some (K := K) (mu := mu) (D := NumE) (n := 5) hmu rfl (gvA_cons hmu (g ⟨by decide, by decide, by decide, by decide, by decide⟩ (by decide +kernel)) (gvA_cons hmu (g ⟨by decide, by decide, by decide, by decide, by decide⟩ (by decide +kernel)) (gvA_cons hmu (g ⟨by decide, by decide, by decide, by decide, by decide⟩ (by decide +kernel)) (gvA_cons hmu (g ⟨by decide, by decide, by decide, by decide, by decide⟩ (by decide +kernel)) (gvA_cons hmu (g ⟨by decide, by decide, by decide, by decide, by decide⟩ (by decide +kernel)) gvA_nil))))) (by decide) (by decide) H1 (.refl R1.bag) M1 _ fun v H3 d hd R3 hv _ => ?_
      exact k v H3 d hd (R1.trans R3) hv hd.1.not
    · refine ⟨_, rfl, _, rfl, b, _, rfl, R1.bag, by omega, by omega, fun t H2 t0 t1 R2 => ⟨_, _, rfl, rfl, by show 2 ≤ sizeLine; decide, fun p np => ?_⟩⟩
      refine k (.ref p) _ _ ⟨⟨_, _, rfl, by omega, by omega, by decide, by decide, ?_⟩, Nat.le_trans (wt_pair (j := 20) (k := 1) (by omega) (by decide)) (by decide)⟩ ((R1.trans R2).same (same_upd np)) (.tup (.inl upd_same) (.cons (.int _) (.cons (.int _) .nil))) (own_not fun _ z => nomatch z)
      unfold gI
      simp
abbrev s_law_alike : Stmt := topS 16
theorem sc__law_alike : FnScope ["found", "due"] ["found", "due"] (defScope s_law_alike) := ⟨rfl, rfl, rfl, by decide +kernel, rfl, by decide +kernel, by decide +kernel⟩
theorem ok__law_alike {f : Addr} {fd : FuncData} (F : Fun K "_law_alike" "_law_alike" s_law_alike f fd) (B : Bt mg) : FnG P w K mg base 1 f fd ["found", "due"] (spAlike K) := by
  refine Fun.okG F sc__law_alike (fun vs H Q E h => ?_) (fun cdv A outer s H vs Q E hg hr h => ?_)
  · obtain ⟨x, y, mu, d, rfl, _⟩ := h
    rfl
  obtain ⟨x, y, mu, d, rfl, hx, hy, ho, hn, k⟩ := h
  have hu := Room.u64 hr
  refine ⟨_, (pss_one (ps_ret (pe_and (pe_cmpR (op_eqA hu) (pv 0) (pv 1) (nomark _)) (pe_one (pe_cmpR op_eq (pe_callB (call_repr hg hu) (by rfl) B.repr bb_repr (pa_cons (pv 0) pa_nil)) (pe_callB (call_repr hg hu) (by rfl) B.repr bb_repr (pa_cons (pv 1) pa_nil)) (nomark _)))))), ?_⟩
  have key : ∀ Q' : VK, Q' (.bl true) H → rEqA K x y H Q' := fun Q' q => by
    rcases hn with n | ⟨_, n, h1, h2⟩
    · refine .inl ⟨mu, d, d, hx, hy, ho.shaped n, ho.shaped n, ?_⟩
      rw [eqv_same (ok_lay d ho.ok n)]
      exact q
    · exact .inr (.inl ⟨n, h1, h2, q⟩)
  have hm : d.hasDict = false ∨ mu sysModules := hn.imp id And.left
  refine ⟨_, rfl, _, rfl, key _ ?_⟩
  refine ⟨_, rfl, iteT ⟨_, rfl, ?_⟩⟩
  refine ⟨x, mu, d, rfl, hx, ho.show, hm, by have := ho.dp; omega, ho.fits, ?_⟩
  refine ⟨_, rfl, ?_⟩
  refine ⟨y, mu, d, rfl, hy, ho.show, hm, by have := ho.dp; omega, ho.fits, ?_⟩
  have e : decide (V.str d.shown = V.str d.shown) = true := decide_eq_true rfl
  first
    | (show Q (.bl (decide (V.str d.shown = V.str d.shown))) H; rw [e]; exact k)
    | (refine ⟨rfl, ?_⟩; rw [e]; exact k)
    | (refine ⟨rfl, rfl, ?_⟩; rw [e]; exact k)
def spBag (K : PySem.W.Frag) : Sp := fun vs H Q _ => ∃ (a : Addr) (ns : List Int), vs = [.ref a] ∧ SqL K H a (ns.map V.int) ∧ ns.length ≤ 63 ∧ ∀ b H', Same H H' → H b = none → BagAt H' b → Q (.ref b) H'
abbrev s_law_bag : Stmt := topS 17
theorem sc__law_bag : FnScope ["script", "cell"] ["script"] (defScope s_law_bag) := ⟨rfl, rfl, rfl, by decide +kernel, rfl, by decide +kernel, by decide +kernel⟩
theorem ok__law_bag {f : Addr} {fd : FuncData} (F : Fun K "_law_bag" "_law_bag" s_law_bag f fd) (B : Bt mg) : FnG P w K mg base 1 f fd ["script"] (spBag K) := by
  refine Fun.okG F sc__law_bag (fun vs H Q E h => ?_) (fun cdv A outer s H vs Q E hg hr h => ?_)
  · obtain ⟨a, ns, rfl, _⟩ := h
    rfl
  obtain ⟨a, ns, rfl, hS, hl, k⟩ := h
  refine ⟨_, (pss_one (ps_ret (pe_lst (pa_cons pe_int (pa_cons pe_int (pa_cons pe_int (pa_cons (pe_lc (own := [("cell", 1)]) rfl sc__law_bag.nd (pi_list (pe_slice sl_list (pv 0) po_none (po_some pe_int))) (blkOk_by (own := [("cell", 1)]) (N := ["script", "cell"]) (sc := (defScope s_law_bag)) (by decide +kernel)) (fun _ _ _ _ _ => (pg_name (i := 1) sc__law_bag.nd rfl (Or.inl rfl))) (fun _ _ _ _ _ => pts_nil) (fun _ _ _ _ _ => (pe_callB call_abs (by rfl) B.abs bb_abs (pa_cons (pv 1) pa_nil)))) pa_nil))))))), ?_⟩
  refine ⟨_, rfl, 63, rfl, a, _, rfl, hS, fun p np => ?_⟩
  have sp := same_upd (o := .lst (cutV (ns.map V.int) none (some 63))) np
  obtain ⟨ms, em, hms⟩ : ∃ ms : List Int, cutV (ns.map V.int) none (some 63) = ms.map V.int ∧ ms.length ≤ 63 := by
    refine ⟨(ns.drop (HT.sIx ns.length 0 none)).take (HT.sIx ns.length ns.length (some 63) - HT.sIx ns.length 0 none), ?_, ?_⟩
    · unfold cutV
      rw [List.map_take, List.map_drop, List.length_map]
    · rw [List.length_take, List.length_drop]
      omega
  rw [em] at sp ⊢
  refine ⟨p, rfl, ⟨_, .inl (.inl upd_same)⟩, fun D nD => ?_⟩
  have sD := same_upd (o := .lst []) nD
  have nDp : p ≠ D := fun z => by
    rw [← z, upd_same] at nD
    cases nD
  refine lc_it (walk_list (xs := ms.map V.int) (a := p)) (fun i H' => Same H H' ∧ H' p = some (.lst (ms.map V.int)) ∧ H' D = some (.lst (((ms.take i).map fun c => if c < 0 then -c else c).map V.int))) ⟨sp.trans sD, sD _ _ upd_same, by rw [upd_same]; rfl⟩ (fun i H' _ h => .inl (.inl h.2.1)) (fun i x H2 H3 hi h y => ?_) fun H2 h => ?_
  · obtain ⟨h1, h2, h3⟩ := h
    obtain ⟨rfl, hx⟩ := y
    rw [List.getElem?_map] at hx
    have hi' : i < ms.length := by simpa using hi
    rw [List.getElem?_eq_getElem hi'] at hx
    cases hx
    refine ⟨rfl, _, rfl, _, rfl, _, h3, Nat.lt_of_le_of_lt (by rw [List.length_map, List.length_map, List.length_take]; exact Nat.min_le_left _ _) (small1000 (show i ≤ 1000 by omega)), fun q o e => ?_, ?_, ?_⟩
    · have nq : q ≠ D := fun z => by
        have e2 := sp _ _ e
        rw [z, nD] at e2
        cases e2
      rw [upd_ne nq]
      exact h1 q o e
    · rw [upd_ne nDp]
      exact h2
    · rw [upd_same, List.take_add_one, List.getElem?_eq_getElem hi', List.map_append, List.map_append]
      rfl
  · obtain ⟨h1, h2, h3⟩ := h
    rw [show List.take (ms.map V.int).length ms = ms from List.take_of_length_le (by rw [List.length_map]; exact Nat.le_refl _)] at h3
    refine ⟨by show 4 ≤ sizeLine; decide, fun b nb => ?_⟩
    have s3 := same_upd (o := .lst [.int 0, .int 1234567891, .int 0, .ref D]) nb
    have nbD : D ≠ b := fun z => by
      rw [z, nb] at h3
      cases h3
    have hb0 : H b = none := by
      cases e : H b with
      | none => rfl
      | some o =>
        rw [h1 _ _ e] at nb
        cases nb
    refine k b _ (h1.trans s3) hb0 ⟨0, 1234567891, 0, D, ms.map fun c => if c < 0 then -c else c, upd_same, s3 _ _ h3, nbD, by decide, by decide, by decide, by decide, by rw [List.length_map]; exact hms, fun c hc => ?_⟩
    obtain ⟨z, _, rfl⟩ := List.mem_map.mp hc
    split <;> omega
end
end K02
namespace K02
open PySem PySem.Spec PyProof.Rows L2 Sw
/-- a FRACTION above 0 -/
def isAb : PyData → Bool
  | .tuple [.int n, .int d] => isFrac (.tuple [.int n, .int d]) && decide (0 < n)
  | _ => false
def isIn (a b : Int) : PyData → Bool
  | .int i => decide (a ≤ i ∧ i ≤ b)
  | _ => false
mutual
/-- a CLAIM of ranks -/
def clm (r : Int) : PyData → Bool
  | .tuple (.str w :: ps) => clmW r w ps
  | _ => false
def clmW (r : Int) (w : Str) : List PyData → Bool
  | [] => decide (w = "none")
  | [p] => (decide (w = "shares") && isAb p) || (decide (w = "sum") && clmS r p)
  | [p, q] => isAb q && ((decide (w = "due") && isIn 0 (r - 1) p) || (decide (w = "option") && isAb p) || (decide (w = "capped") && clm r p))
  | _ => false
def clmS (r : Int) : PyData → Bool
  | .tuple cs => decide (2 ≤ cs.length) && clmA r cs
  | _ => false
def clmA (r : Int) : List PyData → Bool
  | [] => true
  | d :: ds => clm r d && clmA r ds
end
/-- a tuple of two at least -/
def tup2 : PyData → Bool
  | .tuple cs => decide (2 ≤ cs.length)
  | _ => false
/-- looked at by itself -/
def loc (r : Int) : PyData → Bool
  | .tuple [.str w] => decide (w = "none")
  | .tuple [.str w, p] => (decide (w = "shares") && isAb p) || (decide (w = "sum") && tup2 p)
  | .tuple [.str w, p, q] => isAb q && ((decide (w = "due") && isIn 0 (r - 1) p) || (decide (w = "option") && isAb p) || decide (w = "capped"))
  | _ => false
/-- what stands below -/
def sub : PyData → List PyData
  | .tuple [.str w, p] => if w = "sum" then (match p with | .tuple cs => cs | _ => []) else []
  | .tuple [.str w, p, _] => if w = "capped" then [p] else []
  | _ => []
theorem clm_loc (r : Int) (d : PyData) : clm r d = (loc r d && clmA r (sub d)) := by
  unfold loc sub
  split
  · rename_i w
    show clmW r w [] = _
    simp [clmW, clmA]
  · rename_i w p
    show clmW r w [p] = _
    by_cases h : w = "sum"
    · subst h
      have e : decide ((Str.ofString "sum") = Str.ofString "shares") = false := by decide +kernel
      cases p <;> simp [clmW, clmS, clmA, e, tup2]
    · simp [clmW, h, clmA]
  · rename_i w p q
    show clmW r w [p, q] = _
    by_cases h : w = "capped"
    · subst h
      have e : decide ((Str.ofString "capped") = Str.ofString "due") = false := by decide +kernel
      have e2 : decide ((Str.ofString "capped") = Str.ofString "option") = false := by decide +kernel
      simp [clmW, clmA, e, e2]
    · simp [clmW, h, clmA]
  · rename_i h1 h2 h3
    cases d with
    | tuple ds =>
      match ds with
      | [] => rfl
      | .str w :: [] => exact absurd rfl (h1 w)
      | .str w :: p :: [] => exact absurd rfl (h2 w p)
      | .str w :: p :: q :: [] => exact absurd rfl (h3 w p q)
      | .str w :: p :: q :: t :: ds => simp [clm, clmW]
      | .none :: _ | .bool _ :: _ | .int _ :: _ | .list _ :: _ | .tuple _ :: _ | .dict _ :: _ => simp [clm]
    | _ => rfl
def locW (r : Int) (w : Str) : List PyData → Bool
  | [] => decide (w = "none")
  | [p] => (decide (w = "shares") && isAb p) || (decide (w = "sum") && tup2 p)
  | [p, q] => isAb q && ((decide (w = "due") && isIn 0 (r - 1) p) || (decide (w = "option") && isAb p) || decide (w = "capped"))
  | _ => false
theorem loc_str (r : Int) (w : Str) : ∀ ps : List PyData, loc r (.tuple (.str w :: ps)) = locW r w ps
  | [] => rfl
  | [p] => rfl
  | [p, q] => rfl
  | p :: q :: t :: ds => rfl
theorem loc_not {r : Int} {d : PyData} (h : ∀ w, d ≠ .str w) (ps : List PyData) : loc r (.tuple (d :: ps)) = false := by
  cases d with
  | str w => exact absurd rfl (h w)
  | _ => rfl
theorem locW_none (r : Int) : ∀ ps : List PyData, locW r "none" ps = decide (ps = [])
  | [] => by simp [locW]
  | [p] => by
    have e : decide (("none" : Str) = "shares") = false := by decide +kernel
    have e2 : decide (("none" : Str) = "sum") = false := by decide +kernel
    simp [locW, e, e2]
  | [p, q] => by
    have e : decide (("none" : Str) = "due") = false := by decide +kernel
    have e2 : decide (("none" : Str) = "option") = false := by decide +kernel
    have e3 : decide (("none" : Str) = "capped") = false := by decide +kernel
    simp [locW, e, e2, e3]
  | p :: q :: t :: ds => by simp [locW]
theorem locW_other {r : Int} {w : Str} (h1 : w ≠ "none") (h2 : w ≠ "shares") (h3 : w ≠ "sum") (h4 : w ∉ (["due", "option", "capped"] : List Str)) : ∀ ps : List PyData, locW r w ps = false := by
  simp only [List.mem_cons, List.not_mem_nil, or_false, not_or] at h4
  obtain ⟨h4, h5, h6⟩ := h4
  intro ps
  match ps with
  | [] => simp [locW, h1]
  | [p] => simp [locW, h2, h3]
  | [p, q] => simp [locW, h4, h5, h6]
  | p :: q :: t :: ds => rfl
theorem locW_two {r : Int} {w : Str} (h1 : w ≠ "none") (h2 : w ≠ "shares") (h3 : w ≠ "sum") {ps : List PyData} (hl : ps.length ≠ 2) : locW r w ps = false := by
  match ps, hl with
  | [], _ => simp [locW, h1]
  | [p], _ => simp [locW, h2, h3]
  | [p, q], hl => exact absurd rfl hl
  | p :: q :: t :: ds, _ => rfl
theorem locW_one {r : Int} {w : Str} (h : w = "shares" ∨ w = "sum") {ps : List PyData} (hl : ps.length ≠ 1) : locW r w ps = false := by
  have e1 : decide (("shares" : Str) = "none") = false := by decide +kernel
  have e2 : decide (("shares" : Str) = "due") = false := by decide +kernel
  have e3 : decide (("shares" : Str) = "option") = false := by decide +kernel
  have e4 : decide (("shares" : Str) = "capped") = false := by decide +kernel
  have f1 : decide (("sum" : Str) = "none") = false := by decide +kernel
  have f2 : decide (("sum" : Str) = "due") = false := by decide +kernel
  have f3 : decide (("sum" : Str) = "option") = false := by decide +kernel
  have f4 : decide (("sum" : Str) = "capped") = false := by decide +kernel
  match ps, hl with
  | [], _ => rcases h with rfl | rfl <;> simp [locW, e1, f1]
  | [p], hl => exact absurd rfl hl
  | [p, q], _ => rcases h with rfl | rfl <;> simp [locW, e2, e3, e4, f2, f3, f4]
  | p :: q :: t :: ds, _ => rfl
theorem locW_shares (r : Int) (p : PyData) : locW r "shares" [p] = isAb p := by
  have e : decide (("shares" : Str) = "sum") = false := by decide +kernel
  simp [locW, e]
theorem locW_sum (r : Int) (p : PyData) : locW r "sum" [p] = tup2 p := by
  have e : decide (("sum" : Str) = "shares") = false := by decide +kernel
  simp [locW, e]
theorem locW_due (r : Int) (p q : PyData) : locW r "due" [p, q] = (isAb q && isIn 0 (r - 1) p) := by
  have e : decide (("due" : Str) = "option") = false := by decide +kernel
  have e2 : decide (("due" : Str) = "capped") = false := by decide +kernel
  simp [locW, e, e2]
theorem locW_capped (r : Int) (p q : PyData) : locW r "capped" [p, q] = isAb q := by
  simp [locW]
theorem locW_option (r : Int) (p q : PyData) : locW r "option" [p, q] = (isAb q && isAb p) := by
  have e : decide (("option" : Str) = "due") = false := by decide +kernel
  have e2 : decide (("option" : Str) = "capped") = false := by decide +kernel
  simp [locW, e, e2]
theorem loc_head {r : Int} : ∀ {ds : List PyData}, loc r (.tuple ds) = true → ∃ w ps, ds = .str w :: ps
  | [], h => by cases h
  | d :: ps, h => by
    cases d with
    | str w => exact ⟨w, ps, rfl⟩
    | _ =>
      rw [loc_not (by intro w z; cases z)] at h
      cases h
theorem sub_capped (p q : PyData) : sub (.tuple [.str "capped", p, q]) = [p] := by simp [sub]
theorem sub_sum (cs : List PyData) : sub (.tuple [.str "sum", .tuple cs]) = cs := by simp [sub]
theorem sub_other {w : Str} (h1 : w ≠ "capped") (h2 : w ≠ "sum") : ∀ ps : List PyData, sub (.tuple (.str w :: ps)) = []
  | [] => rfl
  | [p] => by simp [sub, h2]
  | [p, q] => by simp [sub, h1]
  | p :: q :: t :: ds => rfl
theorem capped_len {r : Int} : ∀ {ps : List PyData}, locW r "capped" ps = true → ps.length = 2
  | [], h => by
    have e : decide (("capped" : Str) = "none") = false := by decide +kernel
    simp [locW, e] at h
  | [p], h => by
    have e : decide (("capped" : Str) = "shares") = false := by decide +kernel
    have e2 : decide (("capped" : Str) = "sum") = false := by decide +kernel
    simp [locW, e, e2] at h
  | [p, q], _ => rfl
  | p :: q :: t :: ds, h => by cases h
theorem sum_len {r : Int} : ∀ {ps : List PyData}, locW r "sum" ps = true → ∃ cs, ps = [.tuple cs]
  | [], h => by
    have e : decide (("sum" : Str) = "none") = false := by decide +kernel
    simp [locW, e] at h
  | [p], h => by
    rw [locW_sum] at h
    cases p with
    | tuple cs => exact ⟨cs, rfl⟩
    | _ => cases h
  | [p, q], h => by
    have e : decide (("sum" : Str) = "due") = false := by decide +kernel
    have e2 : decide (("sum" : Str) = "option") = false := by decide +kernel
    have e3 : decide (("sum" : Str) = "capped") = false := by decide +kernel
    simp [locW, e, e2, e3] at h
  | p :: q :: t :: ds, h => by cases h
theorem isS_eq {z : Str} {d : PyData} (h : isS z d = true) : d = .str z := by
  cases d with
  | str w =>
    have h : decide (w = z) = true := h
    rw [of_decide_eq_true h]
  | _ => cases h
end K02
namespace K02
open PySem PySem.Spec PyProof.Rows L2 Sw
/-- the module's own names -/
structure Tx2 (mg : Str → Option Value) : Prop where
  MOST_RANKS : ∃ u, mg "MOST_RANKS" = some u ∧ L2.RelV (.int 6) u
def spBelow (K : PySem.W.Frag) : Sp := fun vs H Q _ => ∃ (v : V) (mu : Addr → Prop) (d : PyData), vs = [v] ∧ Dt K mu H v d ∧ (∃ r, loc r d = true) ∧ ∀ p xs H', Same H H' → SqT K H' p xs → DtA K mu H' xs (sub d) → Q (.ref p) H'
def spLoc (K : PySem.W.Frag) : Sp := fun vs H Q _ => ∃ (r : Int) (v : V) (mu : Addr → Prop) (d : PyData), vs = [.int r, v] ∧ Dt K mu H v d ∧ Ok d ∧ ∀ H', Same H H' → Q (.bl (loc r d)) H'
section
variable {P : Program} {w : World} {K : PySem.W.Frag} {mg : Str → Option Value} {base : Heap}
abbrev sis_above_zero : Stmt := topS 6
theorem sc_is_above_zero : FnScope ["thing"] ["thing"] (defScope sis_above_zero) := ⟨rfl, rfl, rfl, by decide +kernel, rfl, by decide +kernel, by decide +kernel⟩
theorem ok_is_above_zero {f : Addr} {fd : FuncData} (F : Fun K "is_above_zero" "is_above_zero" sis_above_zero f fd) (B : Bt mg) (c_is_fraction : CalG P w K mg base 2 "is_fraction" (spP K isFrac)) : FnG P w K mg base 3 f fd ["thing"] (spP K isAb) := by
  refine Fun.okG F sc_is_above_zero spP_len (fun cdv A outer s H vs Q E hg hr h => ?_)
  obtain ⟨v, mu, d, rfl, hd, ho, k⟩ := h
  refine ⟨_, (pss_one (ps_ret (pe_and (pc c_is_fraction hg hr (by decide) (by rfl) (pa_cons (pv 0) pa_nil)) (pe_one (pe_cmpR op_gt (pe_ix ix_tup (pv 0) pe_int (fun _ _ => rfl)) pe_int (nomark _)))))), ?_⟩
  refine ⟨v, rfl, v, mu, d, rfl, hd, ho, fun H1 s1 => ⟨_, rfl, iteB (fun h1 => ?_) fun h1 => ?_⟩⟩
  · have k1 := k H1 s1
    obtain ⟨n, m, rfl⟩ : ∃ n m, d = .tuple [.int n, .int m] := by
      unfold isFrac at h1
      split at h1
      · exact ⟨_, _, rfl⟩
      · cases h1
    · obtain ⟨a, xs, rfl, hS, hA⟩ := (hd.fut (.of_same s1)).tupAt
      obtain ⟨x, y, d1, d2, rfl, e2, r1, r2⟩ := hA.two rfl
      injection e2 with e3 e4
      injection e4 with e4 _
      subst e3 e4
      cases r1
      refine ⟨_, rfl, a, _, 0, .int n, rfl, rfl, hS, atI_nat (j := 0) rfl, _, _, rfl, rfl, ?_⟩
      have e : isAb (.tuple [.int n, .int m]) = (isFrac (.tuple [.int n, .int m]) && decide (0 < n)) := rfl
      rw [e, h1, Bool.true_and] at k1
      exact k1
  · have k1 := k H1 s1
    have e : isAb d = false := by
      unfold isAb
      split
      · rw [h1, Bool.false_and]
      · rfl
    rw [e] at k1
    exact k1
abbrev sis_ranks : Stmt := topS 8
theorem sc_is_ranks : FnScope ["thing"] ["thing"] (defScope sis_ranks) := ⟨rfl, rfl, rfl, by decide +kernel, rfl, by decide +kernel, by decide +kernel⟩
theorem ok_is_ranks {f : Addr} {fd : FuncData} (F : Fun K "is_ranks" "is_ranks" sis_ranks f fd) (B : Bt mg) (T : Tx2 mg) (c_is_integer : CalG P w K mg base 1 "is_integer" (spP K isInt)) : FnG P w K mg base 2 f fd ["thing"] (spP K (isIn 0 6)) := by
  refine Fun.okG F sc_is_ranks spP_len (fun cdv A outer s H vs Q E hg hr h => ?_)
  obtain ⟨v, mu, d, rfl, hd, ho, k⟩ := h
  refine ⟨_, (pss_one (ps_ret (pe_and (pc c_is_integer hg hr (by decide) (by rfl) (pa_cons (pv 0) pa_nil)) (pe_one (pe_chain op_le op_le pe_int (pv 0) (C8.pe_gc rfl T.MOST_RANKS)))))), ?_⟩
  refine ⟨_, rfl, v, mu, d, rfl, hd, ho, fun H1 s1 => ⟨_, rfl, iteB (fun h1 => ?_) fun h1 => ?_⟩⟩
  · have k1 := k H1 s1
    obtain ⟨n, rfl⟩ := (isIntD d).mp h1
    cases hd
    have e : isIn 0 6 (.int n) = decide (0 ≤ n ∧ n ≤ 6) := rfl
    rw [e] at k1
    refine ⟨_, rfl, _, _, rfl, rfl, _, rfl, iteP (fun h2 => ⟨_, _, rfl, rfl, ?_⟩) fun h2 => ?_⟩
    · rw [show decide (0 ≤ n ∧ n ≤ 6) = decide (n ≤ 6) by rw [Bool.eq_iff_iff]; simp [h2]] at k1
      exact k1
    · rw [decide_eq_false (fun z => h2 z.1)] at k1
      exact k1
  · have k1 := k H1 s1
    have e : isIn 0 6 d = false := by
      cases d <;> first | rfl | (simp [isInt, isT, tyName] at h1)
    rw [e] at k1
    exact k1
abbrev sclaims_below : Stmt := topS 9
theorem sc_claims_below : FnScope ["claim"] ["claim"] (defScope sclaims_below) := ⟨rfl, rfl, rfl, by decide +kernel, rfl, by decide +kernel, by decide +kernel⟩
theorem ok_claims_below {f : Addr} {fd : FuncData} (F : Fun K "claims_below" "claims_below" sclaims_below f fd) (B : Bt mg) : FnG P w K mg base 1 f fd ["claim"] (spBelow K) := by
  refine Fun.okG F sc_claims_below (fun vs H Q E h => ?_) (fun cdv A outer s H vs Q E hg hr h => ?_)
  · obtain ⟨_, _, _, rfl, _⟩ := h
    rfl
  have hu := Room.u64 hr
  obtain ⟨v, mu, d, rfl, hd, ho, k⟩ := h
  refine ⟨_, (pss_cons (ps_if (pt_cmpR (op_eqS (K := K) rfl hu) (pe_ix ix_tup (pv 0) pe_int (fun _ _ => rfl)) pe_str (nomark _))
      (pss_one (ps_ret (pe_tup (pa_cons (pe_ix ix_tup (pv 0) pe_int (fun _ _ => rfl)) pa_nil))))
      pss_nil)
    (pss_one (ps_ret (pe_ifExp (pt_cmpR (op_eqS (K := K) rfl hu) (pe_ix ix_tup (pv 0) pe_int (fun _ _ => rfl)) pe_str (nomark _)) (pe_ix ix_tup (pv 0) pe_int (fun _ _ => rfl)) (pe_tup pa_nil))))), ?_⟩
  obtain ⟨r, hl⟩ := ho
  -- its shape
  obtain ⟨ds, rfl⟩ : ∃ ds, d = .tuple ds := by
    cases d with
    | tuple ds => exact ⟨ds, rfl⟩
    | _ => cases hl
  obtain ⟨a, xs, rfl, hS, hA⟩ := hd.tupAt
  obtain ⟨w0, ps, rfl⟩ := loc_head hl
  rw [loc_str] at hl
  cases hA with
  | @cons x xs' _ _ hx hxs =>
  cases hx
  have h0 : atI (V.str w0 :: xs') 0 = some (.str w0) := atI_nat (j := 0) rfl
  refine ⟨_, rfl, a, _, 0, _, rfl, rfl, hS, h0, mu, .str w0, _, .str w0, rfl, _, rfl, iteP (fun hw => ?_) fun hw => ?_⟩
  · subst hw
    obtain ⟨y, z, d1, d2, rfl, rfl, r1, r2⟩ := hxs.two (capped_len hl)
    refine ⟨_, rfl, a, _, 1, y, rfl, rfl, hS, atI_nat (j := 1) rfl, by show 1 ≤ sizeLine; decide, fun t nt => ?_⟩
    have st := same_upd (o := .tup [y]) nt
    refine k t [y] _ st (.of upd_same) ?_
    rw [sub_capped]
    exact .cons (r1.fut (.of_same st)) .nil
  · refine ⟨_, rfl, a, _, 0, _, rfl, rfl, hS, h0, mu, .str w0, _, .str w0, rfl, _, rfl, iteP (fun hw2 => ?_) fun hw2 => ?_⟩
    · subst hw2
      obtain ⟨cs, rfl⟩ := sum_len hl
      obtain ⟨y, d1, rfl, e, r1⟩ := hxs.one rfl
      cases e
      obtain ⟨a2, ys, rfl, hS2, hA2⟩ := r1.tupAt
      refine ⟨_, rfl, a, _, 1, _, rfl, rfl, hS, atI_nat (j := 1) rfl, ?_⟩
      refine k a2 ys _ (.refl H) hS2 ?_
      rw [sub_sum]
      exact hA2
    · refine ⟨Nat.zero_le _, fun t nt => ?_⟩
      have st := same_upd (o := .tup []) nt
      refine k t [] _ st (.of upd_same) ?_
      rw [sub_other hw hw2]
      exact .nil
theorem cutV_from (xs : List V) (n : Nat) : cutV xs (some (n : Int)) none = xs.drop n := by
  unfold cutV
  rw [HT.sIx_none, HT.sIx_nat]
  by_cases h : n ≤ xs.length
  · rw [Nat.min_eq_left h]
    exact List.take_of_length_le (by rw [List.length_drop]; omega)
  · rw [List.drop_eq_nil_of_le (by omega), List.drop_eq_nil_of_le (by omega), List.take_nil]
theorem slA_use {K : PySem.W.Frag} {H : Hp} {r : Addr} {xs : List V} {lo hi : Option Int} {Q : VK} (h : SqT K H r xs) (k : ∀ p H', Same H H' → SqT K H' p (cutV xs lo hi) → Q (.ref p) H') : rSlA K (.ref r) lo hi H Q := by
  refine ⟨r, xs, rfl, h, fun z => ?_, fun _ p np => k p _ (same_upd np) (.of upd_same)⟩
  refine k r H (.refl H) ?_
  have : cutV xs lo hi = xs := by
    unfold cutV
    rw [z.1, z.2, List.drop_zero, Nat.sub_zero, List.take_length]
  rw [this]
  exact h
theorem iteS {A B : Prop} {z : Str} {d : PyData} (h1 : d = .str z → A) (h2 : d ≠ .str z → B) : if isS z d = true then A else B := by
  by_cases h : isS z d = true
  · rw [if_pos h]
    exact h1 (isS_eq h)
  · rw [if_neg h]
    exact h2 fun e => h (by rw [e]; exact decide_eq_true rfl)
abbrev sis_claim_but_within : Stmt := topS 11
theorem sc_is_claim_but_within : FnScope ["ranks", "thing", "word", "parts"] ["ranks", "thing"] (defScope sis_claim_but_within) := ⟨rfl, rfl, rfl, by decide +kernel, rfl, by decide +kernel, by decide +kernel⟩
theorem ok_is_claim_but_within {f : Addr} {fd : FuncData} (F : Fun K "is_claim_but_within" "is_claim_but_within" sis_claim_but_within f fd) (B : Bt mg) (c_is_integer : CalG P w K mg base 1 "is_integer" (spP K isInt)) (c_is_above_zero : CalG P w K mg base 3 "is_above_zero" (spP K isAb)) : FnG P w K mg base 4 f fd ["ranks", "thing"] (spLoc K) := by
  refine Fun.okG F sc_is_claim_but_within (fun vs H Q E h => ?_) (fun cdv A outer s H vs Q E hg hr h => ?_)
  · obtain ⟨_, _, _, _, rfl, _⟩ := h
    rfl
  obtain ⟨r, v, mu, d, rfl, hd, ho, k⟩ := h
  have hu := Room.u64 hr
  refine ⟨_, (pss_cons (ps_if (PW.pt (pw_or (pt_not (pt_val (pe_callB call_isD (by rfl) B.isin bb_isin (pa_cons (pv 1) (pa_cons (pe_bltn (v := .ty "tuple") rfl B.tuple bb_tuple rfl) pa_nil))))) (pw_or1 (pt_cmpR op_eq (pe_callB call_lenA (by rfl) B.len boot_len (pa_cons (pv 1) pa_nil)) pe_int (nomark _)))))
      (pss_one (ps_ret pe_bl))
      pss_nil)
    (pss_cons (ps_par (i := 2) (j := 3) rfl sc_is_claim_but_within.nd rfl rfl (by decide) rfl rfl (pa_cons (pe_ix ix_tup (pv 1) pe_int (fun _ _ => rfl)) (pa_cons (pe_slice sl_tupA (pv 1) (po_some pe_int) po_none) pa_nil)) (by rfl))
    (pss_cons (ps_if (pt_cmpR (op_eqS (K := K) rfl hu) (pv 2) pe_str (nomark _))
      (pss_one (ps_ret (pe_cmpR (op_eqNilT (K := K) rfl hu) (pv 3) (pe_tup pa_nil) (nomark _))))
      pss_nil)
    (pss_cons (ps_if (pt_cmpR (op_eqS (K := K) rfl hu) (pv 2) pe_str (nomark _))
      (pss_one (ps_ret (pe_and (pe_cmpR op_eq (pe_callB call_lenA (by rfl) B.len boot_len (pa_cons (pv 3) pa_nil)) pe_int (nomark _)) (pe_one (pc c_is_above_zero hg hr (by decide) (by rfl) (pa_cons (pe_ix ix_tup (pv 3) pe_int (fun _ _ => rfl)) pa_nil))))))
      pss_nil)
    (pss_cons (ps_if (pt_cmpR (op_eqS (K := K) rfl hu) (pv 2) pe_str (nomark _))
      (pss_one (ps_ret (pe_and (pe_cmpR op_eq (pe_callB call_lenA (by rfl) B.len boot_len (pa_cons (pv 3) pa_nil)) pe_int (nomark _)) (pe_and (pe_callB call_isD (by rfl) B.isin bb_isin (pa_cons (pe_ix ix_tup (pv 3) pe_int (fun _ _ => rfl)) (pa_cons (pe_bltn (v := .ty "tuple") rfl B.tuple bb_tuple rfl) pa_nil))) (pe_one (pe_cmpR op_ge (pe_callB call_lenA (by rfl) B.len boot_len (pa_cons (pe_ix ix_tup (pv 3) pe_int (fun _ _ => rfl)) pa_nil)) pe_int (nomark _)))))))
      pss_nil)
    (pss_cons (ps_if (PW.pt (pw_or (pt_cmpR (op_notInT (K := K) rfl hu) (pv 2) (pe_tup (pa_cons pe_str (pa_cons pe_str (pa_cons pe_str pa_nil)))) (by rfl)) (pw_or (pt_cmpR op_ne (pe_callB call_lenA (by rfl) B.len boot_len (pa_cons (pv 3) pa_nil)) pe_int (nomark _)) (pw_or1 (pt_not (pt_val (pc c_is_above_zero hg hr (by decide) (by rfl) (pa_cons (pe_ix ix_tup (pv 3) pe_int (fun _ _ => rfl)) pa_nil))))))))
      (pss_one (ps_ret pe_bl))
      pss_nil)
    (pss_cons (ps_if (pt_cmpR (op_eqS (K := K) rfl hu) (pv 2) pe_str (nomark _))
      (pss_one (ps_ret (pe_and (pc c_is_integer hg hr (by decide) (by rfl) (pa_cons (pe_ix ix_tup (pv 3) pe_int (fun _ _ => rfl)) pa_nil)) (pe_one (pe_chain op_le op_lt pe_int (pe_ix ix_tup (pv 3) pe_int (fun _ _ => rfl)) (pv 0))))))
      pss_nil)
    (pss_one (ps_ret (pe_or (pe_cmpR (op_eqS (K := K) rfl hu) (pv 2) pe_str (nomark _)) (pe_one (pc c_is_above_zero hg hr (by decide) (by rfl) (pa_cons (pe_ix ix_tup (pv 3) pe_int (fun _ _ => rfl)) pa_nil))))))))))))), ?_⟩
  refine ⟨_, rfl, _, "tuple", mu, d, rfl, by decide, hd, _, rfl, ?_⟩
  have k0 := k H (Same.refl H)
  refine iteN (fun ht => ?_) fun ht => ?_
  · have e : loc r d = false := by
      cases d <;> first | rfl | (simp [isT, tyName] at ht)
    rw [e] at k0
    exact iteT k0
  obtain ⟨ds, rfl⟩ := (isTup d).mp ht
  obtain ⟨a, xs, rfl, hS, hA⟩ := hd.tupAt
  refine ⟨_, rfl, _, xs.length, rfl, .inr ⟨_, hS, rfl⟩, rfl, _, rfl, iteEq (fun hn => ?_) fun hn => ?_⟩
  · have hl := hA.length
    have e : ds = [] := List.eq_nil_of_length_eq_zero (by omega)
    subst e
    exact k0
  cases hA with
  | nil => exact absurd rfl hn
  | @cons x xs' dw ps hx hxs =>
  have ow : Ok dw := ho.inT (by simp)
  refine ⟨_, rfl, a, _, 0, x, rfl, rfl, hS, atI_nat (j := 0) rfl, _, rfl, 1, rfl, ?_⟩
  dsimp only [tNoPart]
  refine slA_use hS fun p H1 s1 h1 => ⟨_, _, rfl, ?_⟩
  rw [show (1 : Int) = ((1 : Nat) : Int) from rfl, cutV_from] at h1
  have h1 : SqT K H1 p xs' := h1
  have hx1 := hx.fut (.of_same (mu := mu) s1)
  have hxs1 := hxs.fut (.of_same (mu := mu) s1)
  have hl := hxs.length
  have k1 := fun H2 s2 => k H2 (s1.trans s2)
  clear k k0
  refine ⟨_, rfl, mu, dw, _, hx1, rfl, _, rfl, iteS (fun e => ?_) fun e1 => ?_⟩
  · subst e
    refine ⟨_, rfl, Nat.zero_le _, fun q nq => ?_⟩
    have k2 := k1 _ (same_upd (o := .tup []) nq)
    rw [loc_str, locW_none] at k2
    refine ⟨p, q, xs', rfl, rfl, (same_upd nq).seqT h1, .of upd_same, ?_⟩
    rw [show decide (xs' = []) = decide (ps = []) by
      rw [Bool.eq_iff_iff, decide_eq_true_eq, decide_eq_true_eq, ← List.length_eq_zero_iff, ← List.length_eq_zero_iff, hl]]
    exact k2
  refine ⟨_, rfl, mu, dw, _, hx1, rfl, _, rfl, iteS (fun e => ?_) fun e2 => ?_⟩
  · subst e
    refine ⟨_, rfl, _, xs'.length, rfl, .inr ⟨_, h1, rfl⟩, rfl, _, rfl, iteEq (fun hn1 => ?_) fun hn1 => ?_⟩
    · obtain ⟨y, d1, rfl, rfl, r1⟩ := hxs1.one (by omega)
      refine ⟨_, rfl, p, _, 0, y, rfl, rfl, h1, atI_nat (j := 0) rfl, y, mu, d1, rfl, r1, ho.inT (by simp), fun H2 s2 => ?_⟩
      have k2 := k1 _ s2
      rw [loc_str, locW_shares] at k2
      exact k2
    · have k2 := k1 _ (.refl H1)
      rw [loc_str, locW_one (.inl rfl) (by omega)] at k2
      exact k2
  refine ⟨_, rfl, mu, dw, _, hx1, rfl, _, rfl, iteS (fun e => ?_) fun e3 => ?_⟩
  · subst e
    have k2 := k1 _ (.refl H1)
    rw [loc_str] at k2
    refine ⟨_, rfl, _, xs'.length, rfl, .inr ⟨_, h1, rfl⟩, rfl, _, rfl, iteEq (fun hn1 => ?_) fun hn1 => ?_⟩
    · obtain ⟨y, d1, rfl, rfl, r1⟩ := hxs1.one (by omega)
      rw [locW_sum] at k2
      refine ⟨_, rfl, p, _, 0, y, rfl, rfl, h1, atI_nat (j := 0) rfl, _, "tuple", mu, d1, rfl, by decide, r1, _, rfl, iteB (fun ht1 => ?_) fun ht1 => ?_⟩
      · obtain ⟨cs, rfl⟩ := (isTup d1).mp ht1
        obtain ⟨a2, ys, rfl, hS2, hA2⟩ := r1.tupAt
        refine ⟨_, rfl, p, _, 0, _, rfl, rfl, h1, atI_nat (j := 0) rfl, _, ys.length, rfl, .inr ⟨_, hS2, rfl⟩, _, _, rfl, rfl, ?_⟩
        have e : decide ((2 : Int) ≤ (ys.length : Int)) = decide (2 ≤ cs.length) := by
          rw [Bool.eq_iff_iff, decide_eq_true_eq, decide_eq_true_eq, hA2.length]
          omega
        have k2 : Q (.bl (decide (2 ≤ cs.length))) H1 := k2
        rw [← e] at k2
        exact k2
      · have e : tup2 d1 = false := by
          cases d1 <;> first | rfl | (simp [isT, tyName] at ht1)
        rw [e] at k2
        exact k2
    · rw [locW_one (.inr rfl) (by omega)] at k2
      exact k2
  -- word not in ..
  refine ⟨_, rfl, by show 3 ≤ sizeLine; decide, fun q nq => ?_⟩
  have s2 := same_upd (o := .tup [.str "due", .str "option", .str "capped"]) nq
  have h2 := s2.seqT h1
  have hx2 := hx1.fut (.of_same (mu := mu) s2)
  have hxs2 := hxs1.fut (.of_same (mu := mu) s2)
  have k2 := fun H3 s3 => k1 H3 (s2.trans s3)
  have hq2 : SqT K (upd H1 q (.tup [.str "due", .str "option", .str "capped"])) q ((["due", "option", "capped"] : List Str).map V.str) := .of upd_same
  revert h2 hx2 hxs2 k2 hq2
  generalize upd H1 q (.tup [.str "due", .str "option", .str "capped"]) = H2
  intro h2 hx2 hxs2 k2 hq2
  refine ⟨mu, dw, ["due", "option", "capped"], q, hx2, rfl, hq2, _, rfl, iteN (fun hin => ?_) fun hin => ?_⟩
  · have k3 := k2 _ (.refl H2)
    have e : loc r (.tuple (dw :: ps)) = false := by
      cases dw with
      | str w0 =>
        rw [loc_str]
        refine locW_other (fun z => e1 (by rw [z])) (fun z => e2 (by rw [z])) (fun z => e3 (by rw [z])) ?_ ps
        exact of_decide_eq_false hin
      | _ => exact loc_not (by intro w z; cases z) ps
    rw [e] at k3
    exact k3
  obtain ⟨w0, rfl, hw0⟩ : ∃ w0, dw = .str w0 ∧ w0 ∈ (["due", "option", "capped"] : List Str) := by
    cases dw with
    | str w0 => exact ⟨w0, rfl, of_decide_eq_true hin⟩
    | _ => cases hin
  have n1 : w0 ≠ "none" := fun z => e1 (by rw [z])
  have n2 : w0 ≠ "shares" := fun z => e2 (by rw [z])
  have n3 : w0 ≠ "sum" := fun z => e3 (by rw [z])
  refine ⟨_, rfl, _, xs'.length, rfl, .inr ⟨_, h2, rfl⟩, rfl, _, rfl, iteNe (fun hn2 => ?_) fun hn2 => ?_⟩
  · have k3 := k2 _ (.refl H2)
    rw [loc_str, locW_two n1 n2 n3 (by omega)] at k3
    exact k3
  obtain ⟨y, z, d1, d2, rfl, rfl, r1, r2⟩ := hxs2.two (by omega)
  refine ⟨_, rfl, p, _, 1, z, rfl, rfl, h2, atI_nat (j := 1) rfl, z, mu, d2, rfl, r2, ho.inT (by simp), fun H3 s3 => ⟨_, rfl, iteN (fun hab => ?_) fun hab => ?_⟩⟩
  · have k3 := k2 _ s3
    have e : locW r w0 [d1, d2] = false := by
      show (isAb d2 && _) = false
      rw [hab, Bool.false_and]
    rw [loc_str, e] at k3
    exact k3
  have h3 := s3.seqT h2
  have r13 := r1.fut (.of_same (mu := mu) s3)
  have hx3 := hx2.fut (.of_same (mu := mu) s3)
  have k3 := fun H4 s4 => k2 H4 (s3.trans s4)
  refine ⟨_, rfl, mu, .str w0, _, hx3, rfl, _, rfl, iteS (fun e => ?_) fun e4 => ?_⟩
  · cases e
    have e : loc r (.tuple (.str "due" :: [d1, d2])) = isIn 0 (r - 1) d1 := by
      rw [loc_str, locW_due, hab, Bool.true_and]
    rw [e] at k3
    refine ⟨_, rfl, p, _, 0, y, rfl, rfl, h3, atI_nat (j := 0) rfl, y, mu, d1, rfl, r13, ho.inT (by simp), fun H4 s4 => ⟨_, rfl, iteB (fun hi => ?_) fun hi => ?_⟩⟩
    · obtain ⟨n, rfl⟩ := (isIntD d1).mp hi
      cases r13
      have k4 := k3 _ s4
      have h4 := s4.seqT h3
      have e : isIn 0 (r - 1) (.int n) = decide (0 ≤ n ∧ n ≤ r - 1) := rfl
      rw [e] at k4
      refine ⟨_, rfl, p, _, 0, .int n, rfl, rfl, h4, atI_nat (j := 0) rfl, _, _, rfl, rfl, _, rfl, iteP (fun h5 => ⟨_, rfl, _, _, rfl, rfl, ?_⟩) fun h5 => ?_⟩
      · rw [show decide (0 ≤ n ∧ n ≤ r - 1) = decide (n < r) by
          rw [Bool.eq_iff_iff, decide_eq_true_eq, decide_eq_true_eq]
          omega] at k4
        exact k4
      · rw [decide_eq_false (fun z => h5 z.1)] at k4
        exact k4
    · have k4 := k3 _ s4
      have e : isIn 0 (r - 1) d1 = false := by
        cases d1 <;> first | rfl | (simp [isInt, isT, tyName] at hi)
      rw [e] at k4
      exact k4
  · refine ⟨_, rfl, mu, .str w0, _, hx3, rfl, _, rfl, iteS (fun e => ?_) fun e5 => ?_⟩
    · cases e
      have k4 := k3 _ (.refl H3)
      rw [loc_str, locW_capped, hab] at k4
      exact k4
    · have e6 : w0 = "option" := by
        simp only [List.mem_cons, List.not_mem_nil, or_false] at hw0
        rcases hw0 with z | z | z
        · exact absurd (by rw [z]) e4
        · exact z
        · exact absurd (by rw [z]) e5
      subst e6
      refine ⟨_, rfl, p, _, 0, y, rfl, rfl, h3, atI_nat (j := 0) rfl, y, mu, d1, rfl, r13, ho.inT (by simp), fun H4 s4 => ?_⟩
      have k4 := k3 _ s4
      rw [loc_str, locW_option, hab, Bool.true_and] at k4
      exact k4
theorem wt_app : ∀ ds es : List PyData, PyData.weightAll (ds ++ es) = PyData.weightAll ds + PyData.weightAll es
  | [], es => by
    show PyData.weightAll es = 0 + PyData.weightAll es
    omega
  | d :: ds, es => by
    have := wt_app ds es
    simp only [List.cons_append, PyData.weightAll] at this ⊢
    omega
theorem len_wt : ∀ ds : List PyData, ds.length ≤ PyData.weightAll ds
  | [] => Nat.le_refl _
  | d :: ds => by
    have := len_wt ds
    simp only [PyData.weightAll, List.length_cons] at this ⊢
    omega
theorem sub_wt (d : PyData) : PyData.weightAll (sub d) ≤ d.weight := by
  unfold sub
  split
  · split
    · split
      · simp only [PyData.weight, PyData.weightAll]
        omega
      · exact Nat.zero_le _
    · exact Nat.zero_le _
  · split
    · simp only [PyData.weight, PyData.weightAll]
      omega
    · exact Nat.zero_le _
  · exact Nat.zero_le _
theorem sub_ok {d : PyData} (h : Ok d) : ∀ e ∈ sub d, Ok e := by
  unfold sub
  split
  · split
    · split
      · rename_i cs
        intro e he
        exact Ok.inT (Ok.inT h (by simp)) he
      · exact fun e z => nomatch z
    · exact fun e z => nomatch z
  · split
    · intro e he
      rw [List.mem_singleton.mp he]
      exact Ok.inT h (by simp)
    · exact fun e z => nomatch z
  · exact fun e z => nomatch z
theorem clmA_app (r : Int) : ∀ ds es : List PyData, clmA r (ds ++ es) = (clmA r ds && clmA r es)
  | [], es => by simp [clmA]
  | d :: ds, es => by simp [clmA, clmA_app r ds es, Bool.and_assoc]
def spClm (K : PySem.W.Frag) : Sp := fun vs H Q _ => ∃ (r : Int) (v : V) (mu : Addr → Prop) (d : PyData), vs = [.int r, v] ∧ Dt K mu H v d ∧ Ok d ∧ ∀ H', Same H H' → Q (.bl (clm r d)) H'
abbrev sis_claim : Stmt := topS 10
theorem sc_is_claim : FnScope ["ranks", "thing", "ahead", "claim"] ["ranks", "thing"] (defScope sis_claim) := ⟨rfl, rfl, rfl, by decide +kernel, rfl, by decide +kernel, by decide +kernel⟩
theorem ok_is_claim {f : Addr} {fd : FuncData} (F : Fun K "is_claim" "is_claim" sis_claim f fd) (B : Bt mg) (c_is_claim_but_within : CalG P w K mg base 4 "is_claim_but_within" (spLoc K)) (c_claims_below : CalG P w K mg base 1 "claims_below" (spBelow K)) : FnG P w K mg base 5 f fd ["ranks", "thing"] (spClm K) := by
  refine Fun.okG F sc_is_claim (fun vs H Q E h => ?_) (fun cdv A outer s H vs Q E hg hr h => ?_)
  · obtain ⟨_, _, _, _, rfl, _⟩ := h
    rfl
  obtain ⟨r, v, mu, d, rfl, hd, ho, k⟩ := h
  refine ⟨_, (pss_cons (ps_set (i := 2) sc_is_claim.nd rfl (Or.inl rfl) (pe_lst (pa_cons (pv 1) pa_nil)))
    (pss_cons (ps_while PassesOwn.never (pt_truth (pv 2) (by intro _; rfl))
      (pss_cons (ps_set (i := 3) sc_is_claim.nd rfl (Or.inl rfl) (pe_bm0 PySem.F.plainAttrs_list PySem.F.slot_list_pop PySem.F.type_list_pop mt_pop (pv 2)))
      (pss_cons (ps_if (pt_not (pt_val (pc c_is_claim_but_within hg hr (by decide) (by rfl) (pa_cons (pv 0) (pa_cons (pv 3) pa_nil)))))
        (pss_one (ps_ret pe_bl))
        pss_nil)
      (pss_one (ps_expr (pe_bm PySem.F.plainAttrs_list PySem.F.slot_list_extend PySem.F.type_list_extend mt_extT (pv 2) (pa_cons (pc c_claims_below hg hr (by decide) (by rfl) (pa_cons (pv 3) pa_nil)) pa_nil)))))))
    (pss_one (ps_ret pe_bl)))), ?_⟩
  have hN : d.weight ≤ 27000 := ho.wt
  refine ⟨_, rfl, by show 1 ≤ sizeLine; decide, fun l nl => ?_⟩
  have s0 := same_upd (o := .lst [v]) nl
  have hd0 := (Dt.more nl hd).fut (.of_same s0)
  have pl : Fut (fun a => mu a ∨ a = l) = Fut (fun a => mu a ∨ a = l) := rfl
  refine ⟨fun m σ H' => ∃ o3 ws ds, σ = [some (.int r), some v, some (.ref l), o3] ∧ Same H H' ∧ H' l = some (.lst ws) ∧ DtA K (fun a => mu a ∨ a = l) H' ws ds ∧ (∀ e ∈ ds, Ok e) ∧ clm r d = clmA r ds ∧ PyData.weightAll ds ≤ 27001 ∧ m = PyData.weightAll ds,
    ⟨_, _, [v], [d], rfl, s0, upd_same, .cons hd0 .nil, (fun e he => by rw [List.mem_singleton.mp he]; exact ho), by simp [clmA], by simp only [PyData.weightAll]; omega, rfl⟩, ?_⟩
  rintro m σ H1 ⟨o3, ws, ds, rfl, sm, hl, hA, hok, hc, hw, rfl⟩
  refine ⟨_, rfl, !ws.isEmpty, .inl ⟨ws, .inl (.inl hl), rfl⟩, iteN (fun he => ?_) fun he => ?_⟩
  · have hne : ws ≠ [] := fun z => by
      rw [z] at he
      cases he
    have hlen := hA.length
    have hpos : 0 < ws.length := List.length_pos_iff.mpr hne
    obtain ⟨y, hy⟩ : ∃ y, ws[ws.length - 1]? = some y := ⟨_, List.getElem?_eq_getElem (by omega)⟩
    obtain ⟨e, he1, hye⟩ := hA.get hy
    have hA' := hA.take (ws.length - 1)
    rw [← List.dropLast_eq_take] at hA'
    have eds : ds = ds.take (ws.length - 1) ++ [e] := by
      have z : ds.take (ws.length - 1 + 1) = ds.take (ws.length - 1) ++ [e] := by
        rw [List.take_add_one, he1]
        rfl
      rw [← z]
      exact (List.take_of_length_le (by omega)).symm
    have oe : Ok e := hok e (List.mem_of_getElem? he1)
    have ok' : ∀ x ∈ ds.take (ws.length - 1), Ok x := fun x hx => hok x (List.mem_of_mem_take hx)
    generalize ds.take (ws.length - 1) = es at eds hA' ok'
    subst eds
    rw [clmA_app] at hc
    rw [wt_app] at hw ⊢
    refine ⟨fun σ' H' => ∃ o3 ws ds, σ' = [some (.int r), some v, some (.ref l), o3] ∧ Same H H' ∧ H' l = some (.lst ws) ∧ DtA K (fun a => mu a ∨ a = l) H' ws ds ∧ (∀ e ∈ ds, Ok e) ∧ clm r d = clmA r ds ∧ PyData.weightAll ds ≤ 27001 ∧ PyData.weightAll ds < PyData.weightAll es + PyData.weightAll [e],
      fun σ' H' ⟨o3, ws, ds, a1, a2, a3, a4, a5, a6, a7, a8⟩ => ⟨_, a8, o3, ws, ds, a1, a2, a3, a4, a5, a6, a7, rfl⟩, ?_⟩
    refine ⟨_, rfl, .inl ⟨rfl, _, .inl (.inl hl)⟩, l, ws, y, rfl, rfl, hl, hy, ?_⟩
    have fl : Fut (fun a => mu a ∨ a = l) H1 (upd H1 l (.lst ws.dropLast)) := (fut_at hl).mono fun a z => .inr z
    have sm2 : Same H (upd H1 l (.lst ws.dropLast)) := fun a o z => by
      rw [upd_ne (ne_of_none z nl)]
      exact sm a o z
    have hy2 := hye.fut fl
    have hA2 := hA'.fut fl
    have hl2 : (upd H1 l (.lst ws.dropLast)) l = some (.lst ws.dropLast) := upd_same
    revert sm2 hy2 hA2 hl2
    generalize upd H1 l (.lst ws.dropLast) = H2
    intro sm2 hy2 hA2 hl2
    have hc : clm r d = (clmA r es && clmA r [e]) := hc
    have ce : clmA r [e] = clm r e := by simp [clmA]
    rw [ce, clm_loc r e] at hc
    refine ⟨_, rfl, _, rfl, r, y, _, e, rfl, hy2, oe, fun H3 s3 => ⟨_, rfl, iteN (fun hloc => ?_) fun hloc => ?_⟩⟩
    · have kk := k H3 (sm2.trans s3)
      rw [hc, hloc, Bool.false_and, Bool.and_false] at kk
      exact kk
    · rw [hloc, Bool.true_and] at hc
      refine ⟨_, rfl, .inl ⟨rfl, _, .inl (.inl (s3 _ _ hl2))⟩, _, rfl, y, _, e, rfl, hy2.fut (.of_same s3), ⟨r, hloc⟩, fun p xs H4 s4 hp hxs => ?_⟩
      have s34 := s3.trans s4
      have hl4 := s34 _ _ hl2
      have w1 : PyData.weightAll [e] = e.weight + 1 := by simp [PyData.weightAll]
      have w2 := sub_wt e
      have l1 := hA2.length
      have l2 := hxs.length
      have l3 := len_wt es
      have l4 := len_wt (sub e)
      have sl := sizeLine_eq
      refine ⟨l, p, _, xs, rfl, rfl, hl4, hp, by omega, ?_⟩
      have fl4 : Fut (fun a => mu a ∨ a = l) H4 (upd H4 l (.lst (ws.dropLast ++ xs))) := (fut_at hl4).mono fun a z => .inr z
      refine ⟨_, _, es ++ sub e, rfl, fun a o z => ?_, upd_same, ((hA2.fut (.of_same s34)).append hxs).fut fl4, fun x hx => ?_, by rw [clmA_app]; exact hc, by rw [wt_app]; omega, by rw [wt_app]; omega⟩
      · rw [upd_ne (ne_of_none z nl)]
        exact s34 _ _ (sm2 a o z)
      · rcases List.mem_append.mp hx with hx | hx
        · exact ok' x hx
        · exact sub_ok oe x hx
  · have hnil : ws = [] := by
      cases ws with
      | nil => rfl
      | cons _ _ => cases he
    subst hnil
    cases hA
    have kk := k H1 sm
    rw [hc] at kk
    exact kk
end
end K02
namespace K02
open PySem PySem.Spec PyProof.Rows L2 Sw StX RZ
def optsD (r : Int) : PyData → Bool
  | .tuple os => !os.isEmpty && clmA r os
  | _ => false
/-- a HOLDING of ranks -/
def holdD (r : Int) : PyData → Bool
  | .tuple [h, o] => isNm h && optsD r o
  | _ => false
def headIs (n : Str) : PyData → Bool
  | .tuple (.str h :: _) => decide (h = n)
  | _ => false
def hldsD : PyData → PyData → PyData → Bool
  | .str n, .int r, .tuple hs => hs.all fun h => holdD r h && !headIs n h
  | _, _, _ => false
/-- a FIRM -/
def firmD : PyData → Bool
  | .tuple [n, r, hs] => isNm n && (isIn 0 6 r && hldsD n r hs)
  | _ => false
theorem clmA_all (r : Int) : ∀ cs : List PyData, clmA r cs = cs.all (clm r)
  | [] => rfl
  | c :: cs => by simp [clmA, clmA_all r cs]
section
variable {P : Program} {w : World} {K : PySem.W.Frag} {mg : Str → Option Value} {base : Heap}
def spHold (K : PySem.W.Frag) : Sp := fun vs H Q _ => ∃ (r : Int) (v : V) (mu : Addr → Prop) (d : PyData), vs = [.int r, v] ∧ Dt K mu H v d ∧ Ok d ∧ ∀ H', Same H H' → Q (.bl (holdD r d)) H'
abbrev sis_holding : Stmt := topS 12
theorem sc_is_holding : FnScope ["ranks", "thing", "holder", "options", "option"] ["ranks", "thing"] (defScope sis_holding) := ⟨rfl, rfl, rfl, by decide +kernel, rfl, by decide +kernel, by decide +kernel⟩
theorem ok_is_holding {f : Addr} {fd : FuncData} (F : Fun K "is_holding" "is_holding" sis_holding f fd) (B : Bt mg) (TA : mg "all" = none) (c_is_name : CalG P w K mg base 1 "is_name" (spP K isNm)) (c_is_claim : CalG P w K mg base 5 "is_claim" (spClm K)) : FnG P w K mg base 6 f fd ["ranks", "thing"] (spHold K) := by
  refine Fun.okG F sc_is_holding (fun vs H Q E h => ?_) (fun cdv A outer s H vs Q E hg hr h => ?_)
  · obtain ⟨_, _, _, _, rfl, _⟩ := h
    rfl
  obtain ⟨r, v, mu, d, rfl, hd, ho, k⟩ := h
  refine ⟨_, (pss_cons (ps_if (PW.pt (pw_or (pt_not (pt_val (pe_callB call_isD (by rfl) B.isin bb_isin (pa_cons (pv 1) (pa_cons (pe_bltn (v := .ty "tuple") rfl B.tuple bb_tuple rfl) pa_nil))))) (pw_or1 (pt_cmpR op_ne (pe_callB call_lenA (by rfl) B.len boot_len (pa_cons (pv 1) pa_nil)) pe_int (nomark _)))))
      (pss_one (ps_ret pe_bl))
      pss_nil)
    (pss_cons (ps_asg (pv 1) (pg_tup (n := 2) rfl (pgs_cons (pg_name (i := 2) sc_is_holding.nd rfl (Or.inl rfl)) (pgs_cons (pg_name (i := 3) sc_is_holding.nd rfl (Or.inl rfl)) pgs_nil))))
    (pss_cons (ps_if (PW.pt (pw_or (pt_not (pt_val (pc c_is_name hg hr (by decide) (by rfl) (pa_cons (pv 2) pa_nil)))) (pw_or (pt_not (pt_val (pe_callB call_isD (by rfl) B.isin bb_isin (pa_cons (pv 3) (pa_cons (pe_bltn (v := .ty "tuple") rfl B.tuple bb_tuple rfl) pa_nil))))) (pw_or1 (pt_cmpR op_eq (pe_callB call_lenA (by rfl) B.len boot_len (pa_cons (pv 3) pa_nil)) pe_int (nomark _))))))
      (pss_one (ps_ret pe_bl))
      pss_nil)
    (pss_one (ps_ret (pe_callB (cr_all rfl) (by rfl) TA bb_all (pa_cons (pe_lc (own := [("option", 4)]) rfl sc_is_holding.nd (pi_tup (pv 3)) (blkOk_by (own := [("option", 4)]) (N := ["ranks", "thing", "holder", "options", "option"]) (sc := (defScope sis_holding)) (by decide +kernel)) (fun _ _ _ _ _ => (pg_name (i := 4) sc_is_holding.nd rfl (Or.inl rfl))) (fun _ _ _ _ _ => pts_nil) (fun _ _ _ _ _ => (pc c_is_claim hg hr (by decide) (by rfl) (pa_cons (pv 0) (pa_cons (pv 4) pa_nil))))) pa_nil))))))), ?_⟩
  refine ⟨_, rfl, _, "tuple", mu, d, rfl, by decide, hd, _, rfl, ?_⟩
  have k0 := k H (Same.refl H)
  refine iteN (fun ht => ?_) fun ht => ?_
  · have e : holdD r d = false := by
      cases d <;> first | rfl | (simp [isT, tyName] at ht)
    rw [e] at k0
    exact iteT k0
  obtain ⟨ds, rfl⟩ := (isTup d).mp ht
  obtain ⟨a, xs, rfl, hS, hA⟩ := hd.tupAt
  have hl := hA.length
  refine ⟨_, rfl, _, xs.length, rfl, .inr ⟨_, hS, rfl⟩, rfl, _, rfl, iteNe (fun hn => ?_) fun hn => ?_⟩
  · have e : holdD r (.tuple ds) = false := by
      match ds, hl with
      | [], _ => rfl
      | [_], _ => rfl
      | [_, _], hl => exact absurd (by rw [hl]; rfl) hn
      | _ :: _ :: _ :: _, _ => rfl
    rw [e] at k0
    exact k0
  obtain ⟨x, y, d1, d2, rfl, rfl, r1, r2⟩ := hA.two (by omega)
  refine ⟨_, rfl, a, _, rfl, hS, rfl, _, _, rfl, _, _, rfl, rfl, ?_⟩
  have e1 : isNm d1 = false → holdD r (.tuple [d1, d2]) = false := fun h => by
    show (isNm d1 && _) = _
    rw [h, Bool.false_and]
  refine ⟨_, rfl, x, mu, d1, rfl, r1, ho.inT (by simp), fun H1 s1 => ⟨_, rfl, iteN (fun h1 => ?_) fun h1 => ?_⟩⟩
  · have k1 := k H1 s1
    rw [e1 h1] at k1
    exact iteT k1
  refine ⟨_, rfl, y, "tuple", mu, d2, rfl, by decide, r2.fut (.of_same s1), _, rfl, iteN (fun h2 => ?_) fun h2 => ?_⟩
  · have k1 := k H1 s1
    have e : holdD r (.tuple [d1, d2]) = false := by
      show (isNm d1 && optsD r d2) = false
      have : optsD r d2 = false := by
        cases d2 <;> first | rfl | (simp [isT, tyName] at h2)
      rw [this, Bool.and_false]
    rw [e] at k1
    exact iteT k1
  obtain ⟨os, rfl⟩ := (isTup d2).mp h2
  obtain ⟨a2, zs, rfl, hS2, hA2⟩ := (r2.fut (.of_same s1)).tupAt
  have hl2 := hA2.length
  have eH : holdD r (.tuple [d1, .tuple os]) = (!os.isEmpty && clmA r os) := by
    show (isNm d1 && _) = _
    rw [h1, Bool.true_and]
    rfl
  have h0 := ho.inT (d := .tuple os) (by simp)
  have hw := len_wt os
  have hw2 : PyData.weightAll os ≤ 27000 := h0.wt
  refine ⟨_, rfl, _, zs.length, rfl, .inr ⟨_, hS2, rfl⟩, rfl, _, rfl, iteEq (fun hz => ?_) fun hz => ?_⟩
  · have : os = [] := List.eq_nil_of_length_eq_zero (by omega)
    subst this
    have k1 := k H1 s1
    rw [eH] at k1
    exact k1
  · have he : (!os.isEmpty) = true := by
      cases os with
      | nil => exact absurd (by rw [hl2]; rfl) hz
      | cons _ _ => rfl
    refine ⟨_, rfl, a2, rfl, ⟨zs, hS2⟩, fun D nD => lc_it (walk_tup (K := K) (xs := zs) (a := a2)) (fun i H' => Same H1 H' ∧ H' D = some (.lst (((os.take i).map (clm r)).map V.bl))) ?_ (fun i H' _ h => h.1.seqT hS2) ?_ ?_⟩
    · exact ⟨same_upd nD, by rw [upd_same]; rfl⟩
    · rintro i x H2 H3 hi ⟨sm, hD⟩ ⟨rfl, hx⟩
      obtain ⟨e, he, hxe⟩ := hA2.get hx
      refine ⟨rfl, _, rfl, _, rfl, r, x, mu, e, rfl, hxe.fut (.of_same sm), h0.inT (List.mem_of_getElem? he), fun H4 s4 => ?_⟩
      refine ⟨_, s4 _ _ hD, ?_, fun b o z => ?_, ?_⟩
      · rw [List.length_map, List.length_map, List.length_take, sizeLine_eq]
        omega
      · rw [upd_ne (ne_of_none z nD)]
        exact s4 _ _ (sm b o z)
      · rw [upd_same, List.take_add_one, he, List.map_append, List.map_append]
        rfl
    · rintro H2 ⟨sm, hD⟩
      rw [List.take_of_length_le (by omega)] at hD
      refine ⟨D, (os.map (clm r)), rfl, .inl (.inl hD), ?_⟩
      have k1 := k H2 (s1.trans sm)
      rw [eH, he, Bool.true_and, clmA_all] at k1
      rw [List.all_map]
      exact k1
abbrev sis_firm : Stmt := topS 13
theorem sc_is_firm : FnScope ["thing", "name", "ranks", "holdings", "holding"] ["thing"] (defScope sis_firm) := ⟨rfl, rfl, rfl, by decide +kernel, rfl, by decide +kernel, by decide +kernel⟩
theorem ok_is_firm {f : Addr} {fd : FuncData} (F : Fun K "is_firm" "is_firm" sis_firm f fd) (B : Bt mg) (TA : mg "all" = none) (c_is_name : CalG P w K mg base 1 "is_name" (spP K isNm)) (c_is_ranks : CalG P w K mg base 2 "is_ranks" (spP K (isIn 0 6))) (c_is_holding : CalG P w K mg base 6 "is_holding" (spHold K)) : FnG P w K mg base 7 f fd ["thing"] (spP K firmD) := by
  refine Fun.okG F sc_is_firm spP_len (fun cdv A outer s H vs Q E hg hr h => ?_)
  obtain ⟨v, mu, d, rfl, hd, ho, k⟩ := h
  refine ⟨_, (pss_cons (ps_if (PW.pt (pw_or (pt_not (pt_val (pe_callB call_isD (by rfl) B.isin bb_isin (pa_cons (pv 0) (pa_cons (pe_bltn (v := .ty "tuple") rfl B.tuple bb_tuple rfl) pa_nil))))) (pw_or1 (pt_cmpR op_ne (pe_callB call_lenA (by rfl) B.len boot_len (pa_cons (pv 0) pa_nil)) pe_int (nomark _)))))
      (pss_one (ps_ret pe_bl))
      pss_nil)
    (pss_cons (ps_asg (pv 0) (pg_tup (n := 3) rfl (pgs_cons (pg_name (i := 1) sc_is_firm.nd rfl (Or.inr rfl)) (pgs_cons (pg_name (i := 2) sc_is_firm.nd rfl (Or.inr rfl)) (pgs_cons (pg_name (i := 3) sc_is_firm.nd rfl (Or.inl rfl)) pgs_nil)))))
    (pss_cons (ps_if (PW.pt (pw_or (pt_not (pt_val (pc c_is_name hg hr (by decide) (by rfl) (pa_cons (pv 1) pa_nil)))) (pw_or (pt_not (pt_val (pc c_is_ranks hg hr (by decide) (by rfl) (pa_cons (pv 2) pa_nil)))) (pw_or1 (pt_not (pt_val (pe_callB call_isD (by rfl) B.isin bb_isin (pa_cons (pv 3) (pa_cons (pe_bltn (v := .ty "tuple") rfl B.tuple bb_tuple rfl) pa_nil)))))))))
      (pss_one (ps_ret pe_bl))
      pss_nil)
    (pss_one (ps_ret (pe_callB (cr_all rfl) (by rfl) TA bb_all (pa_cons (pe_lc (own := [("holding", 4)]) rfl sc_is_firm.nd (pi_tup (pv 3)) (blkOk_by (own := [("holding", 4)]) (N := ["thing", "name", "ranks", "holdings", "holding"]) (sc := (defScope sis_firm)) (by decide +kernel)) (fun _ _ _ _ _ => (pg_name (i := 4) sc_is_firm.nd rfl (Or.inl rfl))) (fun _ _ _ _ _ => pts_nil) (fun _ _ _ _ _ => (pe_and (pc c_is_holding hg hr (by decide) (by rfl) (pa_cons (pv 2) (pa_cons (pv 4) pa_nil))) (pe_one (pe_cmpR op_ne (pe_ix (ix_tupK (K := K) rfl) (pv 4) pe_int (fun _ _ => rfl)) (pv 1) (nomark _)))))) pa_nil))))))), ?_⟩
  refine ⟨_, rfl, _, "tuple", mu, d, rfl, by decide, hd, _, rfl, ?_⟩
  have k0 := k H (Same.refl H)
  refine iteN (fun ht => ?_) fun ht => ?_
  · have e : firmD d = false := by
      cases d <;> first | rfl | (simp [isT, tyName] at ht)
    rw [e] at k0
    exact iteT k0
  obtain ⟨ds, rfl⟩ := (isTup d).mp ht
  obtain ⟨a, xs, rfl, hS, hA⟩ := hd.tupAt
  have hl := hA.length
  refine ⟨_, rfl, _, xs.length, rfl, .inr ⟨_, hS, rfl⟩, rfl, _, rfl, iteNe (fun hn => ?_) fun hn => ?_⟩
  · have e : firmD (.tuple ds) = false := by
      match ds, hl with
      | [], _ => rfl
      | [_], _ => rfl
      | [_, _], _ => rfl
      | [_, _, _], hl => exact absurd (by rw [hl]; rfl) hn
      | _ :: _ :: _ :: _ :: _, _ => rfl
    rw [e] at k0
    exact k0
  obtain ⟨x1, x2, x3, d1, d2, d3, rfl, rfl, r1, r2, r3⟩ := hA.three (by omega)
  have e0 : firmD (.tuple [d1, d2, d3]) = (isNm d1 && (isIn 0 6 d2 && hldsD d1 d2 d3)) := rfl
  refine ⟨_, rfl, a, _, rfl, hS, rfl, _, _, rfl, _, _, rfl, _, _, rfl, rfl, ?_⟩
  refine ⟨_, rfl, x1, mu, d1, rfl, r1, ho.inT (by simp), fun H1 s1 => ⟨_, rfl, iteN (fun h1 => ?_) fun h1 => ?_⟩⟩
  · have k1 := k H1 s1
    rw [e0, h1, Bool.false_and] at k1
    exact iteT k1
  refine ⟨_, rfl, x2, mu, d2, rfl, r2.fut (.of_same s1), ho.inT (by simp), fun H2 s2 => ⟨_, rfl, iteN (fun h2 => ?_) fun h2 => ?_⟩⟩
  · have k1 := k H2 (s1.trans s2)
    rw [e0, h1, h2, Bool.false_and, Bool.and_false] at k1
    exact iteT k1
  have s12 := s1.trans s2
  rw [e0, h1, h2, Bool.true_and, Bool.true_and] at k
  refine ⟨_, rfl, x3, "tuple", mu, d3, rfl, by decide, r3.fut (.of_same s12), _, rfl, iteN (fun h3 => ?_) fun h3 => ?_⟩
  · have k1 := k H2 s12
    have : hldsD d1 d2 d3 = false := by
      cases d3 <;> first | (simp [isT, tyName] at h3; done) | (unfold hldsD; split <;> first | rfl | (rename_i e; cases e))
    rw [this] at k1
    exact k1
  obtain ⟨hs, rfl⟩ := (isTup d3).mp h3
  obtain ⟨a3, zs, rfl, hS3, hA3⟩ := (r3.fut (.of_same s12)).tupAt
  have hl3 := hA3.length
  obtain ⟨nm, rfl⟩ : ∃ nm, d1 = .str nm := by
    cases d1 <;> first | exact ⟨_, rfl⟩ | (simp [isNm] at h1)
  obtain ⟨rk, rfl⟩ : ∃ rk, d2 = .int rk := by
    cases d2 <;> first | exact ⟨_, rfl⟩ | (simp [isIn] at h2)
  cases r1
  cases r2
  have h0 := ho.inT (d := .tuple hs) (by simp)
  have hw := len_wt hs
  have hw2 : PyData.weightAll hs ≤ 27000 := h0.wt
  refine ⟨_, rfl, a3, rfl, ⟨zs, hS3⟩, fun D nD => lc_it (walk_tup (K := K) (xs := zs) (a := a3)) (fun i H' => Same H2 H' ∧ H' D = some (.lst (((hs.take i).map fun h => holdD rk h && !headIs nm h).map V.bl))) ?_ (fun i H' _ h => h.1.seqT hS3) ?_ ?_⟩
  · exact ⟨same_upd nD, by rw [upd_same]; rfl⟩
  · rintro i x H3 H4 hi ⟨sm, hD⟩ ⟨rfl, hx⟩
    obtain ⟨e, he, hxe⟩ := hA3.get hx
    have oe := h0.inT (List.mem_of_getElem? he)
    have fin : ∀ (bb : Bool) (H5 : Hp), Same H4 H5 → (holdD rk e && !headIs nm e) = bb → ∃ acc, H5 D = some (.lst acc) ∧ acc.length < sizeLine ∧ (Same H2 (upd H5 D (.lst (acc ++ [.bl bb]))) ∧ (upd H5 D (.lst (acc ++ [.bl bb]))) D = some (.lst (((hs.take (i + 1)).map fun h => holdD rk h && !headIs nm h).map V.bl))) := fun bb H5 s5 eb => by
      refine ⟨_, s5 _ _ hD, ?_, fun b o z => ?_, ?_⟩
      · rw [List.length_map, List.length_map, List.length_take, sizeLine_eq]
        omega
      · rw [upd_ne (ne_of_none z nD)]
        exact s5 _ _ (sm b o z)
      · rw [upd_same, List.take_add_one, he, List.map_append, List.map_append, ← eb]
        rfl
    refine ⟨rfl, _, rfl, _, rfl, rk, x, mu, e, rfl, hxe.fut (.of_same sm), oe, fun H5 s5 => ?_⟩
    refine ⟨_, rfl, iteB (fun hc => ?_) fun hc => ?_⟩
    · obtain ⟨hn, o, rfl⟩ : ∃ hn o, e = .tuple [.str hn, o] := by
        unfold holdD at hc
        split at hc
        · rename_i h o
          rw [Bool.and_eq_true] at hc
          cases h <;> first | exact ⟨_, _, rfl⟩ | (simp [isNm] at hc)
        · cases hc
      obtain ⟨ae, us, rfl, hSe, hAe⟩ := (hxe.fut (.of_same (sm.trans s5))).tupAt
      obtain ⟨u1, u2, _, _, rfl, ee, ru1, ru2⟩ := hAe.two rfl
      cases ee
      cases ru1
      refine ⟨_, rfl, ae, _, 0, .str hn, rfl, rfl, hSe, atI_nat (j := 0) rfl, _, rfl, rfl, fin _ H5 s5 ?_⟩
      rw [hc, Bool.true_and]
      show (!decide (hn = nm)) = _
      by_cases z : hn = nm
      · rw [z]
        simp
      · rw [decide_eq_false z]
        simp [z]
    · exact fin false H5 s5 (by rw [hc, Bool.false_and])
  · rintro H3 ⟨sm, hD⟩
    rw [List.take_of_length_le (by omega)] at hD
    refine ⟨D, (hs.map fun h => holdD rk h && !headIs nm h), rfl, .inl (.inl hD), ?_⟩
    have k1 := k H3 (s12.trans sm)
    rw [List.all_map]
    exact k1
end
end K02
namespace K02
open PySem PySem.Spec PyProof.Rows L2 Sw StX RZ
theorem nopart {σ : L2.St} {H : Hp} {Q : Option Int → Hp → Prop} (h : Q none H) : tNoPart σ H Q := h
def nmS : PyData → Str
  | .tuple (.str n :: _) => n
  | _ => ""
def ltS (x y : Str) : Bool := decide (x.cps.toList < y.cps.toList)
/-- each below the next -/
def ascS : List Str → Bool
  | x :: y :: r => ltS x y && ascS (y :: r)
  | _ => true
def webD : PyData → Bool
  | .tuple fs => fs.all firmD && ascS (fs.map nmS)
  | _ => false
theorem firm_name {e : PyData} (h : firmD e = true) : ∃ n r hs, e = .tuple [.str n, r, hs] ∧ nameS n = true := by
  unfold firmD at h
  split at h
  · rename_i n r hs
    rw [Bool.and_eq_true] at h
    cases n <;> first | exact ⟨_, _, _, rfl, h.1⟩ | (simp [isNm] at h)
  · cases h
theorem ascS_zip : ∀ xs : List Str, ascS xs = (List.zipWith ltS xs xs.tail).all id
  | [] => rfl
  | [_] => rfl
  | x :: y :: r => by
    show (ltS x y && ascS (y :: r)) = (ltS x y && (List.zipWith ltS (y :: r) r).all id)
    rw [ascS_zip (y :: r)]
    rfl
section
variable {P : Program} {w : World} {K : PySem.W.Frag} {mg : Str → Option Value} {base : Heap}
abbrev sis_web : Stmt := topS 14
theorem sc_is_web : FnScope ["thing", "firm", "low", "high"] ["thing"] (defScope sis_web) := ⟨rfl, rfl, rfl, by decide +kernel, rfl, by decide +kernel, by decide +kernel⟩
theorem ok_is_web {f : Addr} {fd : FuncData} (F : Fun K "is_web" "is_web" sis_web f fd) (B : Bt mg) (TA : mg "all" = none) (c_is_firm : CalG P w K mg base 7 "is_firm" (spP K firmD)) : FnG P w K mg base 8 f fd ["thing"] (spP K webD) := by
  refine Fun.okG F sc_is_web spP_len (fun cdv A outer s H vs Q E hg hr h => ?_)
  obtain ⟨v, mu, d, rfl, hd, ho, k⟩ := h
  refine ⟨_, (pss_cons (ps_if (PW.pt (pw_or (pt_not (pt_val (pe_callB call_isD (by rfl) B.isin bb_isin (pa_cons (pv 0) (pa_cons (pe_bltn (v := .ty "tuple") rfl B.tuple bb_tuple rfl) pa_nil))))) (pw_or1 (pt_not (pt_val (pe_callB (cr_all rfl) (by rfl) TA bb_all (pa_cons (pe_lc (own := [("firm", 1)]) rfl sc_is_web.nd (pi_tup (pv 0)) (blkOk_by (own := [("firm", 1)]) (N := ["thing", "firm", "low", "high"]) (sc := (defScope sis_web)) (by decide +kernel)) (fun _ _ _ _ _ => (pg_name (i := 1) sc_is_web.nd rfl (Or.inl rfl))) (fun _ _ _ _ _ => pts_nil) (fun _ _ _ _ _ => (pc c_is_firm hg hr (by decide) (by rfl) (pa_cons (pv 1) pa_nil)))) pa_nil)))))))
      (pss_one (ps_ret pe_bl))
      pss_nil)
    (pss_one (ps_ret (pe_callB (cr_all rfl) (by rfl) TA bb_all (pa_cons (pe_lc (own := [("low", 2), ("high", 3)]) rfl sc_is_web.nd (pi_zipA (by rfl) B.zip (pa_cons (pv 0) (pa_cons (pe_slice sl_tupA (pv 0) (po_some pe_int) po_none) pa_nil))) (blkOk_by (own := [("low", 2), ("high", 3)]) (N := ["thing", "firm", "low", "high"]) (sc := (defScope sis_web)) (by decide +kernel)) (fun _ _ _ _ _ => (pg_tupK (K := K) (hK := rfl) (n := 2) rfl (pgs_cons (pg_name (i := 2) sc_is_web.nd rfl (Or.inl rfl)) (pgs_cons (pg_name (i := 3) sc_is_web.nd rfl (Or.inl rfl)) pgs_nil)))) (fun _ _ _ _ _ => pts_nil) (fun _ _ _ _ _ => (pe_cmpR op_lt_str (pe_ix (ix_tupK (K := K) rfl) (pv 2) pe_int (fun _ _ => rfl)) (pe_ix (ix_tupK (K := K) rfl) (pv 3) pe_int (fun _ _ => rfl)) (nomark _)))) pa_nil))))), ?_⟩
  refine ⟨_, rfl, _, "tuple", mu, d, rfl, by decide, hd, _, rfl, ?_⟩
  have k0 := k H (Same.refl H)
  refine iteN (fun ht => ?_) fun ht => ?_
  · have e : webD d = false := by
      cases d <;> first | rfl | (simp [isT, tyName] at ht)
    rw [e] at k0
    exact iteT k0
  obtain ⟨fs, rfl⟩ := (isTup d).mp ht
  obtain ⟨a, xs, rfl, hS, hA⟩ := hd.tupAt
  have hl := hA.length
  have hw := len_wt fs
  have hw2 : PyData.weightAll fs ≤ 27000 := ho.wt
  refine ⟨_, rfl, a, rfl, ⟨xs, hS⟩, fun D nD => lc_it (walk_tup (K := K) (xs := xs) (a := a)) (fun i H' => Same H H' ∧ H' D = some (.lst (((fs.take i).map firmD).map V.bl))) ?_ (fun i H' _ h => h.1.seqT hS) ?_ ?_⟩
  · exact ⟨same_upd nD, by rw [upd_same]; rfl⟩
  · rintro i x H2 H3 hi ⟨sm, hD⟩ ⟨rfl, hx⟩
    obtain ⟨e, he, hxe⟩ := hA.get hx
    refine ⟨rfl, _, rfl, x, mu, e, rfl, hxe.fut (.of_same sm), ho.inT (List.mem_of_getElem? he), fun H4 s4 => ?_⟩
    refine ⟨_, s4 _ _ hD, ?_, fun b o z => ?_, ?_⟩
    · rw [List.length_map, List.length_map, List.length_take, sizeLine_eq]
      omega
    · rw [upd_ne (ne_of_none z nD)]
      exact s4 _ _ (sm b o z)
    · rw [upd_same, List.take_add_one, he, List.map_append, List.map_append]
      rfl
  rintro H1 ⟨sm, hD⟩
  rw [List.take_of_length_le (by omega)] at hD
  refine ⟨D, (fs.map firmD), rfl, .inl (.inl hD), ?_⟩
  have eall : (fs.map firmD).all id = fs.all firmD := by
    rw [List.all_map]
    rfl
  refine ⟨_, rfl, ?_⟩
  rw [eall]
  refine iteN (fun hf => ?_) fun hf => ?_
  · have k1 := k H1 sm
    rw [show webD (.tuple fs) = (fs.all firmD && ascS (fs.map nmS)) from rfl, hf, Bool.false_and] at k1
    exact k1
  rw [show webD (.tuple fs) = (fs.all firmD && ascS (fs.map nmS)) from rfl, hf, Bool.true_and, ascS_zip] at k
  have hS1 := sm.seqT hS
  have hA1 := hA.fut (.of_same sm)
  refine ⟨_, rfl, _, rfl, _, rfl, nopart (slA_use hS1 fun p2 H2 s2 hp2 => ?_)⟩
  rw [show (1 : Int) = ((1 : Nat) : Int) from rfl, cutV_from] at hp2
  have hS2 := s2.seqT hS1
  have hA2 := hA1.fut (.of_same s2)
  have hlen : min xs.length (xs.drop 1).length = fs.length - 1 := by rw [List.length_drop]; omega
  refine ⟨a, p2, xs, xs.drop 1, rfl, .inr ⟨hS2, hp2, fun D2 nD2 => lc_it (walk_zipT (K := K) (a := a) (b := p2) (xs := xs) (ys := xs.drop 1) (n := fs.length - 1) hlen.symm) (fun i H' => Same H2 H' ∧ H' D2 = some (.lst (((List.zipWith ltS (fs.map nmS) (fs.map nmS).tail).take i).map V.bl))) ?_ (fun i H' _ h => ⟨h.1.seqT hS2, h.1.seqT hp2⟩) ?_ ?_⟩⟩
  · exact ⟨same_upd nD2, by rw [upd_same]; rfl⟩
  · rintro i x H3 H4 hi ⟨s3, hD2⟩ ⟨T, x1, y1, rfl, nT, rfl, hx1, hy1⟩
    have hx1 : xs[i]? = some x1 := hx1
    have hy1 : (xs.drop 1)[i]? = some y1 := hy1
    rw [List.getElem?_drop] at hy1
    obtain ⟨e1, he1, r1⟩ := hA2.get hx1
    obtain ⟨e2, he2, r2⟩ := hA2.get hy1
    obtain ⟨n1, a1, b1, rfl, _⟩ := firm_name (List.all_eq_true.mp hf _ (List.mem_of_getElem? he1))
    obtain ⟨n2, a2, b2, rfl, _⟩ := firm_name (List.all_eq_true.mp hf _ (List.mem_of_getElem? he2))
    have sT := s3.trans (same_upd (o := .tup [x1, y1]) nT)
    have TD : T ≠ D2 := fun e => by
      rw [e, hD2] at nT
      cases nT
    have hD3 : (upd H3 T (.tup [x1, y1])) D2 = H3 D2 := upd_ne (Ne.symm TD)
    obtain ⟨ra1, us1, rfl, hSa, hAa⟩ := (r1.fut (.of_same sT)).tupAt
    obtain ⟨ra2, us2, rfl, hSb, hAb⟩ := (r2.fut (.of_same sT)).tupAt
    obtain ⟨u1, u2, u3, _, _, _, rfl, ee, q1, q2, q3⟩ := hAa.three rfl
    cases ee
    cases q1
    obtain ⟨w1, w2, w3, _, _, _, rfl, ee, q4, q5, q6⟩ := hAb.three rfl
    cases ee
    cases q4
    refine ⟨T, _, rfl, .of upd_same, rfl, _, _, rfl, _, _, rfl, rfl, rfl, ?_⟩
    refine ⟨_, rfl, ra1, _, 0, .str n1, rfl, rfl, hSa, atI_nat (j := 0) rfl, _, rfl, ra2, _, 0, .str n2, rfl, rfl, hSb, atI_nat (j := 0) rfl, n1, n2, rfl, rfl, _, hD3.trans hD2, ?_, fun b o z => ?_, ?_⟩
    · rw [List.length_map, List.length_take, List.length_zipWith, List.length_map, List.length_tail, List.length_map, sizeLine_eq]
      omega
    · rw [upd_ne (ne_of_none z nD2)]
      exact sT b o z
    · have ez : (List.zipWith ltS (fs.map nmS) (fs.map nmS).tail)[i]? = some (ltS n1 n2) := by
        rw [List.getElem?_zipWith, List.getElem?_map, he1, List.getElem?_tail, List.getElem?_map, show i + 1 = 1 + i by omega, he2]
        rfl
      rw [upd_same, List.take_add_one, ez, List.map_append]
      rfl
  · rintro H3 ⟨s3, hD2⟩
    rw [List.take_of_length_le (by rw [List.length_zipWith, List.length_tail, List.length_map]; omega)] at hD2
    exact ⟨D2, _, rfl, .inl (.inl hD2), k H3 ((sm.trans s2).trans s3)⟩
end
end K02
namespace K02
open PySem PySem.Spec PyProof.Rows L2 Sw StX RZ
theorem depth_mem {d : PyData} : ∀ {ds : List PyData}, d ∈ ds → d.depth ≤ PyData.depthAll ds
  | x :: ds, h => by
    simp only [PyData.depthAll]
    rcases List.mem_cons.mp h with rfl | h
    · exact Nat.le_max_left _ _
    · exact Nat.le_trans (depth_mem h) (Nat.le_max_right _ _)
section
variable {P : Program} {w : World} {K : PySem.W.Frag} {mg : Str → Option Value} {base : Heap}
abbrev s_law_is_fraction : Stmt := topS 34
theorem sc__law_is_fraction : FnScope ["thing"] ["thing"] (defScope s_law_is_fraction) := ⟨rfl, rfl, rfl, by decide +kernel, rfl, by decide +kernel, by decide +kernel⟩
theorem ok__law_is_fraction {f : Addr} {fd : FuncData} (F : Fun K "_law_is_fraction" "_law_is_fraction" s_law_is_fraction f fd) (B : Bt mg) (c__law_is_int : CalG P w K mg base 1 "_law_is_int" (spP K isInt)) (c__law_common : CalG P w K mg base 1 "_law_common" spCommon) : FnG P w K mg base 2 f fd ["thing"] (spP K isFrac) := by
  refine Fun.okG F sc__law_is_fraction spP_len (fun cdv A outer s H vs Q E hg hr h => ?_)
  obtain ⟨v, mu, d, rfl, hd, ho, k⟩ := h
  refine ⟨_, (pss_cons (ps_if (PW.pt (pw_or (pt_not (pt_val (pe_callB call_isD (by rfl) B.isin bb_isin (pa_cons (pv 0) (pa_cons (pe_bltn (v := .ty "tuple") rfl B.tuple bb_tuple rfl) pa_nil))))) (pw_or (pt_cmpR op_ne (pe_callB call_lenA (by rfl) B.len boot_len (pa_cons (pv 0) pa_nil)) pe_int (nomark _)) (pw_or (pt_not (pt_val (pc c__law_is_int hg hr (by decide) (by rfl) (pa_cons (pe_ix ix_tup (pv 0) pe_int (fun _ _ => rfl)) pa_nil)))) (pw_or1 (pt_not (pt_val (pc c__law_is_int hg hr (by decide) (by rfl) (pa_cons (pe_ix ix_tup (pv 0) pe_int (fun _ _ => rfl)) pa_nil)))))))))
      (pss_one (ps_ret pe_bl))
      pss_nil)
    (pss_one (ps_ret (pe_and (pe_cmpR op_gt (pe_ix ix_tup (pv 0) pe_int (fun _ _ => rfl)) pe_int (nomark _)) (pe_one (pe_cmpR op_eq (pc c__law_common hg hr (by decide) (by rfl) (pa_cons (pe_ix ix_tup (pv 0) pe_int (fun _ _ => rfl)) (pa_cons (pe_ix ix_tup (pv 0) pe_int (fun _ _ => rfl)) pa_nil))) pe_int (nomark _))))))), ?_⟩
  refine ⟨_, rfl, _, "tuple", mu, d, rfl, by decide, hd, _, rfl, ?_⟩
  have k0 := k H (Same.refl H)
  refine iteN (fun ht => ?_) fun ht => ?_
  · have e : isFrac d = false := by
      cases d <;> first | rfl | (simp [isT, tyName] at ht)
    rw [e] at k0
    exact k0
  · obtain ⟨ds, rfl⟩ := (isTup d).mp ht
    obtain ⟨a, xs, rfl, hS, hA⟩ := hd.tupAt
    have el := hA.length
    refine ⟨_, rfl, _, xs.length, rfl, .inr ⟨_, hS, rfl⟩, rfl, _, rfl, iteNe (fun hn => ?_) fun hn => ?_⟩
    · have e : isFrac (.tuple ds) = false := by
        unfold isFrac
        split
        · rename_i z
          injection z with z
          rw [z] at el
          simp at el
          omega
        · rfl
      rw [e] at k0
      exact k0
    · obtain ⟨x, y, d1, d2, rfl, rfl, r1, r2⟩ := hA.two (by omega)
      have o1 : Ok d1 := ho.inT (by simp)
      have o2 : Ok d2 := ho.inT (by simp)
      have no : (∀ n m, d1 = .int n → d2 = .int m → False) → isFrac (.tuple [d1, d2]) = false := fun z => by
        unfold isFrac
        split
        · rename_i q
          injection q with q
          injection q with q1 q
          injection q with q2 _
          exact (z _ _ q1 q2).elim
        · rfl
      refine ⟨_, rfl, a, _, 0, x, rfl, rfl, hS, atI_nat (j := 0) rfl, x, mu, d1, rfl, r1, o1, fun H1 s1 => ⟨_, rfl, iteN (fun h1 => ?_) fun h1 => ?_⟩⟩
      · have kk := k H1 s1
        rw [no fun n m e1 e2 => by rw [e1] at h1; cases h1] at kk
        exact kk
      · have hS1 : SqT K H1 a [x, y] := s1.seqT hS
        refine ⟨_, rfl, a, _, 1, y, rfl, rfl, hS1, atI_nat (j := 1) rfl, y, mu, d2, rfl, r2.fut (.of_same s1), o2, fun H2 s2 => ⟨_, rfl, iteN (fun h2 => ?_) fun h2 => ?_⟩⟩
        · have kk := k H2 (s1.trans s2)
          rw [no fun n m e1 e2 => by rw [e2] at h2; cases h2] at kk
          exact kk
        · obtain ⟨n, rfl⟩ := (isIntD d1).mp h1
          obtain ⟨m, rfl⟩ := (isIntD d2).mp h2
          cases r1
          cases r2
          have hS2 := s2.seqT hS1
          have kk := k H2 (s1.trans s2)
          rw [isFrac_eq] at kk
          refine ⟨_, rfl, a, _, 1, .int m, rfl, rfl, hS2, atI_nat (j := 1) rfl, _, _, rfl, rfl, _, rfl, iteP (fun h3 => ?_) fun h3 => ?_⟩
          · rw [decide_eq_true (show 1 ≤ m by omega), Bool.true_and] at kk
            refine ⟨_, rfl, a, _, 0, .int n, rfl, rfl, hS2, atI_nat (j := 0) rfl, _, rfl, a, _, 1, .int m, rfl, rfl, hS2, atI_nat (j := 1) rfl, n, m, rfl, rfl, ?_⟩
            show Q (.bl (decide (V.int (gI n m) = V.int 1))) H2
            rw [Sw.dec_int]
            exact kk
          · rw [decide_eq_false (show ¬ 1 ≤ m by omega), Bool.false_and] at kk
            exact kk
abbrev s_law_is_above : Stmt := topS 35
theorem sc__law_is_above : FnScope ["thing"] ["thing"] (defScope s_law_is_above) := ⟨rfl, rfl, rfl, by decide +kernel, rfl, by decide +kernel, by decide +kernel⟩
theorem ok__law_is_above {f : Addr} {fd : FuncData} (F : Fun K "_law_is_above" "_law_is_above" s_law_is_above f fd) (B : Bt mg) (c__law_is_fraction : CalG P w K mg base 2 "_law_is_fraction" (spP K isFrac)) : FnG P w K mg base 3 f fd ["thing"] (spP K isAb) := by
  refine Fun.okG F sc__law_is_above spP_len (fun cdv A outer s H vs Q E hg hr h => ?_)
  obtain ⟨v, mu, d, rfl, hd, ho, k⟩ := h
  refine ⟨_, (pss_one (ps_ret (pe_and (pc c__law_is_fraction hg hr (by decide) (by rfl) (pa_cons (pv 0) pa_nil)) (pe_one (pe_cmpR op_gt (pe_ix ix_tup (pv 0) pe_int (fun _ _ => rfl)) pe_int (nomark _)))))), ?_⟩
  refine ⟨v, rfl, v, mu, d, rfl, hd, ho, fun H1 s1 => ⟨_, rfl, iteB (fun h1 => ?_) fun h1 => ?_⟩⟩
  · have k1 := k H1 s1
    obtain ⟨n, m, rfl⟩ : ∃ n m, d = .tuple [.int n, .int m] := by
      unfold isFrac at h1
      split at h1
      · exact ⟨_, _, rfl⟩
      · cases h1
    · obtain ⟨a, xs, rfl, hS, hA⟩ := (hd.fut (.of_same s1)).tupAt
      obtain ⟨x, y, d1, d2, rfl, e2, r1, r2⟩ := hA.two rfl
      injection e2 with e3 e4
      injection e4 with e4 _
      subst e3 e4
      cases r1
      refine ⟨_, rfl, a, _, 0, .int n, rfl, rfl, hS, atI_nat (j := 0) rfl, _, _, rfl, rfl, ?_⟩
      have e : isAb (.tuple [.int n, .int m]) = (isFrac (.tuple [.int n, .int m]) && decide (0 < n)) := rfl
      rw [e, h1, Bool.true_and] at k1
      exact k1
  · have k1 := k H1 s1
    have e : isAb d = false := by
      unfold isAb
      split
      · rw [h1, Bool.false_and]
      · rfl
    rw [e] at k1
    exact k1

/-- a claim of ranks, not too deep -/
def spClmL (K : PySem.W.Frag) (n : Nat) : Sp := fun vs H Q _ => ∃ (r : Int) (v : V) (mu : Addr → Prop) (d : PyData), vs = [.int r, v] ∧ Dt K mu H v d ∧ Ok d ∧ d.depth ≤ n ∧ ∀ H', Same H H' → Q (.bl (clm r d)) H'
abbrev s_law_is_claim : Stmt := topS 36
theorem sc__law_is_claim : FnScope ["ranks", "thing", "word", "many", "one"] ["ranks", "thing"] (defScope s_law_is_claim) := ⟨rfl, rfl, rfl, by decide +kernel, rfl, by decide +kernel, by decide +kernel⟩
theorem ok__law_is_claim {f : Addr} {fd : FuncData} {j N : Nat} {sp : Sp} (hj : 3 ≤ j) (hsp : N = 0 ∨ ∃ m, N = m + 1 ∧ sp = spClmL K m) (F : Fun K "_law_is_claim" "_law_is_claim" s_law_is_claim f fd) (B : Bt mg) (c__law_is_int : CalG P w K mg base 1 "_law_is_int" (spP K isInt)) (c__law_is_above : CalG P w K mg base 3 "_law_is_above" (spP K isAb))
    (c__law_is_claim : CalG P w K mg base j "_law_is_claim" sp) : FnG P w K mg base (j + 1) f fd ["ranks", "thing"] (spClmL K N) := by
  refine Fun.okG F sc__law_is_claim (fun vs H Q E h => ?_) (fun cdv A outer s H vs Q E hg hr h => ?_)
  · obtain ⟨_, _, _, _, rfl, _⟩ := h
    rfl
  obtain ⟨r, v, mu, d, rfl, hd, ho, hdp, k⟩ := h
  have hu := Room.u64 hr
  refine ⟨_, (pss_cons (ps_if (PW.pt (pw_or (pt_not (pt_val (pe_callB call_isD (by rfl) B.isin bb_isin (pa_cons (pv 1) (pa_cons (pe_bltn (v := .ty "tuple") rfl B.tuple bb_tuple rfl) pa_nil))))) (pw_or (pt_cmpR (op_eqNilT (K := K) rfl hu) (pv 1) (pe_tup pa_nil) (nomark _)) (pw_or1 (pt_not (pt_val (pe_callB call_isD (by rfl) B.isin bb_isin (pa_cons (pe_ix ix_tup (pv 1) pe_int (fun _ _ => rfl)) (pa_cons (pe_bltn (v := .ty "str") rfl B.str bb_str rfl) pa_nil)))))))))
      (pss_one (ps_ret pe_bl))
      pss_nil)
    (pss_cons (ps_par (i := 2) (j := 3) rfl sc__law_is_claim.nd rfl rfl (by decide) rfl rfl (pa_cons (pe_ix ix_tup (pv 1) pe_int (fun _ _ => rfl)) (pa_cons (pe_callB call_lenA (by rfl) B.len boot_len (pa_cons (pv 1) pa_nil)) pa_nil)) (by rfl))
    (pss_cons (ps_if (pt_cmpR op_eq (pv 2) pe_str (nomark _))
      (pss_one (ps_ret (pe_cmpR op_eq (pv 3) pe_int (nomark _))))
      pss_nil)
    (pss_cons (ps_if (pt_cmpR op_eq (pv 2) pe_str (nomark _))
      (pss_one (ps_ret (pe_and (pe_cmpR op_eq (pv 3) pe_int (nomark _)) (pe_and (pc c__law_is_int hg hr (by omega) (by rfl) (pa_cons (pe_ix ix_tup (pv 1) pe_int (fun _ _ => rfl)) pa_nil)) (pe_and (pe_chain op_le op_lt pe_int (pe_ix ix_tup (pv 1) pe_int (fun _ _ => rfl)) (pv 0)) (pe_one (pc c__law_is_above hg hr (by omega) (by rfl) (pa_cons (pe_ix ix_tup (pv 1) pe_int (fun _ _ => rfl)) pa_nil))))))))
      pss_nil)
    (pss_cons (ps_if (pt_cmpR op_eq (pv 2) pe_str (nomark _))
      (pss_one (ps_ret (pe_and (pe_cmpR op_eq (pv 3) pe_int (nomark _)) (pe_one (pc c__law_is_above hg hr (by omega) (by rfl) (pa_cons (pe_ix ix_tup (pv 1) pe_int (fun _ _ => rfl)) pa_nil))))))
      pss_nil)
    (pss_cons (ps_if (pt_cmpR op_eq (pv 2) pe_str (nomark _))
      (pss_one (ps_ret (pe_and (pe_cmpR op_eq (pv 3) pe_int (nomark _)) (pe_and (pc c__law_is_above hg hr (by omega) (by rfl) (pa_cons (pe_ix ix_tup (pv 1) pe_int (fun _ _ => rfl)) pa_nil)) (pe_one (pc c__law_is_above hg hr (by omega) (by rfl) (pa_cons (pe_ix ix_tup (pv 1) pe_int (fun _ _ => rfl)) pa_nil)))))))
      pss_nil)
    (pss_cons (ps_if (pt_cmpR op_eq (pv 2) pe_str (nomark _))
      (pss_one (ps_ret (pe_and (pe_cmpR op_eq (pv 3) pe_int (nomark _)) (pe_and (pc c__law_is_claim hg hr (by omega) (by rfl) (pa_cons (pv 0) (pa_cons (pe_ix ix_tup (pv 1) pe_int (fun _ _ => rfl)) pa_nil))) (pe_one (pc c__law_is_above hg hr (by omega) (by rfl) (pa_cons (pe_ix ix_tup (pv 1) pe_int (fun _ _ => rfl)) pa_nil)))))))
      pss_nil)
    (pss_cons (ps_if (PW.pt (pw_or (pt_cmpR op_ne (pv 2) pe_str (nomark _)) (pw_or (pt_cmpR op_ne (pv 3) pe_int (nomark _)) (pw_or (pt_not (pt_val (pe_callB call_isD (by rfl) B.isin bb_isin (pa_cons (pe_ix ix_tup (pv 1) pe_int (fun _ _ => rfl)) (pa_cons (pe_bltn (v := .ty "tuple") rfl B.tuple bb_tuple rfl) pa_nil))))) (pw_or1 (pt_cmpR op_lt (pe_callB call_lenA (by rfl) B.len boot_len (pa_cons (pe_ix ix_tup (pv 1) pe_int (fun _ _ => rfl)) pa_nil)) pe_int (nomark _)))))))
      (pss_one (ps_ret pe_bl))
      pss_nil)
    (pss_one (ps_ret (pe_cmpR (op_eqNil (K := K) rfl hu) (pe_lc (own := [("one", 4)]) rfl sc__law_is_claim.nd (pi_tup (pe_ix ix_tup (pv 1) pe_int (fun _ _ => rfl))) (blkOk_by (own := [("one", 4)]) (N := ["ranks", "thing", "word", "many", "one"]) (sc := (defScope s_law_is_claim)) (by decide +kernel)) (fun _ _ _ _ _ => (pg_name (i := 4) sc__law_is_claim.nd rfl (Or.inl rfl))) (fun _ _ _ _ _ => (pts_one (pt_not (pt_val (pc c__law_is_claim hg hr (by omega) (by rfl) (pa_cons (pv 0) (pa_cons (pv 4) pa_nil))))))) (fun _ _ _ _ _ => (pv 4))) (pe_lst pa_nil) (nomark _)))))))))))), ?_⟩
  refine ⟨_, rfl, _, "tuple", mu, d, rfl, by decide, hd, _, rfl, ?_⟩
  have k0 := k H (Same.refl H)
  refine iteN (fun ht => ?_) fun ht => ?_
  · have e : clm r d = false := by
      cases d <;> first | (simp [clm]; done) | (simp [isT, tyName] at ht)
    rw [e] at k0
    exact k0
  obtain ⟨ds, rfl⟩ := (isTup d).mp ht
  obtain ⟨a, xs, rfl, hS, hA⟩ := hd.tupAt
  have hl := hA.length
  have ddp0 : PyData.depthAll ds + 1 ≤ N := by
    have e : (PyData.tuple ds).depth = PyData.depthAll ds + 1 := by simp [PyData.depth]
    omega
  obtain ⟨n, rfl, rfl⟩ : ∃ n, N = n + 1 ∧ sp = spClmL K n := by
    rcases hsp with z | z
    · omega
    · exact z
  have ddp : PyData.depthAll ds + 1 ≤ n + 1 := ddp0
  refine ⟨_, rfl, Nat.zero_le _, fun q nq => ?_⟩
  have s0 := same_upd (o := .tup []) nq
  have hS0 := s0.seqT hS
  have hA0 := hA.fut (.of_same (mu := mu) s0)
  have k1 := fun H2 s2 => k H2 (s0.trans s2)
  have hq0 : SqT K (upd H q (.tup [])) q [] := .of upd_same
  revert hS0 hA0 k1 hq0
  generalize upd H q (.tup []) = H0
  intro hS0 hA0 k1 hq0
  refine ⟨a, q, xs, rfl, rfl, hS0, hq0, _, rfl, iteP (fun hn => ?_) fun hn => ?_⟩
  · subst hn
    cases hA
    have kk := k1 H0 (.refl H0)
    rw [show clm r (.tuple []) = false by simp [clm]] at kk
    exact kk
  cases hA0 with
  | nil => exact absurd rfl hn
  | @cons x xs' dw ps hx hxs =>
  clear hA hS k k0
  refine ⟨_, rfl, a, _, 0, x, rfl, rfl, hS0, atI_nat (j := 0) rfl, _, "str", mu, dw, rfl, by decide, hx, _, rfl, iteN (fun hs => ?_) fun hs => ?_⟩
  · have kk := k1 H0 (.refl H0)
    have e : clm r (.tuple (dw :: ps)) = false := by
      cases dw <;> first | (simp [clm]; done) | (simp [isT, tyName] at hs)
    rw [e] at kk
    exact kk
  obtain ⟨w0, rfl⟩ := (isStr dw).mp hs
  cases hx
  have hl' := hxs.length
  have eC : clm r (.tuple (.str w0 :: ps)) = (locW r w0 ps && clmA r (sub (.tuple (.str w0 :: ps)))) := by rw [clm_loc, loc_str]
  rw [eC] at k1
  have nilA : clmA r [] = true := rfl
  have kk := k1 H0 (.refl H0)
  have i2 : ∀ (m : Nat), ((V.str w0 :: xs').length : Int) = (m : Int) + 1 ↔ ps.length = m := fun m => by
    rw [List.length_cons]
    omega
  refine ⟨_, rfl, a, _, 0, _, rfl, rfl, hS0, atI_nat (j := 0) rfl, _, rfl, _, (V.str w0 :: xs').length, rfl, .inr ⟨_, hS0, rfl⟩, _, _, rfl, ?_⟩
  refine ⟨_, rfl, rfl, _, rfl, iteP (fun e => ?_) fun e1 => ?_⟩
  · cases e
    rw [locW_none, sub_other (by decide +kernel) (by decide +kernel), nilA, Bool.and_true] at kk
    refine ⟨_, rfl, rfl, ?_⟩
    have e : decide (V.int ((V.str "none" :: xs').length : Int) = V.int 1) = decide (ps = []) := by
      rw [Bool.eq_iff_iff, decide_eq_true_eq, decide_eq_true_eq, ← List.length_eq_zero_iff]
      refine ⟨fun z => ?_, fun z => ?_⟩
      · have := V.int.inj z
        exact (i2 0).mp this
      · exact congrArg V.int ((i2 0).mpr z)
    rw [← e] at kk
    exact kk
  have n1 : w0 ≠ "none" := fun z => e1 (by rw [z])
  refine ⟨_, rfl, rfl, _, rfl, iteP (fun e => ?_) fun e2 => ?_⟩
  · cases e
    rw [sub_other (by decide +kernel) (by decide +kernel), nilA] at kk k1
    refine ⟨_, rfl, rfl, _, rfl, iteEq (fun hm => ?_) fun hm => ?_⟩
    rotate_left
    · rw [locW_two (by decide +kernel) (by decide +kernel) (by decide +kernel) (fun z => hm ((i2 2).mpr z)), Bool.false_and] at kk
      exact kk
    obtain ⟨y, z, d1, d2, rfl, rfl, r1, r2⟩ := hxs.two ((i2 2).mp hm)
    rw [locW_due, Bool.and_true] at k1
    refine ⟨_, rfl, a, _, 1, y, rfl, rfl, hS0, atI_nat (j := 1) rfl, y, mu, d1, rfl, r1, ho.inT (by simp), fun H2 s2 => ⟨_, rfl, iteB (fun h1 => ?_) fun h1 => ?_⟩⟩
    · obtain ⟨i, rfl⟩ := (isIntD d1).mp h1
      cases r1
      have hS2 := s2.seqT hS0
      have e : isIn 0 (r - 1) (.int i) = decide (0 ≤ i ∧ i ≤ r - 1) := rfl
      rw [e] at k1
      refine ⟨_, rfl, a, _, 1, .int i, rfl, rfl, hS2, atI_nat (j := 1) rfl, _, _, rfl, rfl, _, rfl, iteP (fun h3 => ⟨_, rfl, _, _, rfl, rfl, _, rfl, iteP (fun h4 => ?_) fun h4 => ?_⟩) fun h3 => ⟨_, rfl, ?_⟩⟩
      · rw [decide_eq_true (show 0 ≤ i ∧ i ≤ r - 1 by omega), Bool.and_true] at k1
        exact ⟨_, rfl, a, _, 2, z, rfl, rfl, hS2, atI_nat (j := 2) rfl, z, mu, d2, rfl, r2.fut (.of_same s2), ho.inT (by simp), fun H3 s3 => k1 H3 (s2.trans s3)⟩
      · have kk := k1 H2 s2
        rw [decide_eq_false (show ¬ (0 ≤ i ∧ i ≤ r - 1) by omega), Bool.and_false] at kk
        exact kk
      · have kk := k1 H2 s2
        rw [decide_eq_false (show ¬ (0 ≤ i ∧ i ≤ r - 1) by omega), Bool.and_false] at kk
        exact iteF kk
    · have kk := k1 H2 s2
      have e : isIn 0 (r - 1) d1 = false := by
        cases d1 <;> first | rfl | (simp [isInt, isT, tyName] at h1)
      rw [e, Bool.and_false] at kk
      exact kk
  refine ⟨_, rfl, rfl, _, rfl, iteP (fun e => ?_) fun e3 => ?_⟩
  · cases e
    rw [sub_other (by decide +kernel) (by decide +kernel), nilA] at kk k1
    refine ⟨_, rfl, rfl, _, rfl, iteEq (fun hm => ?_) fun hm => ?_⟩
    rotate_left
    · rw [locW_one (.inl rfl) (fun z => hm ((i2 1).mpr z)), Bool.false_and] at kk
      exact kk
    obtain ⟨y, d1, rfl, rfl, r1⟩ := hxs.one ((i2 1).mp hm)
    rw [locW_shares, Bool.and_true] at k1
    exact ⟨_, rfl, a, _, 1, y, rfl, rfl, hS0, atI_nat (j := 1) rfl, y, mu, d1, rfl, r1, ho.inT (by simp), k1⟩
  have n3 : w0 ≠ "shares" := fun z => e3 (by rw [z])
  refine ⟨_, rfl, rfl, _, rfl, iteP (fun e => ?_) fun e4 => ?_⟩
  · cases e
    rw [sub_other (by decide +kernel) (by decide +kernel), nilA] at kk k1
    refine ⟨_, rfl, rfl, _, rfl, iteEq (fun hm => ?_) fun hm => ?_⟩
    rotate_left
    · rw [locW_two (by decide +kernel) (by decide +kernel) (by decide +kernel) (fun z => hm ((i2 2).mpr z)), Bool.false_and] at kk
      exact kk
    obtain ⟨y, z, d1, d2, rfl, rfl, r1, r2⟩ := hxs.two ((i2 2).mp hm)
    rw [locW_option, Bool.and_true] at k1
    refine ⟨_, rfl, a, _, 1, y, rfl, rfl, hS0, atI_nat (j := 1) rfl, y, mu, d1, rfl, r1, ho.inT (by simp), fun H2 s2 => ⟨_, rfl, iteB (fun h1 => ?_) fun h1 => ?_⟩⟩
    · rw [h1, Bool.and_true] at k1
      exact ⟨_, rfl, a, _, 2, z, rfl, rfl, s2.seqT hS0, atI_nat (j := 2) rfl, z, mu, d2, rfl, r2.fut (.of_same s2), ho.inT (by simp), fun H3 s3 => k1 H3 (s2.trans s3)⟩
    · have kk := k1 H2 s2
      rw [h1, Bool.and_false] at kk
      exact kk
  refine ⟨_, rfl, rfl, _, rfl, iteP (fun e => ?_) fun e5 => ?_⟩
  · cases e
    refine ⟨_, rfl, rfl, _, rfl, iteEq (fun hm => ?_) fun hm => ?_⟩
    rotate_left
    · rw [locW_two (by decide +kernel) (by decide +kernel) (by decide +kernel) (fun z => hm ((i2 2).mpr z)), Bool.false_and] at kk
      exact kk
    obtain ⟨y, z, d1, d2, rfl, rfl, r1, r2⟩ := hxs.two ((i2 2).mp hm)
    rw [locW_capped, sub_capped, show clmA r [d1] = clm r d1 by simp [clmA]] at k1
    have dd : d1.depth ≤ n := by
      have := depth_mem (d := d1) (ds := [PyData.str "capped", d1, d2]) (by simp)
      omega
    refine ⟨_, rfl, _, rfl, a, _, 1, y, rfl, rfl, hS0, atI_nat (j := 1) rfl, r, y, mu, d1, rfl, r1, ho.inT (by simp), dd, fun H2 s2 => ⟨_, rfl, iteB (fun h1 => ?_) fun h1 => ?_⟩⟩
    · rw [h1, Bool.and_true] at k1
      exact ⟨_, rfl, a, _, 2, z, rfl, rfl, s2.seqT hS0, atI_nat (j := 2) rfl, z, mu, d2, rfl, r2.fut (.of_same s2), ho.inT (by simp), fun H3 s3 => k1 H3 (s2.trans s3)⟩
    · have kk := k1 H2 s2
      rw [h1, Bool.and_false] at kk
      exact kk
  refine ⟨_, rfl, rfl, _, rfl, iteN (fun he => ?_) fun he => ?_⟩
  · have n6 : w0 ≠ "sum" := fun z => of_decide_eq_false he (by rw [z])
    have e : locW r w0 ps = false := locW_other n1 n3 n6 (by
      simp only [List.mem_cons, List.not_mem_nil, or_false, not_or]
      exact ⟨fun z => e2 (by rw [z]), fun z => e4 (by rw [z]), fun z => e5 (by rw [z])⟩) ps
    rw [e, Bool.false_and] at kk
    exact kk
  have e : w0 = "sum" := V.str.inj (of_decide_eq_true he)
  cases e
  refine ⟨_, rfl, rfl, _, rfl, iteNe (fun hm => ?_) fun hm => ?_⟩
  · rw [locW_one (.inr rfl) (fun z => hm ((i2 1).mpr z)), Bool.false_and] at kk
    exact kk
  obtain ⟨y, d1, rfl, rfl, r1⟩ := hxs.one ((i2 1).mp hm)
  rw [locW_sum] at k1 kk
  refine ⟨_, rfl, a, _, 1, y, rfl, rfl, hS0, atI_nat (j := 1) rfl, _, "tuple", mu, d1, rfl, by decide, r1, _, rfl, iteN (fun ht1 => ?_) fun ht1 => ?_⟩
  · have e : tup2 d1 = false := by
      cases d1 <;> first | rfl | (simp [isT, tyName] at ht1)
    rw [e, Bool.false_and] at kk
    exact kk
  obtain ⟨cs, rfl⟩ := (isTup d1).mp ht1
  obtain ⟨a2, ys, rfl, hS2, hA2⟩ := r1.tupAt
  have hl2 := hA2.length
  have eT : tup2 (.tuple cs) = decide (2 ≤ cs.length) := rfl
  rw [eT, sub_sum] at k1 kk
  refine ⟨_, rfl, a, _, 1, _, rfl, rfl, hS0, atI_nat (j := 1) rfl, _, ys.length, rfl, .inr ⟨_, hS2, rfl⟩, _, _, rfl, rfl, _, rfl, iteP (fun h2 => ?_) fun h2 => ?_⟩
  · rw [decide_eq_false (by omega), Bool.false_and] at kk
    exact kk
  rw [decide_eq_true (by omega), Bool.true_and, clmA_all] at k1
  have oc : Ok (.tuple cs) := ho.inT (by simp)
  have cdp : PyData.depthAll cs + 1 ≤ n := by
    have := depth_mem (d := PyData.tuple cs) (ds := [PyData.str "sum", PyData.tuple cs]) (by simp)
    have e : (PyData.tuple cs).depth = PyData.depthAll cs + 1 := by simp [PyData.depth]
    omega
  have hw := len_wt cs
  have hw2 : PyData.weightAll cs ≤ 27000 := oc.wt
  have sl := sizeLine_eq
  refine ⟨_, rfl, a, _, 1, _, rfl, rfl, hS0, atI_nat (j := 1) rfl, a2, rfl, ⟨ys, hS2⟩, fun D nD => lc_it (walk_tup (K := K) (xs := ys) (a := a2)) (fun i H' => Same H0 H' ∧ ∃ ws, H' D = some (.lst ws) ∧ ws.length ≤ i ∧ (ws = [] ↔ (cs.take i).all (clm r) = true)) ?_ (fun i H' _ h => h.1.seqT hS2) ?_ ?_⟩
  · exact ⟨same_upd nD, [], upd_same, Nat.le_refl _, by simp⟩
  · rintro i x H2 H3 hi ⟨sm, ws, hD, hwl, hall⟩ ⟨rfl, hx2⟩
    obtain ⟨e, he2, hxe⟩ := hA2.get hx2
    have ed : e.depth ≤ n := by
      have := depth_mem (List.mem_of_getElem? he2)
      omega
    have ht : cs.take (i + 1) = cs.take i ++ [e] := by
      rw [List.take_add_one, he2]
      rfl
    refine ⟨rfl, _, rfl, _, rfl, r, x, mu, e, rfl, hxe.fut (.of_same sm), oc.inT (List.mem_of_getElem? he2), ed, fun H4 s4 => ⟨_, rfl, iteN (fun hc => ?_) fun hc => ?_⟩⟩
    · refine ⟨_, rfl, ws, s4 _ _ hD, by omega, fun b o z => ?_, ws ++ [x], upd_same, by rw [List.length_append]; show ws.length + 1 ≤ i + 1; omega, ?_⟩
      · rw [upd_ne (ne_of_none z nD)]
        exact s4 _ _ (sm b o z)
      · rw [ht, List.all_append, List.all_cons, hc]
        constructor
        · intro q
          simp at q
        · intro q
          simp at q
    · refine ⟨sm.trans s4, ws, s4 _ _ hD, by omega, ?_⟩
      rw [ht, List.all_append, List.all_cons, hc, List.all_nil, Bool.and_true, Bool.and_true]
      exact hall
  · rintro H2 ⟨sm, ws, hD, hwl, hall⟩
    rw [List.take_of_length_le (by omega)] at hall
    refine ⟨Nat.zero_le _, fun q2 nq2 => ?_⟩
    have s2 := same_upd (o := .lst []) nq2
    refine ⟨D, q2, ws, rfl, rfl, .inl (.inl (s2 _ _ hD)), .inl (.inl upd_same), ?_⟩
    have kk := k1 _ (sm.trans s2)
    rw [show decide (ws = []) = cs.all (clm r) by
      rw [Bool.eq_iff_iff, decide_eq_true_eq]
      exact hall]
    exact kk
abbrev s_law_is_name : Stmt := topS 37
theorem sc__law_is_name : FnScope ["thing", "sign"] ["thing"] (defScope s_law_is_name) := ⟨rfl, rfl, rfl, by decide +kernel, rfl, by decide +kernel, by decide +kernel⟩
theorem ok__law_is_name {f : Addr} {fd : FuncData} (F : Fun K "_law_is_name" "_law_is_name" s_law_is_name f fd) (B : Bt mg) : FnG P w K mg base 1 f fd ["thing"] (spP K isNm) := by
  refine Fun.okG F sc__law_is_name spP_len (fun cdv A outer s H vs Q E hg hr h => ?_)
  have hu := Room.u64 hr
  obtain ⟨v, mu, d, rfl, hd, ho, k⟩ := h
  refine ⟨_, (pss_cons (ps_if (PW.pt (pw_or (pt_not (pt_val (pe_callB call_isD (by rfl) B.isin bb_isin (pa_cons (pv 0) (pa_cons (pe_bltn (v := .ty "str") rfl B.str bb_str rfl) pa_nil))))) (pw_or1 (pt_not (pt_chain op_le op_le pe_int (pe_callB call_lenA (by rfl) B.len boot_len (pa_cons (pv 0) pa_nil)) pe_int)))))
      (pss_one (ps_ret pe_bl))
      pss_nil)
    (pss_one (ps_ret (pe_cmpR (op_eqW hu) (pe_lc (own := [("sign", 1)]) rfl sc__law_is_name.nd (pi_str (pv 0)) (blkOk_by (own := [("sign", 1)]) (N := ["thing", "sign"]) (sc := (defScope s_law_is_name)) (by decide +kernel)) (fun _ _ _ _ _ => (pg_name (i := 1) sc__law_is_name.nd rfl (Or.inl rfl))) (fun _ _ _ _ _ => (pts_one (pt_cmpR op_notIn_sign (pv 1) pe_str (by rfl)))) (fun _ _ _ _ _ => (pv 1))) (pe_lst pa_nil) (nomark _))))), ?_⟩
  refine ⟨_, rfl, _, "str", mu, d, rfl, by decide, hd, _, rfl, ?_⟩
  have k0 := k H (Same.refl H)
  refine iteN (fun ht => ?_) fun ht => ?_
  · have e : isNm d = false := by
      cases d <;> first | rfl | (simp [isT, tyName] at ht)
    rw [e] at k0
    exact k0
  · obtain ⟨x, rfl⟩ := (isStr d).mp ht
    have hl := ho.strLen
    cases hd
    have e0 : isNm (.str x) = nameS x := rfl
    unfold nameS at e0
    refine ⟨_, rfl, .str x, x.length, rfl, ⟨Nat.le_trans hl (by decide), rfl⟩, _, _, rfl, rfl, _, rfl, iteP (fun h1 => ?_) fun h1 => ?_⟩
    · refine ⟨_, _, rfl, rfl, _, rfl, iteN (fun h2 => ?_) fun h2 => ?_⟩
      · have z : ¬ x.length ≤ 12 := by
          have := of_decide_eq_false h2
          omega
        rw [e0, decide_eq_false z, Bool.and_false, Bool.false_and] at k0
        exact k0
      · have z : x.length ≤ 12 := by
          have := of_decide_eq_true h2
          omega
        have z1 : 1 ≤ x.length := by omega
        rw [e0, decide_eq_true z, decide_eq_true z1, Bool.true_and, Bool.true_and] at k
        -- [sign for sign in thing if sign not in ..]
        refine ⟨_, rfl, x, rfl, fun D hD => lc_it walk_str (fun i H1 => Same H H1 ∧ ∃ acc : List Str, H1 D = some (.lst (acc.map V.str)) ∧ acc.length ≤ i ∧ (∀ z ∈ acc, PyData.strOk z = true) ∧ (acc = [] ↔ (x.cps.toList.take i).all low = true)) ?_ (fun _ _ _ _ => trivial) ?_ ?_⟩
        · exact ⟨fun b o e => by rw [upd_ne (ne_of_none e hD)]; exact e, [], upd_same, Nat.le_refl _, by simp, by simp⟩
        · rintro i y H1 H2 hi ⟨sm, acc, hDa, hacc, hso, hall⟩ ⟨rfl, c, hc, rfl⟩
          refine ⟨rfl, _, rfl, c, az, rfl, rfl, _, rfl, ?_⟩
          have ht : x.cps.toList.take (i + 1) = x.cps.toList.take i ++ [c] := by
            rw [List.take_add_one]
            rw [Array.getElem?_toList, hc]
            rfl
          have hc2 : c < 0x110000 := by
            have z2 : PyData.strOk x = true := by simpa only [okD] using ho.ok
            have z3 := Array.all_eq_true_iff_forall_mem.mp z2 c (Array.mem_of_getElem? hc)
            simpa using z3
          rw [az_mem]
          refine iteN (fun h3 => ?_) fun h3 => ?_
          · refine ⟨_, rfl, acc.map V.str, hDa, ?_, fun b o e => by rw [upd_ne (ne_of_none e hD)]; exact sm b o e, acc ++ [⟨#[c]⟩], ?_, ?_, ?_, ?_⟩
            · rw [List.length_map]
              have : i < x.length := hi
              exact small1000 (by omega)
            · rw [upd_same, List.map_append]
              rfl
            · rw [List.length_append]
              show acc.length + 1 ≤ i + 1
              omega
            · intro z hz
              rcases List.mem_append.mp hz with hz | hz
              · exact hso z hz
              · rw [List.mem_singleton.mp hz]
                show (#[c].all fun x => decide (x < 1114112)) = true
                simpa using hc2
            · rw [ht, List.all_append]
              constructor
              · intro q
                simp at q
              · intro q
                rw [List.all_cons, h3] at q
                simp at q
          · refine ⟨sm, acc, hDa, by omega, hso, ?_⟩
            rw [ht, List.all_append, List.all_cons, h3, List.all_nil, Bool.and_true, Bool.and_true]
            exact hall
        · rintro H1 ⟨sm, acc, hDa, hacc, hso, hall⟩
          have hx : (x.cps.toList.take x.cps.size) = x.cps.toList := List.take_of_length_le (by simp)
          rw [hx] at hall
          refine ⟨Nat.zero_le _, fun q hq => ?_⟩
          have nDq : D ≠ q := ne_of_none hDa hq
          have sm2 : Same H (upd H1 q (.lst [])) := fun b o e => by
            rw [upd_ne (ne_of_none (sm b o e) hq)]
            exact sm b o e
          refine ⟨fun _ => False, .list (acc.map PyData.str), .list [], .lst (fun z => z) (.inl (by rw [upd_ne nDq]; exact hDa)) (DtA.strs acc), .lst (fun z => z) (.inl upd_same) .nil, ?_, by decide, ?_⟩
          · exact shaped_strs hso
          · have kk := k _ sm2
            have e1 : PyData.eqv (.list (acc.map PyData.str)) (.list []) = x.cps.toList.all low := by
              rw [Bool.eq_iff_iff, ← hall]
              cases acc <;> simp [PyData.eqv, PyData.eqvAll]
            rw [e1]
            exact kk
    · have z1 : ¬ 1 ≤ x.length := by omega
      rw [e0, decide_eq_false z1, Bool.false_and, Bool.false_and] at k0
      exact ⟨_, rfl, iteT k0⟩
end
end K02
namespace K02
open PySem PySem.Spec PyProof.Rows L2 Sw StX RZ
section
variable {P : Program} {w : World} {K : PySem.W.Frag} {mg : Str → Option Value} {base : Heap}
abbrev s_law_is_holding : Stmt := topS 38
theorem sc__law_is_holding : FnScope ["ranks", "thing", "one"] ["ranks", "thing"] (defScope s_law_is_holding) := ⟨rfl, rfl, rfl, by decide +kernel, rfl, by decide +kernel, by decide +kernel⟩
theorem ok__law_is_holding {f : Addr} {fd : FuncData} (F : Fun K "_law_is_holding" "_law_is_holding" s_law_is_holding f fd) (B : Bt mg) (c__law_is_name : CalG P w K mg base 1 "_law_is_name" (spP K isNm)) (c__law_is_claim : CalG P w K mg base 54 "_law_is_claim" (spClmL K 50)) : FnG P w K mg base 55 f fd ["ranks", "thing"] (spHold K) := by
  refine Fun.okG F sc__law_is_holding (fun vs H Q E h => ?_) (fun cdv A outer s H vs Q E hg hr h => ?_)
  · obtain ⟨_, _, _, _, rfl, _⟩ := h
    rfl
  obtain ⟨r, v, mu, d, rfl, hd, ho, k⟩ := h
  have hu := Room.u64 hr
  refine ⟨_, (pss_cons (ps_if (PW.pt (pw_or (pt_not (pt_val (pe_callB call_isD (by rfl) B.isin bb_isin (pa_cons (pv 1) (pa_cons (pe_bltn (v := .ty "tuple") rfl B.tuple bb_tuple rfl) pa_nil))))) (pw_or (pt_cmpR op_ne (pe_callB call_lenA (by rfl) B.len boot_len (pa_cons (pv 1) pa_nil)) pe_int (nomark _)) (pw_or1 (pt_not (pt_val (pc c__law_is_name hg hr (by decide) (by rfl) (pa_cons (pe_ix ix_tup (pv 1) pe_int (fun _ _ => rfl)) pa_nil))))))))
      (pss_one (ps_ret pe_bl))
      pss_nil)
    (pss_cons (ps_if (PW.pt (pw_or (pt_not (pt_val (pe_callB call_isD (by rfl) B.isin bb_isin (pa_cons (pe_ix ix_tup (pv 1) pe_int (fun _ _ => rfl)) (pa_cons (pe_bltn (v := .ty "tuple") rfl B.tuple bb_tuple rfl) pa_nil))))) (pw_or1 (pt_cmpR (op_eqNilT (K := K) rfl hu) (pe_ix ix_tup (pv 1) pe_int (fun _ _ => rfl)) (pe_tup pa_nil) (nomark _)))))
      (pss_one (ps_ret pe_bl))
      pss_nil)
    (pss_one (ps_ret (pe_cmpR (op_eqNil (K := K) rfl hu) (pe_lc (own := [("one", 2)]) rfl sc__law_is_holding.nd (pi_tup (pe_ix ix_tup (pv 1) pe_int (fun _ _ => rfl))) (blkOk_by (own := [("one", 2)]) (N := ["ranks", "thing", "one"]) (sc := (defScope s_law_is_holding)) (by decide +kernel)) (fun _ _ _ _ _ => (pg_name (i := 2) sc__law_is_holding.nd rfl (Or.inl rfl))) (fun _ _ _ _ _ => (pts_one (pt_not (pt_val (pc c__law_is_claim hg hr (by decide) (by rfl) (pa_cons (pv 0) (pa_cons (pv 2) pa_nil))))))) (fun _ _ _ _ _ => (pv 2))) (pe_lst pa_nil) (nomark _)))))), ?_⟩
  refine ⟨_, rfl, _, "tuple", mu, d, rfl, by decide, hd, _, rfl, ?_⟩
  have k0 := k H (Same.refl H)
  refine iteN (fun ht => ?_) fun ht => ?_
  · have e : holdD r d = false := by
      cases d <;> first | rfl | (simp [isT, tyName] at ht)
    rw [e] at k0
    exact k0
  obtain ⟨ds, rfl⟩ := (isTup d).mp ht
  obtain ⟨a, xs, rfl, hS, hA⟩ := hd.tupAt
  have hl := hA.length
  refine ⟨_, rfl, _, xs.length, rfl, .inr ⟨_, hS, rfl⟩, rfl, _, rfl, iteNe (fun hn => ?_) fun hn => ?_⟩
  · have e : holdD r (.tuple ds) = false := by
      match ds, hl with
      | [], _ => rfl
      | [_], _ => rfl
      | [_, _], hl => exact absurd (by rw [hl]; rfl) hn
      | _ :: _ :: _ :: _, _ => rfl
    rw [e] at k0
    exact k0
  obtain ⟨x, y, d1, d2, rfl, rfl, r1, r2⟩ := hA.two (by omega)
  refine ⟨_, rfl, a, _, 0, x, rfl, rfl, hS, atI_nat (j := 0) rfl, x, mu, d1, rfl, r1, ho.inT (by simp), fun H1 s1 => ⟨_, rfl, iteN (fun h1 => ?_) fun h1 => ?_⟩⟩
  · have k1 := k H1 s1
    rw [show holdD r (.tuple [d1, d2]) = (isNm d1 && optsD r d2) from rfl, h1, Bool.false_and] at k1
    exact k1
  rw [show holdD r (.tuple [d1, d2]) = (isNm d1 && optsD r d2) from rfl, h1, Bool.true_and] at k
  have hS1 := s1.seqT hS
  refine ⟨_, rfl, a, _, 1, y, rfl, rfl, hS1, atI_nat (j := 1) rfl, _, "tuple", mu, d2, rfl, by decide, r2.fut (.of_same s1), _, rfl, iteN (fun h2 => ?_) fun h2 => ?_⟩
  · have k1 := k H1 s1
    have e : optsD r d2 = false := by
      cases d2 <;> first | rfl | (simp [isT, tyName] at h2)
    rw [e] at k1
    exact k1
  obtain ⟨cs, rfl⟩ := (isTup d2).mp h2
  obtain ⟨a2, ys, rfl, hS2, hA2⟩ := (r2.fut (.of_same s1)).tupAt
  have hl2 := hA2.length
  have oc : Ok (.tuple cs) := ho.inT (by simp)
  rw [show optsD r (.tuple cs) = (!cs.isEmpty && clmA r cs) from rfl] at k
  refine ⟨_, rfl, a, _, 1, _, rfl, rfl, hS1, atI_nat (j := 1) rfl, Nat.zero_le _, fun q nq => ⟨a2, q, ys, rfl, rfl, (same_upd nq).seqT hS2, .of upd_same, _, rfl, iteP (fun hn0 => ?_) fun hn0 => ?_⟩⟩
  · have : cs = [] := List.eq_nil_of_length_eq_zero (by rw [← hl2, hn0]; rfl)
    subst this
    exact k _ (s1.trans (same_upd nq))
  have hne : (!cs.isEmpty) = true := by
    cases cs with
    | nil => exact absurd (List.eq_nil_of_length_eq_zero hl2) hn0
    | cons _ _ => rfl
  rw [hne, Bool.true_and, clmA_all] at k
  have s2 := s1.trans (same_upd (o := .tup []) nq)
  have hS3 : SqT K (upd H1 q (.tup [])) a2 ys := (same_upd nq).seqT hS2
  have hSa : SqT K (upd H1 q (.tup [])) a [x, .ref a2] := (same_upd nq).seqT hS1
  have hA3 := hA2.fut (.of_same (same_upd (o := .tup []) nq))
  revert s2 hS3 hA3 hSa
  generalize upd H1 q (.tup []) = H2
  intro s2 hS3 hSa hA3
  have hw := len_wt cs
  have hw2 : PyData.weightAll cs ≤ 27000 := oc.wt
  have sl := sizeLine_eq
  refine ⟨_, rfl, a, _, 1, _, rfl, rfl, hSa, atI_nat (j := 1) rfl, a2, rfl, ⟨ys, hS3⟩, fun D nD => lc_it (walk_tup (K := K) (xs := ys) (a := a2)) (fun i H' => Same H2 H' ∧ ∃ ws, H' D = some (.lst ws) ∧ ws.length ≤ i ∧ (ws = [] ↔ (cs.take i).all (clm r) = true)) ?_ (fun i H' _ h => h.1.seqT hS3) ?_ ?_⟩
  · exact ⟨same_upd nD, [], upd_same, Nat.le_refl _, by simp⟩
  · rintro i x H3 H4 hi ⟨sm, ws, hD, hwl, hall⟩ ⟨rfl, hx2⟩
    obtain ⟨e, he2, hxe⟩ := hA3.get hx2
    have ht : cs.take (i + 1) = cs.take i ++ [e] := by
      rw [List.take_add_one, he2]
      rfl
    have oe := oc.inT (List.mem_of_getElem? he2)
    refine ⟨rfl, _, rfl, _, rfl, r, x, mu, e, rfl, hxe.fut (.of_same sm), oe, oe.dp, fun H5 s5 => ⟨_, rfl, iteN (fun hc => ?_) fun hc => ?_⟩⟩
    · refine ⟨_, rfl, ws, s5 _ _ hD, by omega, fun b o z => ?_, ws ++ [x], upd_same, by rw [List.length_append]; show ws.length + 1 ≤ i + 1; omega, ?_⟩
      · rw [upd_ne (ne_of_none z nD)]
        exact s5 _ _ (sm b o z)
      · rw [ht, List.all_append, List.all_cons, hc]
        constructor
        · intro q
          simp at q
        · intro q
          simp at q
    · refine ⟨sm.trans s5, ws, s5 _ _ hD, by omega, ?_⟩
      rw [ht, List.all_append, List.all_cons, hc, List.all_nil, Bool.and_true, Bool.and_true]
      exact hall
  · rintro H3 ⟨sm, ws, hD, hwl, hall⟩
    rw [List.take_of_length_le (by omega)] at hall
    refine ⟨Nat.zero_le _, fun q2 nq2 => ?_⟩
    have s5 := same_upd (o := .lst []) nq2
    refine ⟨D, q2, ws, rfl, rfl, .inl (.inl (s5 _ _ hD)), .inl (.inl upd_same), ?_⟩
    have kk := k _ ((s2.trans sm).trans s5)
    rw [show decide (ws = []) = cs.all (clm r) by
      rw [Bool.eq_iff_iff, decide_eq_true_eq]
      exact hall]
    exact kk
abbrev s_law_is_firm : Stmt := topS 39
theorem sc__law_is_firm : FnScope ["thing", "one"] ["thing"] (defScope s_law_is_firm) := ⟨rfl, rfl, rfl, by decide +kernel, rfl, by decide +kernel, by decide +kernel⟩
theorem ok__law_is_firm {f : Addr} {fd : FuncData} (F : Fun K "_law_is_firm" "_law_is_firm" s_law_is_firm f fd) (B : Bt mg) (c__law_is_name : CalG P w K mg base 1 "_law_is_name" (spP K isNm)) (c__law_is_int : CalG P w K mg base 1 "_law_is_int" (spP K isInt)) (c__law_is_holding : CalG P w K mg base 55 "_law_is_holding" (spHold K)) : FnG P w K mg base 56 f fd ["thing"] (spP K firmD) := by
  refine Fun.okG F sc__law_is_firm spP_len (fun cdv A outer s H vs Q E hg hr h => ?_)
  obtain ⟨v, mu, d, rfl, hd, ho, k⟩ := h
  have hu := Room.u64 hr
  refine ⟨_, (pss_cons (ps_if (PW.pt (pw_or (pt_not (pt_val (pe_callB call_isD (by rfl) B.isin bb_isin (pa_cons (pv 0) (pa_cons (pe_bltn (v := .ty "tuple") rfl B.tuple bb_tuple rfl) pa_nil))))) (pw_or (pt_cmpR op_ne (pe_callB call_lenA (by rfl) B.len boot_len (pa_cons (pv 0) pa_nil)) pe_int (nomark _)) (pw_or (pt_not (pt_val (pc c__law_is_name hg hr (by decide) (by rfl) (pa_cons (pe_ix ix_tup (pv 0) pe_int (fun _ _ => rfl)) pa_nil)))) (pw_or1 (pt_not (pt_val (pc c__law_is_int hg hr (by decide) (by rfl) (pa_cons (pe_ix ix_tup (pv 0) pe_int (fun _ _ => rfl)) pa_nil)))))))))
      (pss_one (ps_ret pe_bl))
      pss_nil)
    (pss_cons (ps_if (PW.pt (pw_or (pt_not (pt_chain op_le op_le pe_int (pe_ix ix_tup (pv 0) pe_int (fun _ _ => rfl)) pe_int)) (pw_or1 (pt_not (pt_val (pe_callB call_isD (by rfl) B.isin bb_isin (pa_cons (pe_ix ix_tup (pv 0) pe_int (fun _ _ => rfl)) (pa_cons (pe_bltn (v := .ty "tuple") rfl B.tuple bb_tuple rfl) pa_nil))))))))
      (pss_one (ps_ret pe_bl))
      pss_nil)
    (pss_one (ps_ret (pe_cmpR (op_eqNil (K := K) rfl hu) (pe_lc (own := [("one", 1)]) rfl sc__law_is_firm.nd (pi_tup (pe_ix ix_tup (pv 0) pe_int (fun _ _ => rfl))) (blkOk_by (own := [("one", 1)]) (N := ["thing", "one"]) (sc := (defScope s_law_is_firm)) (by decide +kernel)) (fun _ _ _ _ _ => (pg_name (i := 1) sc__law_is_firm.nd rfl (Or.inl rfl))) (fun _ _ _ _ _ => (pts_one (PW.pt (pw_or (pt_not (pt_val (pc c__law_is_holding hg hr (by decide) (by rfl) (pa_cons (pe_ix (ix_tupK (K := K) rfl) (pv 0) pe_int (fun _ _ => rfl)) (pa_cons (pv 1) pa_nil))))) (pw_or1 (pt_cmpR op_eq (pe_ix (ix_tupK (K := K) rfl) (pv 1) pe_int (fun _ _ => rfl)) (pe_ix (ix_tupK (K := K) rfl) (pv 0) pe_int (fun _ _ => rfl)) (nomark _))))))) (fun _ _ _ _ _ => (pv 1))) (pe_lst pa_nil) (nomark _)))))), ?_⟩
  refine ⟨_, rfl, _, "tuple", mu, d, rfl, by decide, hd, _, rfl, ?_⟩
  have k0 := k H (Same.refl H)
  refine iteN (fun ht => ?_) fun ht => ?_
  · have e : firmD d = false := by
      cases d <;> first | rfl | (simp [isT, tyName] at ht)
    rw [e] at k0
    exact k0
  obtain ⟨ds, rfl⟩ := (isTup d).mp ht
  obtain ⟨a, xs, rfl, hS, hA⟩ := hd.tupAt
  have hl := hA.length
  refine ⟨_, rfl, _, xs.length, rfl, .inr ⟨_, hS, rfl⟩, rfl, _, rfl, iteNe (fun hn => ?_) fun hn => ?_⟩
  · have e : firmD (.tuple ds) = false := by
      match ds, hl with
      | [], _ => rfl
      | [_], _ => rfl
      | [_, _], _ => rfl
      | [_, _, _], hl => exact absurd (by rw [hl]; rfl) hn
      | _ :: _ :: _ :: _ :: _, _ => rfl
    rw [e] at k0
    exact k0
  obtain ⟨x1, x2, x3, d1, d2, d3, rfl, rfl, r1, r2, r3⟩ := hA.three (by omega)
  have e0 : firmD (.tuple [d1, d2, d3]) = (isNm d1 && (isIn 0 6 d2 && hldsD d1 d2 d3)) := rfl
  rw [e0] at k k0
  refine ⟨_, rfl, a, _, 0, x1, rfl, rfl, hS, atI_nat (j := 0) rfl, x1, mu, d1, rfl, r1, ho.inT (by simp), fun H1 s1 => ⟨_, rfl, iteN (fun h1 => ?_) fun h1 => ?_⟩⟩
  · have k1 := k H1 s1
    rw [h1, Bool.false_and] at k1
    exact k1
  have hS1 := s1.seqT hS
  refine ⟨_, rfl, a, _, 1, x2, rfl, rfl, hS1, atI_nat (j := 1) rfl, x2, mu, d2, rfl, r2.fut (.of_same s1), ho.inT (by simp), fun H2 s2 => ⟨_, rfl, iteN (fun h2 => ?_) fun h2 => ?_⟩⟩
  · have k1 := k H2 (s1.trans s2)
    have e : isIn 0 6 d2 = false := by
      cases d2 <;> first | rfl | (simp [isInt, isT, tyName] at h2)
    rw [e, Bool.false_and, Bool.and_false] at k1
    exact k1
  have s12 := s1.trans s2
  have hS2 := s2.seqT hS1
  obtain ⟨rk, rfl⟩ := (isIntD d2).mp h2
  cases r2
  rw [h1, Bool.true_and, show isIn 0 6 (.int rk) = decide (0 ≤ rk ∧ rk ≤ 6) from rfl] at k
  have k2 := k H2 s12
  refine ⟨_, rfl, a, _, 1, .int rk, rfl, rfl, hS2, atI_nat (j := 1) rfl, _, _, rfl, rfl, _, rfl, iteP (fun h3 => ?_) fun h3 => ?_⟩
  rotate_left
  · rw [decide_eq_false (by omega), Bool.false_and] at k2
    exact ⟨_, rfl, iteT k2⟩
  refine ⟨_, _, rfl, rfl, _, rfl, iteN (fun h4 => ?_) fun h4 => ?_⟩
  · have h4 := of_decide_eq_false h4
    rw [decide_eq_false (by omega), Bool.false_and] at k2
    exact iteT k2
  have h4 := of_decide_eq_true h4
  rw [decide_eq_true (by omega), Bool.true_and] at k k2
  refine ⟨_, rfl, a, _, 2, x3, rfl, rfl, hS2, atI_nat (j := 2) rfl, _, "tuple", mu, d3, rfl, by decide, r3.fut (.of_same s12), _, rfl, iteN (fun h5 => ?_) fun h5 => ?_⟩
  · have e : hldsD d1 (.int rk) d3 = false := by
      cases d3 <;> first | (simp [isT, tyName] at h5; done) | (unfold hldsD; split <;> first | rfl | (rename_i e; cases e))
    rw [e] at k2
    exact k2
  obtain ⟨hs, rfl⟩ := (isTup d3).mp h5
  obtain ⟨a3, zs, rfl, hS3, hA3⟩ := (r3.fut (.of_same s12)).tupAt
  have hl3 := hA3.length
  obtain ⟨nm, rfl⟩ : ∃ nm, d1 = .str nm := by
    cases d1 <;> first | exact ⟨_, rfl⟩ | (simp [isNm] at h1)
  cases r1
  have h0 := ho.inT (d := .tuple hs) (by simp)
  have hw := len_wt hs
  have hw2 : PyData.weightAll hs ≤ 27000 := h0.wt
  have sl := sizeLine_eq
  let g : PyData → Bool := fun h => holdD rk h && !headIs nm h
  rw [show hldsD (.str nm) (.int rk) (.tuple hs) = hs.all g from rfl] at k
  refine ⟨_, rfl, a, _, 2, _, rfl, rfl, hS2, atI_nat (j := 2) rfl, a3, rfl, ⟨zs, hS3⟩, fun D nD => lc_it (walk_tup (K := K) (xs := zs) (a := a3)) (fun i H' => Same H2 H' ∧ ∃ ws, H' D = some (.lst ws) ∧ ws.length ≤ i ∧ (ws = [] ↔ (hs.take i).all g = true)) ?_ (fun i H' _ h => h.1.seqT hS3) ?_ ?_⟩
  · exact ⟨same_upd nD, [], upd_same, Nat.le_refl _, by simp⟩
  · rintro i x H3 H4 hi ⟨sm, ws, hD, hwl, hall⟩ ⟨rfl, hx2⟩
    obtain ⟨e, he2, hxe⟩ := hA3.get hx2
    have ht : hs.take (i + 1) = hs.take i ++ [e] := by
      rw [List.take_add_one, he2]
      rfl
    have oe := h0.inT (List.mem_of_getElem? he2)
    have out : ∀ H5, Same H4 H5 → g e = false → ∃ acc, H5 D = some (.lst acc) ∧ acc.length < sizeLine ∧ (Same H2 (upd H5 D (.lst (acc ++ [x]))) ∧ ∃ ws, (upd H5 D (.lst (acc ++ [x]))) D = some (.lst ws) ∧ ws.length ≤ i + 1 ∧ (ws = [] ↔ (hs.take (i + 1)).all g = true)) := fun H5 s5 hc => by
      refine ⟨ws, s5 _ _ hD, by omega, fun b o z => ?_, ws ++ [x], upd_same, by rw [List.length_append]; show ws.length + 1 ≤ i + 1; omega, ?_⟩
      · rw [upd_ne (ne_of_none z nD)]
        exact s5 _ _ (sm b o z)
      · rw [ht, List.all_append, List.all_cons, hc]
        constructor
        · intro q
          simp at q
        · intro q
          simp at q
    have inn : ∀ H5, Same H4 H5 → g e = true → (Same H2 H5 ∧ ∃ ws, H5 D = some (.lst ws) ∧ ws.length ≤ i + 1 ∧ (ws = [] ↔ (hs.take (i + 1)).all g = true)) := fun H5 s5 hc => by
      refine ⟨sm.trans s5, ws, s5 _ _ hD, by omega, ?_⟩
      rw [ht, List.all_append, List.all_cons, hc, List.all_nil, Bool.and_true, Bool.and_true]
      exact hall
    refine ⟨rfl, _, rfl, a, _, 1, .int rk, rfl, rfl, sm.seqT hS2, atI_nat (j := 1) rfl, _, rfl, rk, x, mu, e, rfl, hxe.fut (.of_same sm), oe, fun H5 s5 => ⟨_, rfl, iteN (fun hc => ?_) fun hc => ?_⟩⟩
    · exact ⟨_, rfl, out H5 s5 (by show (holdD rk e && _) = false; rw [hc, Bool.false_and])⟩
    · obtain ⟨hn, o, rfl⟩ : ∃ hn o, e = .tuple [.str hn, o] := by
        unfold holdD at hc
        split at hc
        · rename_i h o
          rw [Bool.and_eq_true] at hc
          cases h <;> first | exact ⟨_, _, rfl⟩ | (simp [isNm] at hc)
        · cases hc
      obtain ⟨ae, us, rfl, hSe, hAe⟩ := (hxe.fut (.of_same (sm.trans s5))).tupAt
      obtain ⟨u1, u2, _, _, rfl, ee, ru1, ru2⟩ := hAe.two rfl
      cases ee
      cases ru1
      have eg : g (.tuple [.str hn, o]) = !decide (hn = nm) := by
        show (holdD rk _ && !decide (hn = nm)) = _
        rw [hc, Bool.true_and]
      refine ⟨_, rfl, ae, _, 0, .str hn, rfl, rfl, hSe, atI_nat (j := 0) rfl, _, rfl, a, _, 0, .str nm, rfl, rfl, (sm.trans s5).seqT hS2, atI_nat (j := 0) rfl, rfl, _, rfl, iteP (fun z => ?_) fun z => ?_⟩
      · have z : hn = nm := V.str.inj z
        exact ⟨_, rfl, out H5 s5 (by rw [eg, z]; simp)⟩
      · have z : hn ≠ nm := fun y => z (by rw [y])
        exact inn H5 s5 (by rw [eg]; simp [z])
  · rintro H3 ⟨sm, ws, hD, hwl, hall⟩
    rw [List.take_of_length_le (by omega)] at hall
    refine ⟨Nat.zero_le _, fun q2 nq2 => ?_⟩
    have s5 := same_upd (o := .lst []) nq2
    refine ⟨D, q2, ws, rfl, rfl, .inl (.inl (s5 _ _ hD)), .inl (.inl upd_same), ?_⟩
    have kk := k _ ((s12.trans sm).trans s5)
    rw [show decide (ws = []) = hs.all g by
      rw [Bool.eq_iff_iff, decide_eq_true_eq]
      exact hall]
    exact kk
end
end K02
namespace K02
open PySem PySem.Spec PyProof.Rows L2 Sw StX RZ
mutual
/-- small integers, short texts -/
def smD : PyData → Bool
  | .none | .bool _ => true
  | .int i => decide (i.natAbs < 10 ^ 40)
  | .str x => PyData.strOk x && decide (1 ≤ x.length ∧ x.length ≤ 13) && x.cps.all (fun c => decide (97 ≤ c ∧ c ≤ 122))
  | .tuple xs => smA xs
  | .list _ | .dict _ => false
def smA : List PyData → Bool
  | [] => true
  | x :: xs => smD x && smA xs
end
mutual
theorem sm_ok : ∀ {d : PyData}, smD d = true → okD d = true
  | .none, _ | .bool _, _ => rfl
  | .int i, h => by
    simp only [smD, decide_eq_true_eq] at h
    simp only [okD, decide_eq_true_eq]
    exact Nat.lt_trans h (by decide +kernel)
  | .str x, h => by
    simp only [smD, Bool.and_eq_true] at h
    simp only [okD]
    exact h.1.1
  | .list _, h => by simp [smD] at h
  | .tuple xs, h => by
    simp only [smD] at h
    simp only [okD]
    exact smA_ok h
  | .dict _, h => by simp [smD] at h
theorem smA_ok : ∀ {ds : List PyData}, smA ds = true → okA ds = true
  | [], _ => rfl
  | d :: ds, h => by
    simp only [smA, Bool.and_eq_true] at h
    simp only [okA, sm_ok h.1, smA_ok h.2, Bool.and_self]
end
theorem smA_mem {d : PyData} : ∀ {ds : List PyData}, smA ds = true → d ∈ ds → smD d = true
  | x :: xs, h, hm => by
    simp only [smA, Bool.and_eq_true] at h
    rcases List.mem_cons.mp hm with rfl | hm
    · exact h.1
    · exact smA_mem h.2 hm
/-- a datum of a size, without dicts -/
structure Sd (p w : Nat) (d : PyData) : Prop where
  ok : smD d = true
  nd : d.hasDict = false
  dp : d.depth ≤ p
  wt : d.weight ≤ w
theorem Sd.mono {p w p' w' : Nat} {d : PyData} (h : Sd p w d) (hp : p ≤ p') (hw : w ≤ w') : Sd p' w' d := ⟨h.ok, h.nd, Nat.le_trans h.dp hp, Nat.le_trans h.wt hw⟩
/-- items: together at most w heavy -/
structure SdA (p w : Nat) (ds : List PyData) : Prop where
  ok : smA ds = true
  nd : PyData.hasDictAll ds = false
  dp : PyData.depthAll ds ≤ p
  wt : PyData.weightAll ds ≤ w
theorem SdA.nil {p w : Nat} : SdA p w [] := ⟨rfl, rfl, Nat.zero_le _, Nat.zero_le _⟩
theorem SdA.cons {p w1 w2 w : Nat} {d : PyData} {ds : List PyData} (h : Sd p w1 d) (t : SdA p w2 ds) (hw : w1 + 1 + w2 ≤ w) : SdA p w (d :: ds) := by
  refine ⟨by simp only [smA, h.ok, t.ok, Bool.and_self], by simp only [PyData.hasDictAll, h.nd, t.nd, Bool.or_self], ?_, ?_⟩
  · have a := h.dp
    have b := t.dp
    simp only [PyData.depthAll]
    omega
  · have a := h.wt
    have b := t.wt
    simp only [PyData.weightAll]
    omega
theorem SdA.tup {p w : Nat} {ds : List PyData} (h : SdA p w ds) : Sd (p + 1) w (.tuple ds) :=
  ⟨by simp only [smD]; exact h.ok, by simp only [PyData.hasDict]; exact h.nd, by simp only [PyData.depth]; have := h.dp; omega, by simp only [PyData.weight]; exact h.wt⟩
theorem SdA.all {p w1 m : Nat} : ∀ {ds : List PyData}, (∀ d ∈ ds, Sd p w1 d) → ds.length ≤ m → SdA p ((w1 + 1) * m) ds
  | [], _, _ => .nil
  | d :: ds, h, hl => by
    cases m with
    | zero => simp at hl
    | succ m =>
      rw [Nat.mul_succ]
      exact .cons (h d List.mem_cons_self) (SdA.all (m := m) (fun x hx => h x (List.mem_cons_of_mem _ hx)) (by simpa using hl)) (by omega)
theorem sd_str {x : Str} {w p : Nat} (h : smD (.str x) = true) (hl : x.length ≤ w) : Sd p w (.str x) := ⟨h, by simp [PyData.hasDict], by simp [PyData.depth], by simp only [PyData.weight]; exact hl⟩
theorem sd_int {i : Int} {p k : Nat} (h : i.natAbs < 2 ^ k) (hk : k ≤ 130) : Sd p k (.int i) := by
  refine ⟨?_, by simp [PyData.hasDict], by simp [PyData.depth], ?_⟩
  · simp only [smD, decide_eq_true_eq]
    exact Nat.lt_of_lt_of_le h (Nat.le_trans (Nat.pow_le_pow_right (by decide) hk) (by decide +kernel))
  · simp only [PyData.weight]
    by_cases hz : i = 0
    · rw [hz]
      exact Nat.zero_le _
    · have hz2 : i.natAbs ≠ 0 := by omega
      have e : i.natAbs.log2 < k := (Nat.log2_lt hz2).mpr h
      split <;> omega
theorem sd_num {d : PyData} (h : NumE d) : Sd 1 43 d ∧ isAb d = true := by
  obtain ⟨⟨n, m, rfl, h1, h2, h3, h4, h5⟩, hw⟩ := h
  have s := (SdA.cons (p := 0) (w1 := 40) (w2 := 41) (w := 82) (sd_int (i := n) (by omega) (by decide)) (.cons (w1 := 40) (w2 := 0) (sd_int (i := m) (by omega) (by decide)) .nil (by decide)) (by decide)).tup
  refine ⟨⟨s.ok, s.nd, s.dp, hw⟩, ?_⟩
  show ((decide (1 ≤ m) && decide (gI n m = 1)) && decide (0 < n)) = true
  rw [decide_eq_true h3, decide_eq_true h5, decide_eq_true (show 0 < n by omega)]
  rfl
mutual
/-- the leaves of a claim -/
def leavesD : PyData → Int
  | .tuple (.str w :: ps) => leavesW w ps
  | _ => 1
def leavesW (w : Str) : List PyData → Int
  | [p] => if w = "sum" then leavesS p else 1
  | [p, _] => if w = "capped" then leavesD p else 1
  | _ => 1
def leavesS : PyData → Int
  | .tuple cs => leavesA cs
  | _ => 1
def leavesA : List PyData → Int
  | [] => 0
  | c :: cs => leavesD c + leavesA cs
end
theorem leavesA_sum : ∀ cs : List PyData, leavesA cs = (cs.map leavesD).sum
  | [] => rfl
  | c :: cs => by
    rw [List.map_cons, List.sum_cons, ← leavesA_sum cs]
    rfl
theorem leaves_other {w : Str} (h1 : w ≠ "capped") (h2 : w ≠ "sum") : ∀ ps : List PyData, leavesD (.tuple (.str w :: ps)) = 1
  | [] => rfl
  | [_] => if_neg h2
  | [_, _] => if_neg h1
  | _ :: _ :: _ :: _ => rfl
/-- a drawn claim, n deep -/
def wC : Nat → Nat
  | 0 => 95
  | n + 1 => 3 * (wC n + 1) + 90
theorem wC_ge : ∀ n, 95 ≤ wC n
  | 0 => Nat.le_refl _
  | n + 1 => by
    have := wC_ge n
    show 95 ≤ 3 * (wC n + 1) + 90
    omega
structure Cl (r : Int) (n : Nat) (d : PyData) : Prop where
  sd : Sd (2 + 2 * n) (wC n) d
  clm : clm r d = true
  tup : ∃ ds, d = .tuple ds
  l1 : 1 ≤ leavesD d
  lw : (d.weight : Int) ≤ (95 + 52 * n) * leavesD d
theorem lw_leaf {n : Nat} {d : PyData} (hl : leavesD d = 1) (hw : d.weight ≤ 95) : 1 ≤ leavesD d ∧ (d.weight : Int) ≤ (95 + 52 * n) * leavesD d := by
  rw [hl]
  omega
theorem lw_mono {n m : Nat} {l : Int} {w : Nat} (h : n ≤ m) (h1 : 1 ≤ l) (hw : (w : Int) ≤ (95 + 52 * n) * l) : (w : Int) ≤ (95 + 52 * m) * l :=
  Int.le_trans hw (Int.mul_le_mul_of_nonneg_right (by omega) (by omega))
theorem lw_more {n : Nat} {l : Int} {w : Nat} (h1 : 1 ≤ l) (hw : (w : Int) ≤ (95 + 52 * n) * l) : (w : Int) + 52 ≤ (95 + 52 * (n + 1 : Nat)) * l := by
  have e : ((95 + 52 * ((n + 1 : Nat) : Int)) * l) = (95 + 52 * n) * l + 52 * l := by
    rw [← Int.add_mul]
    congr 1
  rw [e]
  omega
theorem leaves_all {n : Nat} : ∀ {ds : List PyData}, (∀ d ∈ ds, 1 ≤ leavesD d ∧ (d.weight : Int) ≤ (95 + 52 * n) * leavesD d) → (ds.length : Int) ≤ leavesA ds ∧ (PyData.weightAll ds : Int) ≤ (95 + 52 * n) * leavesA ds + ds.length
  | [], _ => by simp [leavesA, PyData.weightAll]
  | d :: ds, h => by
    obtain ⟨a1, a2⟩ := h d List.mem_cons_self
    obtain ⟨b1, b2⟩ := leaves_all fun x hx => h x (List.mem_cons_of_mem _ hx)
    have e : (95 + 52 * (n : Int)) * leavesA (d :: ds) = (95 + 52 * n) * leavesD d + (95 + 52 * n) * leavesA ds := by
      rw [← Int.mul_add]
      rfl
    have e2 : leavesA (d :: ds) = leavesD d + leavesA ds := rfl
    rw [e, e2, List.length_cons]
    simp only [PyData.weightAll]
    omega
theorem clm_due {r i : Int} {q : PyData} (h0 : 0 ≤ i) (h1 : i < r) (hq : isAb q = true) : clm r (.tuple [.str "due", .int i, q]) = true := by
  rw [clm_loc, loc_str, locW_due, sub_other (by decide +kernel) (by decide +kernel), hq]
  show (true && decide (0 ≤ i ∧ i ≤ r - 1)) && true = true
  rw [decide_eq_true (by omega)]
  rfl
theorem clm_shares {r : Int} {q : PyData} (hq : isAb q = true) : clm r (.tuple [.str "shares", q]) = true := by
  rw [clm_loc, loc_str, locW_shares, sub_other (by decide +kernel) (by decide +kernel), hq]
  rfl
theorem clm_option {r : Int} {p q : PyData} (hp : isAb p = true) (hq : isAb q = true) : clm r (.tuple [.str "option", p, q]) = true := by
  rw [clm_loc, loc_str, locW_option, sub_other (by decide +kernel) (by decide +kernel), hp, hq]
  rfl
theorem clm_none {r : Int} : clm r (.tuple [.str "none"]) = true := by
  rw [clm_loc, loc_str, locW_none, sub_other (by decide +kernel) (by decide +kernel)]
  rfl
theorem clm_capped {r : Int} {p q : PyData} (hp : clm r p = true) (hq : isAb q = true) : clm r (.tuple [.str "capped", p, q]) = true := by
  rw [clm_loc, loc_str, locW_capped, sub_capped, hq]
  simp [clmA, hp]
theorem clm_sum {r : Int} {cs : List PyData} (hl : 2 ≤ cs.length) (hc : ∀ c ∈ cs, clm r c = true) : clm r (.tuple [.str "sum", .tuple cs]) = true := by
  rw [clm_loc, loc_str, locW_sum, sub_sum, clmA_all, List.all_eq_true.mpr hc]
  show (decide (2 ≤ cs.length) && true) = true
  rw [decide_eq_true hl]
  rfl
def spClaim (K : PySem.W.Frag) (n : Nat) : Sp := fun vs H Q _ => ∃ (b : Addr) (mu : Addr → Prop) (r : Int) (md : Bool), vs = [.ref b, .int r, .int n, .bl md] ∧ 0 ≤ r ∧ r ≤ 6 ∧ mu b ∧ BagAt H b ∧ MuOk mu H ∧ ∀ v H' d, Cl r n d → Rel b H H' → Dt K mu H' v d → Q v H'
section
variable {P : Program} {w : World} {K : PySem.W.Frag} {mg : Str → Option Value} {base : Heap}
abbrev s_law_claim : Stmt := topS 24
theorem sc__law_claim : FnScope ["bag", "ranks", "deep", "may_due", "way", "many", "turn"] ["bag", "ranks", "deep", "may_due"] (defScope s_law_claim) := ⟨rfl, rfl, rfl, by decide +kernel, rfl, by decide +kernel, by decide +kernel⟩
theorem ok__law_claim {f : Addr} {fd : FuncData} {j n : Nat} {sp : Sp} (hj : 3 ≤ j) (hsp : n = 0 ∨ ∃ m, n = m + 1 ∧ sp = spClaim K m) (F : Fun K "_law_claim" "_law_claim" s_law_claim f fd) (B : Bt mg) (c__law_take : CalG P w K mg base 1 "_law_take" spTake) (c__law_number : CalG P w K mg base 3 "_law_number" (spNumE K))
    (c__law_claim : CalG P w K mg base j "_law_claim" sp) : FnG P w K mg base (j + 1) f fd ["bag", "ranks", "deep", "may_due"] (spClaim K n) := by
  refine Fun.okG F sc__law_claim (fun vs H Q E h => ?_) (fun cdv A outer s H vs Q E hg hr h => ?_)
  · obtain ⟨_, _, _, _, rfl, _⟩ := h
    rfl
  obtain ⟨b, mu, r, md, rfl, hr0, hr6, hmu, hb, hM, k⟩ := h
  refine ⟨_, (pss_cons (ps_set (i := 4) sc__law_claim.nd rfl (Or.inl rfl) (pc c__law_take hg hr (by omega) (by rfl) (pa_cons (pv 0) (pa_cons (pe_ifExp (pt_cmpR op_gt (pv 2) pe_int (nomark _)) pe_int pe_int) pa_nil))))
    (C8.pss_cut (ps_if (PW.pt (pw_and (pt_cmpR op_lt (pv 4) pe_int (nomark _)) (pw_and (pt_val (pv 3)) (pw_and1 (pt_cmpR op_gt (pv 1) pe_int (nomark _))))))
      (pss_one (ps_ret (pe_tup (pa_cons pe_str (pa_cons (pc c__law_take hg hr (by omega) (by rfl) (pa_cons (pv 0) (pa_cons (pv 1) pa_nil))) (pa_cons (pc c__law_number hg hr (by omega) (by rfl) (pa_cons (pv 0) (pa_cons pe_int pa_nil))) pa_nil))))))
      pss_nil)
    (pss_cons (ps_if (pt_cmpR op_lt (pv 4) pe_int (nomark _))
      (pss_one (ps_ret (pe_tup (pa_cons pe_str (pa_cons (pc c__law_number hg hr (by omega) (by rfl) (pa_cons (pv 0) (pa_cons pe_int pa_nil))) pa_nil)))))
      pss_nil)
    (pss_cons (ps_if (pt_cmpR op_eq (pv 4) pe_int (nomark _))
      (pss_one (ps_ret (pe_tup (pa_cons pe_str (pa_cons (pc c__law_number hg hr (by omega) (by rfl) (pa_cons (pv 0) (pa_cons pe_int pa_nil))) (pa_cons (pc c__law_number hg hr (by omega) (by rfl) (pa_cons (pv 0) (pa_cons pe_int pa_nil))) pa_nil))))))
      pss_nil)
    (pss_cons (ps_if (pt_cmpR op_eq (pv 4) pe_int (nomark _))
      (pss_one (ps_ret (pe_ifExp (pt_cmpR op_eq (pc c__law_take hg hr (by omega) (by rfl) (pa_cons (pv 0) (pa_cons pe_int pa_nil))) pe_int (nomark _)) (pe_tup (pa_cons pe_str pa_nil)) (pe_tup (pa_cons pe_str (pa_cons (pe_tup (pa_cons (pe_op op_add pe_int (pc c__law_take hg hr (by omega) (by rfl) (pa_cons (pv 0) (pa_cons pe_int pa_nil)))) (pa_cons pe_int pa_nil))) pa_nil))))))
      pss_nil)
    (pss_cons (ps_if (pt_cmpR op_eq (pv 4) pe_int (nomark _))
      (pss_one (ps_ret (pe_tup (pa_cons pe_str (pa_cons (pc c__law_claim hg hr (by omega) (by rfl) (pa_cons (pv 0) (pa_cons (pv 1) (pa_cons (pe_op op_sub (pv 2) pe_int) (pa_cons (pv 3) pa_nil))))) (pa_cons (pc c__law_number hg hr (by omega) (by rfl) (pa_cons (pv 0) (pa_cons pe_int pa_nil))) pa_nil))))))
      pss_nil)
    (pss_cons (ps_set (i := 5) sc__law_claim.nd rfl (Or.inl rfl) (pe_op op_add pe_int (pc c__law_take hg hr (by omega) (by rfl) (pa_cons (pv 0) (pa_cons pe_int pa_nil)))))
    (pss_one (ps_ret (pe_tup (pa_cons pe_str (pa_cons (pe_callTy call_tuple_of (by rfl) B.tuple bb_tuple (pa_cons (pe_lc (own := [("turn", 6)]) rfl sc__law_claim.nd (pi_range1 (by rfl) B.range (pa_cons (pv 5) pa_nil)) (blkOk_by (own := [("turn", 6)]) (N := ["bag", "ranks", "deep", "may_due", "way", "many", "turn"]) (sc := (defScope s_law_claim)) (by decide +kernel)) (fun _ _ _ _ _ => (pg_name (i := 6) sc__law_claim.nd rfl (Or.inl rfl))) (fun _ _ _ _ _ => pts_nil) (fun _ _ _ _ _ => (pc c__law_claim hg hr (by omega) (by rfl) (pa_cons (pv 0) (pa_cons (pv 1) (pa_cons (pe_op op_sub (pv 2) pe_int) (pa_cons (pv 3) pa_nil))))))) pa_nil)) pa_nil)))))))))))), ?_⟩
  have hw10 : ∃ m : Int, m = (if n = 0 then 7 else 10) := ⟨_, rfl⟩
  have fu : ∀ {G G' : Hp} {v2 : V} {d2 : PyData}, Dt K mu G v2 d2 → BagAt G b → Rel b G G' → Dt K mu G' v2 d2 := fun h hb R2 => h.fut (R2.fut hmu hb)
  have num : ∀ {G : Hp} {Q' : VK} {mo : Int}, Rel b H G → 0 < mo → mo ≤ 1000000 → (∀ v2 H2 d2, NumE d2 → Rel b G H2 → Dt K mu H2 v2 d2 → Q' v2 H2) → spNumE K [.ref b, .int mo] G Q' E0 := fun R h0 h1 q =>
    ⟨_, h0, h1, b, mu, rfl, hmu, R.bag, hM.rel R, fun v2 H2 d2 hd R2 hv _ => q v2 H2 d2 hd R2 hv⟩
  have leaf : ∀ {G : Hp} {ds : List PyData} {vs : List V} {p : Addr}, Rel b H G → G p = none → DtA K mu G vs ds → SdA 1 95 ds → clm r (.tuple ds) = true → leavesD (.tuple ds) = 1 → Q (.ref p) (upd G p (.tup vs)) := fun {G ds vs p} R np hA hs hc hL =>
    k (.ref p) _ (.tuple ds) ⟨hs.tup.mono (by omega) (wC_ge n), hc, ⟨ds, rfl⟩, (lw_leaf (n := n) hL hs.tup.wt).1, (lw_leaf hL hs.tup.wt).2⟩ (R.same (same_upd np)) (.tup (.inl upd_same) (hA.fut (.of_same (same_upd np))))
  have two : ∀ {w0 : Str} {d2 : PyData}, smD (.str w0) = true → w0.length ≤ 6 → Sd 1 43 d2 → SdA 1 95 [.str w0, d2] := fun h1 h2 h3 => .cons (w1 := 6) (w2 := 44) (sd_str h1 h2) (.cons (w1 := 43) (w2 := 0) h3 .nil (by decide)) (by decide)
  have three : ∀ {w0 : Str} {d1 d2 : PyData}, smD (.str w0) = true → w0.length ≤ 6 → Sd 1 43 d1 → Sd 1 43 d2 → SdA 1 95 [.str w0, d1, d2] := fun h1 h2 h3 h4 => .cons (w1 := 6) (w2 := 88) (sd_str h1 h2) (.cons (w1 := 43) (w2 := 44) h3 (.cons (w1 := 43) (w2 := 0) h4 .nil (by decide)) (by decide)) (by decide)
  refine ⟨_, rfl, _, rfl, _, _, rfl, rfl, _, rfl, ?_⟩
  refine iteP (fun hdp => ?_) fun hdp => ?_
  all_goals
    refine ⟨b, _, rfl, hb, by decide, by decide, fun way H1 w0 w1 R1 => ?_⟩
    have hb1 := R1.bag
    refine ⟨fun σ' H' => σ' = [some (.ref b), some (.int r), some (.int n), some (.bl md), some (.int way), none, none] ∧ H' = H1, ?_, ?_⟩
    · refine ⟨_, rfl, _, _, rfl, rfl, _, rfl, iteP (fun hw => ⟨_, rfl, _, rfl, iteB (fun hm => ⟨_, rfl, _, _, rfl, rfl, _, rfl, iteP (fun hrp => ?_) fun _ => ⟨rfl, rfl⟩⟩) fun _ => ⟨rfl, rfl⟩⟩) fun _ => ⟨rfl, rfl⟩⟩
      refine ⟨_, rfl, _, rfl, b, r, rfl, hb1, by omega, by omega, fun i H2 i0 i1 R2 => ?_⟩
      refine ⟨_, rfl, num (R1.trans R2) (by decide) (by decide) fun v2 H3 d2 hd R3 hv => ⟨by show 3 ≤ sizeLine; decide, fun p np => ?_⟩⟩
      exact leaf (ds := [.str "due", .int i, d2]) ((R1.trans R2).trans R3) np (.cons (.str _) (.cons (.int _) (.cons hv .nil))) (three (by decide +kernel) (by decide +kernel) ((sd_int (p := 1) (k := 3) (i := i) (by omega) (by decide)).mono (by decide) (by decide)) (sd_num hd).1) (clm_due i0 i1 (sd_num hd).2) (leaves_other (by decide +kernel) (by decide +kernel) _)
    rintro σ' H' ⟨rfl, rfl⟩
    refine ⟨_, rfl, _, _, rfl, rfl, _, rfl, iteP (fun hw2 => ?_) fun hw2 => ?_⟩
    · refine ⟨_, rfl, num R1 (by decide) (by decide) fun v2 H3 d2 hd R3 hv => ⟨by show 2 ≤ sizeLine; decide, fun p np => ?_⟩⟩
      exact leaf (ds := [.str "shares", d2]) (R1.trans R3) np (.cons (.str _) (.cons hv .nil)) (two (by decide +kernel) (by decide +kernel) (sd_num hd).1) (clm_shares (sd_num hd).2) (leaves_other (by decide +kernel) (by decide +kernel) _)
    refine ⟨_, rfl, rfl, _, rfl, iteEq (fun hw3 => ?_) fun hw3 => ?_⟩
    · refine ⟨_, rfl, num R1 (by decide) (by decide) fun v1 H2 d1 hd1 R2 hv1 => ?_⟩
      refine ⟨_, rfl, num (R1.trans R2) (by decide) (by decide) fun v2 H3 d2 hd R3 hv => ⟨by show 3 ≤ sizeLine; decide, fun p np => ?_⟩⟩
      exact leaf (ds := [.str "option", d1, d2]) ((R1.trans R2).trans R3) np (.cons (.str _) (.cons (fu hv1 R2.bag R3) (.cons hv .nil))) (three (by decide +kernel) (by decide +kernel) (sd_num hd1).1 (sd_num hd).1) (clm_option (sd_num hd1).2 (sd_num hd).2) (leaves_other (by decide +kernel) (by decide +kernel) _)
    refine ⟨_, rfl, rfl, _, rfl, iteEq (fun hw4 => ?_) fun hw4 => ?_⟩
    · refine ⟨_, rfl, b, 3, rfl, hb1, by decide, by decide, fun i H2 i0 i1 R2 => ⟨rfl, _, rfl, iteEq (fun _ => ?_) fun _ => ?_⟩⟩
      · refine ⟨by show 1 ≤ sizeLine; decide, fun p np => ?_⟩
        exact leaf (ds := [.str "none"]) (R1.trans R2) np (.cons (.str _) .nil) (.cons (w1 := 4) (w2 := 0) (sd_str (by decide +kernel) (by decide +kernel)) .nil (by decide)) clm_none (leaves_other (by decide +kernel) (by decide +kernel) _)
      · refine ⟨_, rfl, b, 2, rfl, R2.bag, by decide, by decide, fun i2 H3 i3 i4 R3 => ⟨_, _, rfl, rfl, by show 2 ≤ sizeLine; decide, fun q nq => ⟨by show 2 ≤ sizeLine; decide, fun p np => ?_⟩⟩⟩
        have hn : NumE (.tuple [.int (1 + i2), .int 1]) := ⟨⟨_, _, rfl, by omega, by omega, by decide, by decide, by unfold gI; simp⟩, Nat.le_trans (wt_pair (j := 2) (k := 1) (by omega) (by decide)) (by decide)⟩
        have sq := same_upd (o := .tup [.int (1 + i2), .int 1]) nq
        exact leaf (ds := [.str "shares", .tuple [.int (1 + i2), .int 1]]) (((R1.trans R2).trans R3).same sq) np (.cons (.str _) (.cons (.tup (.inl upd_same) (.cons (.int _) (.cons (.int _) .nil))) .nil)) (two (by decide +kernel) (by decide +kernel) (sd_num hn).1) (clm_shares (sd_num hn).2) (leaves_other (by decide +kernel) (by decide +kernel) _)
  · -- deeper
    obtain ⟨m, rfl, rfl⟩ : ∃ m, n = m + 1 ∧ sp = spClaim K m := by
      rcases hsp with h | h
      · omega
      · exact h
    have em : ((m + 1 : Nat) : Int) - 1 = (m : Nat) := by omega
    refine ⟨_, rfl, rfl, _, rfl, iteEq (fun hw5 => ?_) fun hw5 => ?_⟩
    · refine ⟨_, rfl, _, rfl, _, rfl, _, _, rfl, rfl, _, rfl, b, mu, r, md, congrArg (fun z => [V.ref b, V.int r, V.int z, V.bl md]) em, hr0, hr6, hmu, hb1, hM.rel R1, fun v1 H2 d1 hd1 R2 hv1 => ?_⟩
      refine ⟨_, rfl, num (R1.trans R2) (by decide) (by decide) fun v2 H3 d2 hd R3 hv => ⟨by show 3 ≤ sizeLine; decide, fun p np => ?_⟩⟩
      have sp2 := same_upd (o := .tup [.str "capped", v1, v2]) np
      have el : leavesD (.tuple [.str "capped", d1, d2]) = leavesD d1 := by
        show (if ("capped" : Str) = "capped" then leavesD d1 else 1) = _
        exact if_pos rfl
      refine k (.ref p) _ (.tuple [.str "capped", d1, d2]) ⟨?_, clm_capped hd1.clm (sd_num hd).2, ⟨_, rfl⟩, by rw [el]; exact hd1.l1, ?_⟩ (((R1.trans R2).trans R3).same sp2) (.tup (.inl upd_same) (.cons (.str _) (.cons ((fu hv1 R2.bag R3).fut (.of_same sp2)) (.cons (hv.fut (.of_same sp2)) .nil))))
      · exact (SdA.cons (p := 2 + 2 * m) (w1 := 6) (w2 := wC m + 1 + 44) (w := wC m + 52) (sd_str (by decide +kernel) (by decide +kernel)) (.cons (w1 := wC m) (w2 := 44) hd1.sd (.cons (w1 := 43) (w2 := 0) ((sd_num hd).1.mono (by omega) (Nat.le_refl _)) .nil (by decide)) (by omega)) (by omega)).tup.mono (by omega) (by show _ ≤ 3 * (wC m + 1) + 90; omega)
      · rw [el]
        have q1 := lw_more hd1.l1 hd1.lw
        have q2 := (sd_num hd).1.wt
        have q3 : ("capped" : Str).cps.size = 6 := by decide +kernel
        simp only [PyData.weight, PyData.weightAll, q3]
        omega
    · refine ⟨_, rfl, b, 2, rfl, hb1, by decide, by decide, fun i H2 i0 i1 R2 => ⟨_, _, rfl, rfl, ?_⟩⟩
      have R12 := R1.trans R2
      refine ⟨_, rfl, 2 + i, rfl, by omega, by omega, fun D nD => lc_it (walk_range (lo := 0) (n := (2 + i).toNat)) (fun i' H' => ∃ xs ds, H' D = some (.lst xs) ∧ DtA K (fun a => mu a ∨ a = D) H' xs ds ∧ ds.length = i' ∧ (∀ d ∈ ds, Cl r m d) ∧ Rel b H2 H') ⟨[], [], upd_same, .nil, rfl, (fun d h => nomatch h), Rel.of_same R2.bag (same_upd nD)⟩ (fun _ _ _ _ => True.intro) ?_ ?_⟩
      · rintro i' x' H3 H4 hi' ⟨xs, ds, hD, hA, hlen, hcl, R3⟩ ⟨rfl, hx'⟩
        have nDb : D ≠ b := fun z => by
          obtain ⟨_, _, _, _, _, q, _⟩ := R2.bag
          rw [z, q] at nD
          cases nD
        have mo : MuOk (fun a => mu a ∨ a = D) H4 := fun a h => by
          rcases h with h | rfl
          · exact (hM.rel (R12.trans R3)) a h
          · exact .inl (by rw [hD]; exact fun z => nomatch z)
        refine ⟨rfl, _, rfl, _, rfl, _, rfl, _, _, rfl, rfl, _, rfl, b, (fun a => mu a ∨ a = D), r, md, congrArg (fun z => [V.ref b, V.int r, V.int z, V.bl md]) em, hr0, hr6, .inl hmu, R3.bag, mo, fun v4 H5 d4 hd4 R4 hv4 => ?_⟩
        have hD5 := R4.keep _ _ nDb hD
        have f1 : Fut (fun a => mu a ∨ a = D) H4 H5 := R4.fut (.inl hmu) R3.bag
        have f2 : Fut (fun a => mu a ∨ a = D) H5 (upd H5 D (.lst (xs ++ [v4]))) := (fut_at hD5).mono fun a z => .inr z
        refine ⟨_, hD5, small1000 (by rw [hA.length]; omega), xs ++ [v4], ds ++ [d4], upd_same, ((hA.fut f1).fut f2).append (.cons (hv4.fut f2) .nil), by rw [List.length_append, hlen]; rfl, fun d hd => ?_, (R3.trans R4).at R2.bag nD⟩
        rcases List.mem_append.mp hd with hd | hd
        · exact hcl d hd
        · rw [List.mem_singleton.mp hd]
          exact hd4
      · rintro H3 ⟨xs, ds, hD, hA, hlen, hcl, R3⟩
        refine ⟨D, xs, rfl, .inl ⟨.inl (.inl hD), fun l nl => ⟨by show 2 ≤ sizeLine; decide, fun p np => ?_⟩⟩⟩
        have hA3 := hA.less (mv := mu) fun a z => .inl z
        have sl := same_upd (o := .tup xs) nl
        have sp2 := same_upd (o := .tup [.str "sum", .ref l]) np
        have hl2 : 2 ≤ ds.length := by omega
        have hl3 : ds.length ≤ 3 := by omega
        have el : leavesD (.tuple [.str "sum", .tuple ds]) = leavesA ds := by
          show (if ("sum" : Str) = "sum" then leavesA ds else 1) = _
          exact if_pos rfl
        obtain ⟨q1, q2⟩ := leaves_all (n := m) fun d hd => ⟨(hcl d hd).l1, (hcl d hd).lw⟩
        refine k (.ref p) _ (.tuple [.str "sum", .tuple ds]) ⟨?_, clm_sum hl2 (fun c hc => (hcl c hc).clm), ⟨_, rfl⟩, by rw [el]; omega, ?_⟩ ((((R12.trans R3).same sl).same sp2)) (.tup (.inl upd_same) (.cons (.str _) (.cons (.tup (.inl (sp2 _ _ upd_same)) ((hA3.fut (.of_same sl)).fut (.of_same sp2))) .nil)))
        · have hs := (SdA.all (p := 2 + 2 * m) (w1 := wC m) (m := 3) (fun d hd => (hcl d hd).sd) hl3).tup
          exact (SdA.cons (p := 2 + 2 * m + 1) (w1 := 3) (w2 := (wC m + 1) * 3 + 1) (w := (wC m + 1) * 3 + 5) (sd_str (by decide +kernel) (by decide +kernel)) (.cons (w1 := (wC m + 1) * 3) (w2 := 0) hs .nil (by omega)) (by omega)).tup.mono (by omega) (by show _ ≤ 3 * (wC m + 1) + 90; omega)
        · rw [el]
          have e : ((95 + 52 * ((m + 1 : Nat) : Int)) * leavesA ds) = (95 + 52 * m) * leavesA ds + 52 * leavesA ds := by
            rw [← Int.add_mul]
            congr 1
          rw [e]
          have q3 : ("sum" : Str).cps.size = 3 := by decide +kernel
          simp only [PyData.weight, PyData.weightAll, q3]
          omega
  · refine ⟨_, rfl, rfl, _, rfl, iteEq (fun hw5 => ?_) fun hw5 => ?_⟩
    · omega
    · omega
end
end K02
namespace K02
open PySem PySem.Spec PyProof.Rows L2 Sw StX RZ
theorem clm_tup {r : Int} {d : PyData} (h : clm r d = true) : ∃ w ps, d = .tuple (.str w :: ps) ∧ (w = "capped" → ∃ p q, ps = [p, q] ∧ clm r p = true) ∧ (w = "sum" → ∃ cs, ps = [.tuple cs] ∧ ∀ c ∈ cs, clm r c = true) := by
  obtain ⟨w, ps, rfl⟩ : ∃ w ps, d = .tuple (.str w :: ps) := by
    unfold clm at h
    split at h
    · exact ⟨_, _, rfl⟩
    · cases h
  refine ⟨w, ps, rfl, fun e => ?_, fun e => ?_⟩
  · subst e
    rw [clm_loc, loc_str, Bool.and_eq_true] at h
    match ps, h with
    | [], h => exact absurd (show decide (("capped" : Str) = "none") = true from h.1) (by decide +kernel)
    | [p], h => exact absurd h.1 (by
        have e1 : decide (("capped" : Str) = "shares") = false := by decide +kernel
        have e2 : decide (("capped" : Str) = "sum") = false := by decide +kernel
        simp [locW, e1, e2])
    | [p, q], h =>
      refine ⟨p, q, rfl, ?_⟩
      have := h.2
      rw [sub_capped] at this
      simpa [clmA] using this
    | _ :: _ :: _ :: _, h => exact absurd h.1 (by simp [locW])
  · subst e
    rw [clm_loc, loc_str, Bool.and_eq_true] at h
    match ps, h with
    | [], h => exact absurd (show decide (("sum" : Str) = "none") = true from h.1) (by decide +kernel)
    | [p], h =>
      rw [locW_sum] at h
      obtain ⟨cs, rfl⟩ : ∃ cs, p = .tuple cs := by
        cases p <;> first | exact ⟨_, rfl⟩ | exact absurd h.1 (fun z => nomatch z)
      refine ⟨cs, rfl, ?_⟩
      have := h.2
      rw [sub_sum, clmA_all, List.all_eq_true] at this
      exact this
    | [p, q], h => exact absurd h.1 (by
        have e1 : decide (("sum" : Str) = "due") = false := by decide +kernel
        have e2 : decide (("sum" : Str) = "option") = false := by decide +kernel
        have e3 : decide (("sum" : Str) = "capped") = false := by decide +kernel
        simp [locW, e1, e2, e3])
    | _ :: _ :: _ :: _, h => exact absurd h.1 (by simp [locW])
section
variable {P : Program} {w : World} {K : PySem.W.Frag} {mg : Str → Option Value} {base : Heap}
def spLeaves (K : PySem.W.Frag) (n : Nat) : Sp := fun vs H Q _ => ∃ (r : Int) (v : V) (mu : Addr → Prop) (d : PyData), vs = [v] ∧ Dt K mu H v d ∧ clm r d = true ∧ Ok d ∧ d.depth ≤ n ∧ ∀ H', Same H H' → Q (.int (leavesD d)) H'
abbrev s_law_leaves : Stmt := topS 27
theorem sc__law_leaves : FnScope ["claim", "one"] ["claim"] (defScope s_law_leaves) := ⟨rfl, rfl, rfl, by decide +kernel, rfl, by decide +kernel, by decide +kernel⟩
theorem ok__law_leaves {f : Addr} {fd : FuncData} {j N : Nat} {sp : Sp} (hsp : N = 0 ∨ ∃ m, N = m + 1 ∧ sp = spLeaves K m) (F : Fun K "_law_leaves" "_law_leaves" s_law_leaves f fd) (B : Bt mg) (TS : mg "sum" = none) (c__law_leaves : CalG P w K mg base j "_law_leaves" sp) : FnG P w K mg base (j + 1) f fd ["claim"] (spLeaves K N) := by
  refine Fun.okG F sc__law_leaves (fun vs H Q E h => ?_) (fun cdv A outer s H vs Q E hg hr h => ?_)
  · obtain ⟨_, _, _, _, rfl, _⟩ := h
    rfl
  obtain ⟨r, v, mu, d, rfl, hd, hc, ho, hdp, k⟩ := h
  refine ⟨_, (pss_cons (ps_if (pt_cmpR op_eq (pe_ix ix_tup (pv 0) pe_int (fun _ _ => rfl)) pe_str (nomark _))
      (pss_one (ps_ret (pc c__law_leaves hg hr (by omega) (by rfl) (pa_cons (pe_ix ix_tup (pv 0) pe_int (fun _ _ => rfl)) pa_nil))))
      pss_nil)
    (pss_one (ps_ret (pe_ifExp (pt_cmpR op_eq (pe_ix ix_tup (pv 0) pe_int (fun _ _ => rfl)) pe_str (nomark _)) (pe_callB (cr_sum rfl) (by rfl) TS bb_sum (pa_cons (pe_lc (own := [("one", 1)]) rfl sc__law_leaves.nd (pi_tup (pe_ix ix_tup (pv 0) pe_int (fun _ _ => rfl))) (blkOk_by (own := [("one", 1)]) (N := ["claim", "one"]) (sc := (defScope s_law_leaves)) (by decide +kernel)) (fun _ _ _ _ _ => (pg_name (i := 1) sc__law_leaves.nd rfl (Or.inl rfl))) (fun _ _ _ _ _ => pts_nil) (fun _ _ _ _ _ => (pc c__law_leaves hg hr (by omega) (by rfl) (pa_cons (pv 1) pa_nil)))) pa_nil)) pe_int)))), ?_⟩
  obtain ⟨w0, ps, rfl, h1, h2⟩ := clm_tup hc
  obtain ⟨a, xs, rfl, hS, hA⟩ := hd.tupAt
  have hl := hA.length
  have ddp : PyData.depthAll (.str w0 :: ps) + 1 ≤ N := by
    have e : (PyData.tuple (.str w0 :: ps)).depth = PyData.depthAll (.str w0 :: ps) + 1 := by simp [PyData.depth]
    omega
  obtain ⟨n, rfl, rfl⟩ : ∃ n, N = n + 1 ∧ sp = spLeaves K n := by
    rcases hsp with z | z
    · omega
    · exact z
  cases hA with
  | @cons x xs' dw _ hx hxs =>
  cases hx
  refine ⟨_, rfl, a, _, 0, _, rfl, rfl, hS, atI_nat (j := 0) rfl, rfl, _, rfl, iteP (fun e => ?_) fun e1 => ?_⟩
  · cases e
    obtain ⟨p, q, rfl, hp⟩ := h1 rfl
    obtain ⟨y, z, _, _, rfl, ee, r1, r2⟩ := hxs.two (by have := hxs.length; simpa using this)
    cases ee
    have dd : p.depth ≤ n := by
      have := depth_mem (d := p) (ds := [PyData.str "capped", p, q]) (by simp)
      omega
    have el : leavesD (.tuple [.str "capped", p, q]) = leavesD p := by
      show (if ("capped" : Str) = "capped" then leavesD p else 1) = _
      exact if_pos rfl
    rw [el] at k
    exact ⟨_, rfl, a, _, 1, y, rfl, rfl, hS, atI_nat (j := 1) rfl, r, y, mu, p, rfl, r1, hp, ho.inT (by simp), dd, k⟩
  · have n1 : w0 ≠ "capped" := fun z => e1 (by rw [z])
    refine ⟨_, rfl, a, _, 0, _, rfl, rfl, hS, atI_nat (j := 0) rfl, rfl, _, rfl, iteP (fun e => ?_) fun e2 => ?_⟩
    · cases e
      obtain ⟨cs, rfl, hcs⟩ := h2 rfl
      obtain ⟨y, _, rfl, ee, r1⟩ := hxs.one (by have := hxs.length; simpa using this)
      cases ee
      obtain ⟨a2, ys, rfl, hS2, hA2⟩ := r1.tupAt
      have hl2 := hA2.length
      have oc : Ok (.tuple cs) := ho.inT (by simp)
      have hw := len_wt cs
      have hw2 : PyData.weightAll cs ≤ 27000 := oc.wt
      have sl := sizeLine_eq
      have el : leavesD (.tuple [.str "sum", .tuple cs]) = (cs.map leavesD).sum := by
        rw [← leavesA_sum]
        show (if ("sum" : Str) = "sum" then leavesA cs else 1) = _
        exact if_pos rfl
      rw [el] at k
      refine ⟨_, rfl, a, _, 1, _, rfl, rfl, hS, atI_nat (j := 1) rfl, a2, rfl, ⟨ys, hS2⟩, fun D nD => lc_it (walk_tup (K := K) (xs := ys) (a := a2)) (fun i H' => Same H H' ∧ H' D = some (.lst (((cs.take i).map leavesD).map V.int))) ?_ (fun i H' _ h => h.1.seqT hS2) ?_ ?_⟩
      · exact ⟨same_upd nD, by rw [upd_same]; rfl⟩
      · rintro i x H2 H3 hi ⟨sm, hD⟩ ⟨rfl, hx2⟩
        obtain ⟨e, he, hxe⟩ := hA2.get hx2
        have hem := List.mem_of_getElem? he
        have ed : e.depth ≤ n := by
          have q1 := depth_mem hem
          have q2 := depth_mem (d := PyData.tuple cs) (ds := [PyData.str "sum", PyData.tuple cs]) (by simp)
          have q3 : (PyData.tuple cs).depth = PyData.depthAll cs + 1 := by simp [PyData.depth]
          omega
        refine ⟨rfl, _, rfl, r, x, mu, e, rfl, hxe.fut (.of_same sm), hcs e hem, oc.inT hem, ed, fun H4 s4 => ⟨_, s4 _ _ hD, ?_, fun b o z => ?_, ?_⟩⟩
        · rw [List.length_map, List.length_map, List.length_take]
          omega
        · rw [upd_ne (ne_of_none z nD)]
          exact s4 _ _ (sm b o z)
        · rw [upd_same, List.take_add_one, he, List.map_append, List.map_append]
          rfl
      · rintro H2 ⟨sm, hD⟩
        rw [List.take_of_length_le (by omega)] at hD
        exact ⟨D, cs.map leavesD, rfl, .inl (.inl hD), k H2 sm⟩
    · have n2 : w0 ≠ "sum" := fun z => e2 (by rw [z])
      have el : leavesD (.tuple (.str w0 :: ps)) = 1 := leaves_other n1 n2 ps
      rw [el] at k
      exact k H (.refl H)
end
end K02
namespace K02
open PySem PySem.Spec PyProof.Rows L2 Sw StX RZ
theorem wC_le : ∀ {n m : Nat}, n ≤ m → wC n ≤ wC m
  | n, 0, h => by
    have : n = 0 := by omega
    rw [this]
    exact Nat.le_refl _
  | n, m + 1, h => by
    by_cases e : n = m + 1
    · rw [e]
      exact Nat.le_refl _
    · have := wC_le (n := n) (m := m) (by omega)
      show wC n ≤ 3 * (wC m + 1) + 90
      omega
theorem Cl.mono {r : Int} {n m : Nat} {d : PyData} (h : Cl r n d) (hn : n ≤ m) : Cl r m d := ⟨h.sd.mono (by omega) (wC_le hn), h.clm, h.tup, h.l1, lw_mono hn h.l1 h.lw⟩
theorem Cl.isOk {r : Int} {n : Nat} {d : PyData} (h : Cl r n d) (hn : n ≤ 3) : Ok d := by
  have h2 := (h.mono hn).sd
  exact ⟨sm_ok h2.ok, Nat.le_trans h2.dp (by decide), Nat.le_trans h2.wt (by decide)⟩
def sh11 : PyData := .tuple [.str "shares", .tuple [.int 1, .int 1]]
theorem cl_sh11 {r : Int} {n : Nat} : Cl r n sh11 := by
  have hn : NumE (.tuple [.int 1, .int 1]) := ⟨⟨1, 1, rfl, by decide, by decide, by decide, by decide, by unfold gI; simp⟩, by decide +kernel⟩
  have h := (SdA.cons (w1 := 6) (w2 := 44) (w := 95) (sd_str (p := 1) (w := 6) (x := "shares") (by decide +kernel) (by decide +kernel)) (.cons (w1 := 43) (w2 := 0) (sd_num hn).1 .nil (by decide)) (by decide)).tup
  have q := lw_leaf (n := n) (leaves_other (w := "shares") (by decide +kernel) (by decide +kernel) _) h.wt
  exact ⟨h.mono (by omega) (wC_ge n), clm_shares (sd_num hn).2, ⟨_, rfl⟩, q.1, q.2⟩
theorem leavesA_app : ∀ xs ys : List PyData, leavesA (xs ++ ys) = leavesA xs + leavesA ys
  | [], ys => by
    show leavesA ys = 0 + leavesA ys
    omega
  | x :: xs, ys => by
    have := leavesA_app xs ys
    show leavesD x + leavesA (xs ++ ys) = (leavesD x + leavesA xs) + leavesA ys
    omega
theorem sh11_facts : leavesD sh11 = 1 ∧ sh11.weight = 12 := by
  refine ⟨leaves_other (w := "shares") (by decide +kernel) (by decide +kernel) _, by decide +kernel⟩
theorem wt_one (xs : List PyData) (x : PyData) : PyData.weightAll (xs ++ [x]) = PyData.weightAll xs + x.weight + 1 := by
  induction xs with
  | nil => simp [PyData.weightAll]
  | cons y ys ih =>
    simp only [List.cons_append, PyData.weightAll, ih]
    omega
/-- what is kept of the options: so many leaves in all, the others one share -/
def Kept (n : Nat) (left lf : Int) (es : List PyData) : Prop := ∃ rl : Int, 0 ≤ rl ∧ 0 ≤ lf ∧ rl + lf ≤ left ∧ rl ≤ leavesA es ∧ (PyData.weightAll es : Int) ≤ (95 + 52 * n) * rl + 13 * es.length
theorem Kept.real {n : Nat} {left lf : Int} {es : List PyData} {d : PyData} (h : Kept n left lf es) (hle : leavesD d ≤ lf) (h1 : 1 ≤ leavesD d) (hw : (d.weight : Int) ≤ (95 + 52 * n) * leavesD d) : Kept n left (if lf - leavesD d > 0 then lf - leavesD d else 0) (es ++ [d]) := by
  obtain ⟨rl, a1, a2, a3, a4, a5⟩ := h
  refine ⟨rl + leavesD d, by omega, by split <;> omega, by split <;> omega, ?_, ?_⟩
  · rw [leavesA_app]
    show _ ≤ leavesA es + (leavesD d + 0)
    omega
  · rw [wt_one, List.length_append, Int.mul_add]
    show ((_ : Nat) : Int) ≤ _ + 13 * ((es.length + 1 : Nat) : Int)
    omega
theorem Kept.other {n : Nat} {left lf l : Int} {es : List PyData} (h : Kept n left lf es) (hle : ¬ l ≤ lf) : Kept n left (if lf - l > 0 then lf - l else 0) (es ++ [sh11]) := by
  obtain ⟨rl, a1, a2, a3, a4, a5⟩ := h
  refine ⟨rl, by omega, by split <;> omega, by split <;> omega, ?_, ?_⟩
  · rw [leavesA_app]
    show _ ≤ leavesA es + (leavesD sh11 + 0)
    rw [sh11_facts.1]
    omega
  · rw [wt_one, List.length_append, sh11_facts.2]
    show ((_ : Nat) : Int) ≤ _ + 13 * ((es.length + 1 : Nat) : Int)
    omega
section
variable {P : Program} {w : World} {K : PySem.W.Frag} {mg : Str → Option Value} {base : Heap}
def spWithin (K : PySem.W.Frag) : Sp := fun vs H Q _ => ∃ (a : Addr) (xs : List V) (ds : List PyData) (mu : Addr → Prop) (r left : Int) (n : Nat), vs = [.ref a, .int left] ∧ 0 ≤ left ∧ SqT K H a xs ∧ DtA K mu H xs ds ∧ (∀ d ∈ ds, Cl r n d) ∧ n ≤ 3 ∧ ds.length ≤ 4 ∧
  ∀ p ys es H', Same H H' → SqT K H' p ys → DtA K mu H' ys es → es.length = ds.length → (∀ e ∈ es, e ∈ ds ∨ e = sh11) → (∃ lf, Kept n left lf es) → Q (.ref p) H'
abbrev s_law_within : Stmt := topS 28
theorem sc__law_within : FnScope ["options", "left", "found", "claim", "many"] ["options", "left"] (defScope s_law_within) := ⟨rfl, rfl, rfl, by decide +kernel, rfl, by decide +kernel, by decide +kernel⟩
theorem ok__law_within {f : Addr} {fd : FuncData} (F : Fun K "_law_within" "_law_within" s_law_within f fd) (B : Bt mg) (c__law_leaves : CalG P w K mg base 20 "_law_leaves" (spLeaves K 10)) : FnG P w K mg base 21 f fd ["options", "left"] (spWithin K) := by
  refine Fun.okG F sc__law_within (fun vs H Q E h => ?_) (fun cdv A outer s H vs Q E hg hr h => ?_)
  · obtain ⟨_, _, _, _, _, _, _, rfl, _⟩ := h
    rfl
  obtain ⟨a, xs, ds, mu, r, left, n, rfl, h0, hS, hA, hcl, hn, hl4, k⟩ := h
  refine ⟨_, (pss_cons (ps_set (i := 2) sc__law_within.nd rfl (Or.inl rfl) (pe_lst pa_nil))
    (pss_cons (ps_for PassesOwn.never rfl (pi_tup (pv 0)) (pg_name (i := 3) sc__law_within.nd rfl (Or.inl rfl))
      (pss_cons (ps_set (i := 4) sc__law_within.nd rfl (Or.inl rfl) (pc c__law_leaves hg hr (by decide) (by rfl) (pa_cons (pv 3) pa_nil)))
      (pss_cons (ps_expr (pe_bm PySem.F.plainAttrs_list PySem.F.slot_list_append PySem.F.type_list_append mt_append (pv 2) (pa_cons (pe_ifExp (pt_cmpR op_le (pv 4) (pv 1) (nomark _)) (pv 3) (pe_tup (pa_cons pe_str (pa_cons (pe_tup (pa_cons pe_int (pa_cons pe_int pa_nil))) pa_nil)))) pa_nil)))
      (pss_one (ps_set (i := 1) sc__law_within.nd rfl (Or.inl rfl) (pe_callB (call_max2 rfl) (by rfl) B.max bb_max (pa_cons pe_int (pa_cons (pe_op op_sub (pv 1) (pv 4)) pa_nil))))))))
    (pss_one (ps_ret (pe_callTy call_tuple_of (by rfl) B.tuple bb_tuple (pa_cons (pv 2) pa_nil)))))), ?_⟩
  have hl := hA.length
  refine ⟨Nat.zero_le _, fun Fd nF => ?_⟩
  have s0 := same_upd (o := .lst []) nF
  have fl : ∀ {H'' : Hp}, Same H H'' → True := fun _ => trivial
  refine ⟨_, rfl, a, rfl, ⟨xs, s0.seqT hS⟩, for_it (walk_tup (K := K) (xs := xs) (a := a)) (fun i σ H' => ∃ (lf : Int) (o3 o4 : Option V) (ys : List V) (es : List PyData), σ = [some (.ref a), some (.int lf), some (.ref Fd), o3, o4] ∧ Same H H' ∧ H' Fd = some (.lst ys) ∧ DtA K (fun z => mu z ∨ z = Fd) H' ys es ∧ es.length = i ∧ (∀ e ∈ es, e ∈ ds ∨ e = sh11) ∧ Kept n left lf es)
    ⟨left, _, _, [], [], rfl, s0, upd_same, .nil, rfl, (fun e h => nomatch h), 0, by omega, h0, by omega, by simp [leavesA], by simp [PyData.weightAll]⟩ (fun i σ H' _ h => by
      obtain ⟨_, _, _, _, _, _, sm, _⟩ := h
      exact sm.seqT hS) (fun i x σ H1 H2 hi h y => ?_) fun σ H1 h => ?_⟩
  · obtain ⟨lf, o3, o4, ys, es, rfl, sm, hF, hE, hel, hes, hk⟩ := h
    obtain ⟨rfl, hx⟩ := y
    obtain ⟨d, he, hxd⟩ := hA.get hx
    have hm := List.mem_of_getElem? he
    have c := hcl d hm
    have c3 := c.mono hn
    have od := c3.isOk (Nat.le_refl _)
    have dp8 := c3.sd.dp
    have hi4 : i < ds.length := by rw [← hl]; exact (List.getElem?_eq_some_iff.mp hx).1
    refine ⟨_, rfl, r, x, mu, d, rfl, hxd.fut (.of_same sm), c.clm, od, by omega, fun H3 s3 => ?_⟩
    have hF3 := s3 _ _ hF
    have sm3 := sm.trans s3
    have hE3 := hE.fut (.of_same s3)
    have HF : H Fd = none := nF
    have fin : ∀ (v : V) (e : PyData) (H4 : Hp), Same H3 H4 → Dt K (fun z => mu z ∨ z = Fd) H4 v e → (e ∈ ds ∨ e = sh11) → (upd H4 Fd (.lst (ys ++ [v]))) Fd = some (.lst (ys ++ [v])) ∧ Same H (upd H4 Fd (.lst (ys ++ [v]))) ∧ DtA K (fun z => mu z ∨ z = Fd) (upd H4 Fd (.lst (ys ++ [v]))) (ys ++ [v]) (es ++ [e]) ∧ (es ++ [e]).length = i + 1 ∧ ∀ e' ∈ es ++ [e], e' ∈ ds ∨ e' = sh11 := fun v e H4 s4 hv he4 => by
      have hF4 := s4 _ _ hF3
      have f4 : Fut (fun z => mu z ∨ z = Fd) H4 (upd H4 Fd (.lst (ys ++ [v]))) := (fut_at hF4).mono fun z h => .inr h
      refine ⟨upd_same, fun z o q => ?_, ((hE3.fut (.of_same s4)).fut f4).append (.cons (hv.fut f4) .nil), by rw [List.length_append, hel]; rfl, fun e' he' => ?_⟩
      · rw [upd_ne (ne_of_none q HF)]
        exact s4 _ _ (sm3 _ _ q)
      · rcases List.mem_append.mp he' with h | h
        · exact hes e' h
        · rw [List.mem_singleton.mp h]
          exact he4
    have yl : ys.length ≤ 4 := by rw [hE.length]; omega
    refine ⟨_, rfl, .inl ⟨rfl, _, .inl (.inl hF3)⟩, _, rfl, _, rfl, _, _, rfl, rfl, _, rfl, iteP (fun hle => ?_) fun hle => ?_⟩
    · obtain ⟨q1, q2, q3, q4, q5⟩ := fin x d H3 (.refl _) ((Dt.more HF hxd).fut (.of_same sm3)) (.inl hm)
      exact ⟨_, rfl, Fd, ys, x, rfl, rfl, hF3, small1000 (by omega), _, rfl, _, rfl, _, _, rfl, rfl, _, _, rfl, _, _, _, _, _, rfl, q2, q1, q3, q4, q5, hk.real hle c.l1 c.lw⟩
    · refine ⟨by show 2 ≤ sizeLine; decide, fun p1 np1 => ⟨by show 2 ≤ sizeLine; decide, fun p2 np2 => ?_⟩⟩
      have t1 := same_upd (o := .tup [.int 1, .int 1]) np1
      have t2 := same_upd (o := .tup [.str "shares", .ref p1]) np2
      have hv : Dt K (fun z => mu z ∨ z = Fd) (upd (upd H3 p1 (.tup [.int 1, .int 1])) p2 (.tup [.str "shares", .ref p1])) (.ref p2) sh11 := .tup (.inl upd_same) (.cons (.str _) (.cons (.tup (.inl (t2 _ _ upd_same)) (.cons (.int _) (.cons (.int _) .nil))) .nil))
      obtain ⟨q1, q2, q3, q4, q5⟩ := fin (.ref p2) sh11 _ (t1.trans t2) hv (.inr rfl)
      exact ⟨Fd, ys, .ref p2, rfl, rfl, (t1.trans t2) _ _ hF3, small1000 (by omega), _, rfl, _, rfl, _, _, rfl, rfl, _, _, rfl, _, _, _, _, _, rfl, q2, q1, q3, q4, q5, hk.other hle⟩
  · obtain ⟨lf, o3, o4, ys, es, rfl, sm, hF, hE, hel, hes, hk⟩ := h
    refine ⟨_, rfl, Fd, ys, rfl, .inl ⟨.inl (.inl hF), fun l nl => ?_⟩⟩
    have sl := same_upd (o := .tup ys) nl
    exact k l ys es _ (sm.trans sl) (.of upd_same) ((hE.less fun z h => .inl h).fut (.of_same sl)) (by omega) hes ⟨lf, hk⟩
end
end K02
namespace K02
open PySem PySem.Spec PyProof.Rows L2 Sw StX RZ
def spClaimA (K : PySem.W.Frag) : Sp := fun vs H Q E => ∃ n, n ≤ 3 ∧ spClaim K n vs H Q E
theorem claim_any {P : Program} {w : World} {K : PySem.W.Frag} {mg : Str → Option Value} {base : Heap} {k : Nat} {f : Addr} {fd : FuncData} {ps : List Str} (h : ∀ n, n ≤ 3 → FnG P w K mg base k f fd ps (spClaim K n)) : FnG P w K mg base k f fd ps (spClaimA K) :=
  ⟨fun vs H Q E ⟨n, hn, z⟩ => (h n hn).len vs H Q E z, fun g hr e0 hb hv ⟨n, hn, z⟩ => (h n hn).go g hr e0 hb hv z⟩
theorem dtA_set {K : PySem.W.Frag} {mu : Addr → Prop} {H : Hp} : ∀ {xs : List V} {ds : List PyData} {i : Nat} {v : V} {d : PyData}, DtA K mu H xs ds → Dt K mu H v d → DtA K mu H (xs.set i v) (ds.set i d)
  | _, _, _, _, _, .nil, _ => .nil
  | _, _, 0, _, _, .cons _ t, h => .cons h t
  | _, _, i + 1, _, _, .cons g t, h => .cons g (dtA_set t h)
theorem mem_set {α : Type} {l : List α} {i : Nat} {x y : α} (h : x ∈ l.set i y) : x = y ∨ x ∈ l := (List.mem_or_eq_of_mem_set h).symm
theorem ixN0 {n : Nat} (h : 0 < n) : ixN n 0 = some 0 := by
  unfold ixN
  rw [if_pos (by decide), if_pos (by omega)]
  rfl
theorem ixN1 {n : Nat} (h : 1 < n) : ixN n 1 = some 1 := by
  unfold ixN
  rw [if_pos (by decide), if_pos (by omega)]
  rfl
theorem cl_due {r i : Int} {n : Nat} (h0 : 0 ≤ i) (h1 : i < r) (h6 : r ≤ 6) : Cl r n (.tuple [.str "due", .int i, .tuple [.int 4, .int 1]]) := by
  have hn : NumE (.tuple [.int 4, .int 1]) := ⟨⟨4, 1, rfl, by decide, by decide, by decide, by decide, by unfold gI; simp⟩, by decide +kernel⟩
  have h := (SdA.cons (w1 := 3) (w2 := 48) (w := 95) (sd_str (p := 1) (w := 3) (x := "due") (by decide +kernel) (by decide +kernel)) (.cons (w1 := 3) (w2 := 44) ((sd_int (p := 1) (k := 3) (i := i) (by omega) (by decide))) (.cons (w1 := 43) (w2 := 0) (sd_num hn).1 .nil (by decide)) (by decide)) (by decide)).tup
  have q := lw_leaf (n := n) (leaves_other (w := "due") (by decide +kernel) (by decide +kernel) _) h.wt
  exact ⟨h.mono (by omega) (wC_ge n), clm_due h0 h1 (sd_num hn).2, ⟨_, rfl⟩, q.1, q.2⟩
theorem cl_sh {r t : Int} {n : Nat} (h0 : 0 ≤ t) (h1 : t < 2) : Cl r n (.tuple [.str "shares", .tuple [.int (1 + t), .int 1]]) := by
  have hn : NumE (.tuple [.int (1 + t), .int 1]) := ⟨⟨_, _, rfl, by omega, by omega, by decide, by decide, by unfold gI; simp⟩, Nat.le_trans (wt_pair (j := 2) (k := 1) (by omega) (by decide)) (by decide)⟩
  have h := (SdA.cons (w1 := 6) (w2 := 44) (w := 95) (sd_str (p := 1) (w := 6) (x := "shares") (by decide +kernel) (by decide +kernel)) (.cons (w1 := 43) (w2 := 0) (sd_num hn).1 .nil (by decide)) (by decide)).tup
  have q := lw_leaf (n := n) (leaves_other (w := "shares") (by decide +kernel) (by decide +kernel) _) h.wt
  exact ⟨h.mono (by omega) (wC_ge n), clm_shares (sd_num hn).2, ⟨_, rfl⟩, q.1, q.2⟩
section
variable {P : Program} {w : World} {K : PySem.W.Frag} {mg : Str → Option Value} {base : Heap}
def spOptions (K : PySem.W.Frag) : Sp := fun vs H Q _ => ∃ (b : Addr) (mu : Addr → Prop) (r : Int) (md : Bool), vs = [.ref b, .int r, .bl md] ∧ 0 ≤ r ∧ r ≤ 6 ∧ mu b ∧ BagAt H b ∧ MuOk mu H ∧ ∀ p ys ds H', 1 ≤ ds.length → ds.length ≤ 4 → (∀ d ∈ ds, Cl r 2 d) → Rel b H H' → SqT K H' p ys → DtA K mu H' ys ds → Q (.ref p) H'
abbrev s_law_options : Stmt := topS 25
theorem sc__law_options : FnScope ["bag", "ranks", "may_due", "many", "found", "turn"] ["bag", "ranks", "may_due"] (defScope s_law_options) := ⟨rfl, rfl, rfl, by decide +kernel, rfl, by decide +kernel, by decide +kernel⟩
theorem ok__law_options {f : Addr} {fd : FuncData} (F : Fun K "_law_options" "_law_options" s_law_options f fd) (B : Bt mg) (c__law_take : CalG P w K mg base 1 "_law_take" spTake) (c__law_some : CalG P w K mg base 2 "_law_some" spSome) (c__law_claim : CalG P w K mg base 7 "_law_claim" (spClaimA K)) : FnG P w K mg base 8 f fd ["bag", "ranks", "may_due"] (spOptions K) := by
  refine Fun.okG F sc__law_options (fun vs H Q E h => ?_) (fun cdv A outer s H vs Q E hg hr h => ?_)
  · obtain ⟨_, _, _, _, rfl, _⟩ := h
    rfl
  obtain ⟨b, mu, r, md, rfl, hr0, hr6, hmu, hb, hM, k⟩ := h
  refine ⟨_, (pss_cons (ps_set (i := 3) sc__law_options.nd rfl (Or.inl rfl) (pc c__law_some hg hr (by decide) (by rfl) (pa_cons (pv 0) (pa_cons (pe_lst (pa_cons pe_int (pa_cons pe_int (pa_cons pe_int (pa_cons pe_int (pa_cons pe_int (pa_cons pe_int pa_nil))))))) pa_nil))))
    (pss_cons (ps_setLc (i := 4) (own := [("turn", 5)]) rfl sc__law_options.nd rfl rfl (sw_true rfl rfl rfl (by decide +kernel)) (pi_range1 (by rfl) B.range (pa_cons (pv 3) pa_nil)) (blkOk_by (own := [("turn", 5)]) (N := ["bag", "ranks", "may_due", "many", "found", "turn"]) (sc := (defScope s_law_options)) (by decide +kernel)) (fun _ _ _ _ _ => (pg_name (i := 5) sc__law_options.nd rfl (Or.inl rfl))) (fun _ _ _ _ _ => pts_nil) (fun _ _ _ _ _ => (pc c__law_claim hg hr (by decide) (by rfl) (pa_cons (pv 0) (pa_cons (pv 1) (pa_cons (pe_op op_add pe_int (pc c__law_take hg hr (by decide) (by rfl) (pa_cons (pv 0) (pa_cons pe_int pa_nil)))) (pa_cons (pv 2) pa_nil)))))))
    (C8.pss_cut (ps_if (PW.pt (pw_and (pt_cmpR op_gt (pv 3) pe_int (nomark _)) (pw_and (pt_val (pv 2)) (pw_and (pt_cmpR op_gt (pv 1) pe_int (nomark _)) (pw_and1 (pt_cmpR op_eq (pc c__law_take hg hr (by decide) (by rfl) (pa_cons (pv 0) (pa_cons pe_int pa_nil))) pe_int (nomark _)))))))
      (pss_one (ps_asg (pe_tup (pa_cons (pe_tup (pa_cons pe_str (pa_cons (pc c__law_take hg hr (by decide) (by rfl) (pa_cons (pv 0) (pa_cons (pv 1) pa_nil))) (pa_cons (pe_tup (pa_cons pe_int (pa_cons pe_int pa_nil))) pa_nil)))) (pa_cons (pe_tup (pa_cons pe_str (pa_cons (pe_tup (pa_cons (pe_op op_add pe_int (pc c__law_take hg hr (by decide) (by rfl) (pa_cons (pv 0) (pa_cons pe_int pa_nil)))) (pa_cons pe_int pa_nil))) pa_nil))) pa_nil))) (pg_tup (n := 2) rfl (pgs_cons (pg_sub (pv 4) pe_int set_list) (pgs_cons (pg_sub (pv 4) pe_int set_list) pgs_nil)))))
      pss_nil)
    (pss_one (ps_ret (pe_callTy call_tuple_of (by rfl) B.tuple bb_tuple (pa_cons (pv 4) pa_nil))))))), ?_⟩
  have nbp : ∀ {H : Hp} {p : Addr}, BagAt H b → H p = none → p ≠ b := fun {H p} hb np z => by
    obtain ⟨_, _, _, _, _, q, _⟩ := hb
    rw [z, q] at np
    cases np
  refine gv_some (K := K) (mu := mu) (D := fun d => ∃ j : Int, d = .int j ∧ 1 ≤ j ∧ j ≤ 4) (n := 6) hmu rfl (gvA_cons hmu (Sw.ge_int.gv ⟨2, rfl, by decide, by decide⟩) (gvA_cons hmu (Sw.ge_int.gv ⟨1, rfl, by decide, by decide⟩) (gvA_cons hmu (Sw.ge_int.gv ⟨2, rfl, by decide, by decide⟩) (gvA_cons hmu (Sw.ge_int.gv ⟨3, rfl, by decide, by decide⟩) (gvA_cons hmu (Sw.ge_int.gv ⟨4, rfl, by decide, by decide⟩) (gvA_cons hmu (Sw.ge_int.gv ⟨2, rfl, by decide, by decide⟩) gvA_nil)))))) (by decide) (by decide) H (.refl hb) hM _ fun vm H1 dm hdm R1 hvm _ => ?_
  obtain ⟨many, rfl, m0, m1⟩ := hdm
  cases hvm
  have hb1 := R1.bag
  refine ⟨_, rfl, many, rfl, by omega, by omega, fun D nD => ?_⟩
  have nDb := nbp hb1 nD
  refine lc_it (walk_range (lo := 0) (n := many.toNat)) (fun i' H' => ∃ xs ds, H' D = some (.lst xs) ∧ DtA K (fun a => mu a ∨ a = D) H' xs ds ∧ ds.length = i' ∧ (∀ d ∈ ds, Cl r 2 d) ∧ Rel b H1 H') ⟨[], [], upd_same, .nil, rfl, (fun d h => nomatch h), Rel.of_same hb1 (same_upd nD)⟩ (fun _ _ _ _ => True.intro) ?_ ?_
  · rintro i' x' H3 H4 hi' ⟨xs, ds, hD, hA, hlen, hcl, R3⟩ ⟨rfl, hx'⟩
    refine ⟨rfl, _, rfl, _, rfl, _, rfl, b, 2, rfl, R3.bag, by decide, by decide, fun t Ht t0 t1 Rt => ⟨_, _, rfl, rfl, _, rfl, t.toNat + 1, by omega, b, (fun a => mu a ∨ a = D), r, md, congrArg (fun z => [V.ref b, V.int r, V.int z, V.bl md]) (by omega), hr0, hr6, .inl hmu, Rt.bag, ?_, fun v5 H5 d5 hd5 R5 hv5 => ?_⟩⟩
    · intro a h
      rcases h with h | rfl
      · exact ((hM.rel R1).rel (R3.trans Rt)) a h
      · exact .inl (by rw [Rt.keep _ _ nDb hD]; exact fun z => nomatch z)
    have hDt := Rt.keep _ _ nDb hD
    have hD5 := R5.keep _ _ nDb hDt
    have f1 : Fut (fun a => mu a ∨ a = D) H4 H5 := (Rt.trans R5).fut (.inl hmu) R3.bag
    have f2 : Fut (fun a => mu a ∨ a = D) H5 (upd H5 D (.lst (xs ++ [v5]))) := (fut_at hD5).mono fun a z => .inr z
    refine ⟨_, hD5, small1000 (by rw [hA.length]; omega), xs ++ [v5], ds ++ [d5], upd_same, ((hA.fut f1).fut f2).append (.cons (hv5.fut f2) .nil), by rw [List.length_append, hlen]; rfl, fun d hd => ?_, ((R3.trans Rt).trans R5).at hb1 nD⟩
    rcases List.mem_append.mp hd with hd | hd
    · exact hcl d hd
    · rw [List.mem_singleton.mp hd]
      exact hd5.mono (by omega)
  rintro H3 ⟨xs, ds, hD, hA, hlen, hcl, R3⟩
  have hxl := hA.length
  refine ⟨fun σ' H' => ∃ xs ds, σ' = [some (.ref b), some (.int r), some (.bl md), some (.int many), some (.ref D), none] ∧ H' D = some (.lst xs) ∧ DtA K (fun a => mu a ∨ a = D) H' xs ds ∧ ds.length = many.toNat ∧ (∀ d ∈ ds, Cl r 2 d) ∧ Rel b H1 H', ?_, ?_⟩
  · have stay : ∀ H4, Rel b H3 H4 → ∃ xs ds, [some (V.ref b), some (V.int r), some (V.bl md), some (V.int many), some (V.ref D), none] = [some (.ref b), some (.int r), some (.bl md), some (.int many), some (.ref D), none] ∧ H4 D = some (.lst xs) ∧ DtA K (fun a => mu a ∨ a = D) H4 xs ds ∧ ds.length = many.toNat ∧ (∀ d ∈ ds, Cl r 2 d) ∧ Rel b H1 H4 := fun H4 R4 =>
      ⟨xs, ds, rfl, R4.keep _ _ nDb hD, hA.fut (R4.fut (.inl hmu) R3.bag), hlen, hcl, R3.trans R4⟩
    have s0 := stay H3 (.refl R3.bag)
    refine ⟨_, rfl, _, _, rfl, rfl, _, rfl, iteP (fun hm2 => ⟨_, rfl, _, rfl, iteB (fun hmd => ⟨_, rfl, _, _, rfl, rfl, _, rfl, iteP (fun hrp => ?_) fun _ => s0⟩) fun _ => s0⟩) fun _ => s0⟩
    refine ⟨_, rfl, b, 3, rfl, R3.bag, by decide, by decide, fun z H4 z0 z1 R4 => ⟨rfl, _, rfl, iteEq (fun _ => ?_) fun _ => stay H4 R4⟩⟩
    refine ⟨_, rfl, _, rfl, b, r, rfl, R4.bag, by omega, by omega, fun i H5 i0 i1 R5 => ⟨by show 2 ≤ sizeLine; decide, fun p1 np1 => ⟨by show 3 ≤ sizeLine; decide, fun p2 np2 => ?_⟩⟩⟩
    have t1 := same_upd (o := .tup [.int 4, .int 1]) np1
    have t2 := same_upd (o := .tup [.str "due", .int i, .ref p1]) np2
    have hv2 : Dt K (fun a => mu a ∨ a = D) (upd (upd H5 p1 (.tup [.int 4, .int 1])) p2 (.tup [.str "due", .int i, .ref p1])) (.ref p2) (.tuple [.str "due", .int i, .tuple [.int 4, .int 1]]) := .tup (.inl upd_same) (.cons (.str _) (.cons (.int _) (.cons (.tup (.inl (t2 _ _ upd_same)) (.cons (.int _) (.cons (.int _) .nil))) .nil)))
    have R6 := ((R4.trans R5).same t1).same t2
    revert hv2 R6
    generalize upd (upd H5 p1 (.tup [.int 4, .int 1])) p2 (.tup [.str "due", .int i, .ref p1]) = H6
    intro hv2 R6
    refine ⟨_, rfl, b, 2, rfl, R6.bag, by decide, by decide, fun t H7 t0 t1' R7 => ⟨_, _, rfl, rfl, by show 2 ≤ sizeLine; decide, fun p3 np3 => ⟨by show 2 ≤ sizeLine; decide, fun p4 np4 => ⟨by show 2 ≤ sizeLine; decide, fun p5 np5 => ?_⟩⟩⟩⟩
    have t3 := same_upd (o := .tup [.int (1 + t), .int 1]) np3
    have t4 := same_upd (o := .tup [.str "shares", .ref p3]) np4
    have t5 := same_upd (o := .tup [.ref p2, .ref p4]) np5
    have hv4 : Dt K (fun a => mu a ∨ a = D) (upd (upd (upd H7 p3 (.tup [.int (1 + t), .int 1])) p4 (.tup [.str "shares", .ref p3])) p5 (.tup [.ref p2, .ref p4])) (.ref p4) (.tuple [.str "shares", .tuple [.int (1 + t), .int 1]]) := .tup (.inl (t5 _ _ upd_same)) (.cons (.str _) (.cons (.tup (.inl ((t4.trans t5) _ _ upd_same)) (.cons (.int _) (.cons (.int _) .nil))) .nil))
    have hT : SqT K (upd (upd (upd H7 p3 (.tup [.int (1 + t), .int 1])) p4 (.tup [.str "shares", .ref p3])) p5 (.tup [.ref p2, .ref p4])) p5 [.ref p2, .ref p4] := .of upd_same
    have R78 := ((R7.same t3).same t4).same t5
    have hv2' := hv2.fut (R78.fut (mu := fun a => mu a ∨ a = D) (.inl hmu) R6.bag)
    have R8 := R6.trans R78
    revert hv4 hT R8 hv2'
    generalize upd (upd (upd H7 p3 (.tup [.int (1 + t), .int 1])) p4 (.tup [.str "shares", .ref p3])) p5 (.tup [.ref p2, .ref p4]) = H8
    intro hv4 hT hv2' R8
    have hD8 := R8.keep _ _ nDb hD
    have hA8 := hA.fut (R8.fut (mu := fun a => mu a ∨ a = D) (.inl hmu) R3.bag)
    have f8 : Fut (fun a => mu a ∨ a = D) H8 (upd (upd H8 D (.lst (xs.set 0 (.ref p2)))) D (.lst ((xs.set 0 (.ref p2)).set 1 (.ref p4)))) := fun a o e h => ((fut_at hD8).mono fun a z => .inr z : Fut (fun a => mu a ∨ a = D) H8 (upd H8 D (.lst (xs.set 0 (.ref p2))))).trans ((fut_at upd_same).mono fun a z => .inr z) a o e h
    refine ⟨p5, _, rfl, hT, rfl, _, _, rfl, _, rfl, D, _, 0, 0, rfl, rfl, hD8, ixN0 (by omega), _, _, rfl, _, rfl, D, _, 1, 1, rfl, rfl, upd_same, ixN1 (by rw [List.length_set]; omega), rfl, _, (ds.set 0 _).set 1 _, rfl, upd_same, dtA_set (dtA_set (hA8.fut f8) (hv2'.fut f8)) (hv4.fut f8), by rw [List.length_set, List.length_set]; exact hlen, fun d hd => ?_, ?_⟩
    · rcases mem_set hd with rfl | hd
      · exact cl_sh t0 t1'
      · rcases mem_set hd with rfl | hd
        · exact cl_due i0 i1 hr6
        · exact hcl d hd
    · exact ((R3.trans R8).at hb1 nD).at hb1 nD
  · rintro σ' H4 ⟨xs, ds, rfl, hD, hA, hlen, hcl, R4⟩
    refine ⟨_, rfl, D, xs, rfl, .inl ⟨.inl (.inl hD), fun l nl => ?_⟩⟩
    have sl := same_upd (o := .tup xs) nl
    exact k l xs ds _ (by omega) (by omega) hcl ((R1.trans R4).same sl) (.of upd_same) ((hA.less fun z h => .inl h).fut (.of_same sl))
end
end K02
namespace K02
open PySem PySem.Spec PyProof.Rows L2 Sw StX RZ
section
variable {P : Program} {w : World} {K : PySem.W.Frag} {mg : Str → Option Value} {base : Heap}
def spMixed : Sp := fun vs H Q _ => ∃ (b t : Addr) (us : List V), vs = [.ref b, .ref t] ∧ BagAt H b ∧ t ≠ b ∧ H t = some (.lst us) ∧ us.length ≤ 100 ∧ ∀ (p : Addr) (H' : Hp) (zs : List V), Rel b H H' → H' p = some (.lst zs) → H p = none → zs.Perm us → Q (.ref p) H'
abbrev s_law_mixed : Stmt := topS 19
theorem sc__law_mixed : FnScope ["bag", "things", "found", "thing"] ["bag", "things"] (defScope s_law_mixed) := ⟨rfl, rfl, rfl, by decide +kernel, rfl, by decide +kernel, by decide +kernel⟩
theorem ok__law_mixed {f : Addr} {fd : FuncData} (F : Fun K "_law_mixed" "_law_mixed" s_law_mixed f fd) (B : Bt mg) (c__law_take : CalG P w K mg base 1 "_law_take" spTake) : FnG P w K mg base 2 f fd ["bag", "things"] spMixed := by
  refine Fun.okG F sc__law_mixed (fun vs H Q E h => ?_) (fun cdv A outer s H vs Q E hg hr h => ?_)
  · obtain ⟨_, _, _, rfl, _⟩ := h
    rfl
  obtain ⟨b, t, us, rfl, hb, htb, ht, hl, k⟩ := h
  refine ⟨_, (pss_cons (ps_set (i := 2) sc__law_mixed.nd rfl (Or.inl rfl) (pe_lst pa_nil))
    (pss_cons (ps_for PassesOwn.never rfl (pi_list (pv 1)) (pg_name (i := 3) sc__law_mixed.nd rfl (Or.inl rfl))
      (pss_one (ps_expr (pe_bm PySem.F.plainAttrs_list PySem.F.slot_list_insert PySem.F.type_list_insert mt_insert (pv 2) (pa_cons (pc c__law_take hg hr (by decide) (by rfl) (pa_cons (pv 0) (pa_cons (pe_op op_add (pe_callB call_lenA (by rfl) B.len boot_len (pa_cons (pv 2) pa_nil)) pe_int) pa_nil))) (pa_cons (pv 3) pa_nil))))))
    (pss_one (ps_ret (pv 2))))), ?_⟩
  refine ⟨Nat.zero_le _, fun p np => ?_⟩
  have npb : p ≠ b := fun z => by
    obtain ⟨_, _, _, _, _, q, _⟩ := hb
    rw [z, q] at np
    cases np
  have npt : t ≠ p := ne_of_none ht np
  obtain ⟨x0, y0, z0, l0, cs0, hb0, hl0, _⟩ := id hb
  have hL0 : BagL H b l0 := ⟨_, _, _, hb0⟩
  refine ⟨_, rfl, t, rfl, ⟨_, .inl (.inl (same_upd np _ _ ht))⟩, for_it (walk_list (K := K) (xs := us) (a := t)) (fun i σ H' => ∃ (o : Option V) (zs : List V), σ = [some (.ref b), some (.ref t), some (.ref p), o] ∧ Rel b H H' ∧ H' p = some (.lst (zs)) ∧ zs.Perm (us.take i))
    ⟨none, [], rfl, .of_same hb (same_upd np), upd_same, .refl _⟩ (fun i σ H' _ h => by
      obtain ⟨_, _, _, R, _⟩ := h
      exact .inl (.inl (R.keep _ _ htb ht))) (fun i x σ H1 H2 hi h y => ?_) fun σ H1 h => ?_⟩
  · obtain ⟨o, zs, rfl, R, hp, hz⟩ := h
    obtain ⟨rfl, hx⟩ := y
    have hx : us[i]? = some x := hx
    have hi : i < us.length := hi
    have hzl : zs.length = i := by rw [hz.length_eq, List.length_take]; omega
    refine ⟨_, rfl, .inl ⟨rfl, _, .inl (.inl hp)⟩, _, rfl, _, rfl, _, (zs).length, rfl, .inl ⟨_, .inl (.inl hp), rfl⟩, _, _, rfl, rfl, b, _, rfl, R.bag, by omega, by omega, fun c H3 c0 c1 R3 => ?_⟩
    have hp3 := R3.keep _ _ npb hp
    refine ⟨_, rfl, p, _, c, _, rfl, rfl, hp3, small1000 (by omega), c0, by omega, ?_⟩
    obtain ⟨cn, rfl⟩ : ∃ cn : Nat, c = (cn : Int) := ⟨c.toNat, by omega⟩
    rw [Int.toNat_natCast]
    refine ⟨_, zs.take cn ++ [x] ++ zs.drop cn, rfl, ?_, ?_, ?_⟩
    · have R13 := R.trans R3
      refine ⟨fun a u n e => ?_, fun l hL => ?_, ?_⟩
      · rw [upd_ne (ne_of_none e np)]
        exact R13.keep a u n e
      · obtain ⟨x, y, z, e⟩ := R13.cell l hL
        exact ⟨x, y, z, by rw [upd_ne npb.symm]; exact e⟩
      · obtain ⟨x, y, z, l, cs, q1, q2, q3, q4⟩ := R13.bag
        by_cases e : l = p
        · exfalso
          have el : l0 = l := (R13.cell l0 hL0).eq q1
          rw [el, e, np] at hl0
          cases hl0
        · exact ⟨x, y, z, l, cs, by rw [upd_ne npb.symm]; exact q1, by rw [upd_ne e]; exact q2, q3, q4⟩
    · rw [upd_same]
    · rw [List.take_add_one, hx]
      show (zs.take cn ++ [x] ++ zs.drop cn).Perm (us.take i ++ [x])
      have h1 : (zs.take cn ++ [x] ++ zs.drop cn).Perm ([x] ++ zs.take cn ++ zs.drop cn) := (List.perm_append_comm).append_right _
      have h2 : ([x] ++ zs.take cn ++ zs.drop cn) = [x] ++ zs := by rw [List.append_assoc, List.take_append_drop]
      rw [h2] at h1
      exact h1.trans ((List.perm_append_comm).trans (hz.append_right _))
  · obtain ⟨o, zs, rfl, R, hp, hz⟩ := h
    rw [List.take_length] at hz
    exact ⟨_, rfl, k p _ zs R hp np hz⟩
abbrev s_law_firm_options : Stmt := topS 26
theorem sc__law_firm_options : FnScope ["bag", "ranks", "may_due", "turn"] ["bag", "ranks", "may_due"] (defScope s_law_firm_options) := ⟨rfl, rfl, rfl, by decide +kernel, rfl, by decide +kernel, by decide +kernel⟩
theorem ok__law_firm_options {f : Addr} {fd : FuncData} (F : Fun K "_law_firm_options" "_law_firm_options" s_law_firm_options f fd) (B : Bt mg) (c__law_take : CalG P w K mg base 1 "_law_take" spTake) (c__law_claim : CalG P w K mg base 7 "_law_claim" (spClaimA K)) : FnG P w K mg base 8 f fd ["bag", "ranks", "may_due"] (spOptions K) := by
  refine Fun.okG F sc__law_firm_options (fun vs H Q E h => ?_) (fun cdv A outer s H vs Q E hg hr h => ?_)
  · obtain ⟨_, _, _, _, rfl, _⟩ := h
    rfl
  obtain ⟨b, mu, r, md, rfl, hr0, hr6, hmu, hb, hM, k⟩ := h
  refine ⟨_, (pss_one (ps_ret (pe_callTy call_tuple_of (by rfl) B.tuple bb_tuple (pa_cons (pe_lc (own := [("turn", 3)]) rfl sc__law_firm_options.nd (pi_range1 (by rfl) B.range (pa_cons (pe_op op_add pe_int (pc c__law_take hg hr (by decide) (by rfl) (pa_cons (pv 0) (pa_cons pe_int pa_nil)))) pa_nil)) (blkOk_by (own := [("turn", 3)]) (N := ["bag", "ranks", "may_due", "turn"]) (sc := (defScope s_law_firm_options)) (by decide +kernel)) (fun _ _ _ _ _ => (pg_name (i := 3) sc__law_firm_options.nd rfl (Or.inl rfl))) (fun _ _ _ _ _ => pts_nil) (fun _ _ _ _ _ => (pc c__law_claim hg hr (by decide) (by rfl) (pa_cons (pv 0) (pa_cons (pv 1) (pa_cons pe_int (pa_cons (pv 2) pa_nil))))))) pa_nil)))), ?_⟩
  have nbp : ∀ {H : Hp} {p : Addr}, BagAt H b → H p = none → p ≠ b := fun {H p} hb np z => by
    obtain ⟨_, _, _, _, _, q, _⟩ := hb
    rw [z, q] at np
    cases np
  refine ⟨_, rfl, b, 2, rfl, hb, by decide, by decide, fun t H1 t0 t1 R1 => ⟨_, _, rfl, rfl, 1 + t, rfl, by omega, by omega, fun D nD => ?_⟩⟩
  have hb1 := R1.bag
  have nDb := nbp hb1 nD
  refine lc_it (walk_range (lo := 0) (n := (1 + t).toNat)) (fun i' H' => ∃ xs ds, H' D = some (.lst xs) ∧ DtA K (fun a => mu a ∨ a = D) H' xs ds ∧ ds.length = i' ∧ (∀ d ∈ ds, Cl r 2 d) ∧ Rel b H1 H') ⟨[], [], upd_same, .nil, rfl, (fun d h => nomatch h), Rel.of_same hb1 (same_upd nD)⟩ (fun _ _ _ _ => True.intro) ?_ ?_
  · rintro i' x' H3 H4 hi' ⟨xs, ds, hD, hA, hlen, hcl, R3⟩ ⟨rfl, hx'⟩
    refine ⟨rfl, _, rfl, _, rfl, _, rfl, 1, by decide, b, (fun a => mu a ∨ a = D), r, md, rfl, hr0, hr6, .inl hmu, R3.bag, ?_, fun v5 H5 d5 hd5 R5 hv5 => ?_⟩
    · intro a h
      rcases h with h | rfl
      · exact ((hM.rel R1).rel R3) a h
      · exact .inl (by rw [hD]; exact fun z => nomatch z)
    have hD5 := R5.keep _ _ nDb hD
    have f1 : Fut (fun a => mu a ∨ a = D) H4 H5 := R5.fut (.inl hmu) R3.bag
    have f2 : Fut (fun a => mu a ∨ a = D) H5 (upd H5 D (.lst (xs ++ [v5]))) := (fut_at hD5).mono fun a z => .inr z
    refine ⟨_, hD5, small1000 (by rw [hA.length]; omega), xs ++ [v5], ds ++ [d5], upd_same, ((hA.fut f1).fut f2).append (.cons (hv5.fut f2) .nil), by rw [List.length_append, hlen]; rfl, fun d hd => ?_, (R3.trans R5).at hb1 nD⟩
    rcases List.mem_append.mp hd with hd | hd
    · exact hcl d hd
    · rw [List.mem_singleton.mp hd]
      exact hd5.mono (by omega)
  rintro H3 ⟨xs, ds, hD, hA, hlen, hcl, R3⟩
  refine ⟨D, xs, rfl, .inl ⟨.inl (.inl hD), fun l nl => ?_⟩⟩
  have sl := same_upd (o := .tup xs) nl
  exact k l xs ds _ (by omega) (by omega) hcl ((R1.trans R3).same sl) (.of upd_same) ((hA.less fun z h => .inl h).fut (.of_same sl))
end
end K02
namespace K02
open PySem PySem.Spec PyProof.Rows L2 Sw StX RZ
/-- texts in order, not after -/
def leS (x y : Str) : Prop := x.cps.toList ≤ y.cps.toList
theorem str_ext {x y : Str} (h : x.cps.toList = y.cps.toList) : x = y := by
  cases x; cases y
  simp only [Str.mk.injEq]
  exact Array.toList_inj.mp h
theorem leS_trans {x y z : Str} (a : leS x y) (b : leS y z) : leS x z := List.le_trans a b
theorem leS_anti {x y : Str} (a : leS x y) (b : leS y x) : x = y := str_ext (List.le_antisymm a b)
theorem leS_rising {p x : Str} (h : (!ltCps x.cps.toList p.cps.toList) = true) : leS p x := by
  rw [ltCps_eq, Bool.not_eq_true', decide_eq_false_iff_not] at h
  exact List.not_lt.mp h
theorem rising_pair : ∀ (l : List Str) (p : Str), risingS p l = true → (p :: l).Pairwise leS
  | [], p, _ => List.pairwise_singleton _ _
  | x :: r, p, h => by
    have h' : (!ltCps x.cps.toList p.cps.toList && risingS x r) = true := h
    rw [Bool.and_eq_true] at h'
    have a := leS_rising h'.1
    have b := rising_pair r x h'.2
    refine List.pairwise_cons.mpr ⟨fun y hy => ?_, b⟩
    rcases List.mem_cons.mp hy with e | e
    · rw [e]; exact a
    · exact leS_trans a ((List.pairwise_cons.mp b).1 y e)
theorem sorted_pair : ∀ (l : List Str), sortedS l = true → l.Pairwise leS
  | [], _ => List.Pairwise.nil
  | x :: r, h => rising_pair r x h
theorem perm_sorted : ∀ (xs ys : List Str), xs.Perm ys → xs.Pairwise leS → ys.Pairwise leS → xs = ys
  | [], ys, p, _, _ => (List.nil_perm.mp p).symm
  | x :: r, [], p, _, _ => absurd (List.perm_nil.mp p) (fun z => nomatch z)
  | x :: r, y :: s, p, a, b => by
    have a' := List.pairwise_cons.mp a
    have b' := List.pairwise_cons.mp b
    have e : x = y := by
      have h1 : leS x y := by
        rcases List.mem_cons.mp (p.mem_iff.mpr (List.mem_cons_self (a := y) (l := s))) with z | z
        · rw [z]; exact List.le_refl _
        · exact a'.1 y z
      have h2 : leS y x := by
        rcases List.mem_cons.mp (p.mem_iff.mp (List.mem_cons_self (a := x) (l := r))) with z | z
        · rw [z]; exact List.le_refl _
        · exact b'.1 x z
      exact leS_anti h1 h2
    subst e
    rw [perm_sorted r s (List.perm_cons x |>.mp p) a'.2 b'.2]
theorem lt_le {x y : Str} (h : ltS x y = true) : leS x y ∧ x ≠ y := by
  have h := of_decide_eq_true h
  exact ⟨List.le_of_lt h, fun e => List.lt_irrefl _ (e ▸ h)⟩
theorem le_lt {x y : Str} (a : leS x y) (n : x ≠ y) : ltS x y = true := by
  refine decide_eq_true ?_
  refine Classical.byContradiction fun h => n (leS_anti a (List.not_lt.mp h))
theorem asc_pair : ∀ xs : List Str, ascS xs = true ↔ xs.Pairwise fun x y => leS x y ∧ x ≠ y
  | [] => ⟨fun _ => List.Pairwise.nil, fun _ => rfl⟩
  | [x] => ⟨fun _ => List.pairwise_singleton _ _, fun _ => rfl⟩
  | x :: y :: r => by
    rw [show ascS (x :: y :: r) = (ltS x y && ascS (y :: r)) from rfl, Bool.and_eq_true, asc_pair (y :: r), List.pairwise_cons (a := x)]
    constructor
    · rintro ⟨h1, h2⟩
      refine ⟨fun z hz => ?_, h2⟩
      have q := lt_le h1
      rcases List.mem_cons.mp hz with e | e
      · rw [e]; exact q
      · have t := (List.pairwise_cons.mp h2).1 z e
        refine ⟨leS_trans q.1 t.1, fun e2 => ?_⟩
        subst e2
        exact q.2 (leS_anti q.1 t.1)
    · rintro ⟨h1, h2⟩
      have q := h1 y List.mem_cons_self
      exact ⟨le_lt q.1 q.2, h2⟩
theorem perm_few2 : ∀ {m ss : List Str}, m.Nodup → (∀ z, z ∈ m → z ∈ ss) → m.length ≤ ss.length
  | [], ss, _, _ => Nat.zero_le _
  | x :: m, ss, nd, hs => by
    obtain ⟨n1, n2⟩ := List.nodup_cons.mp nd
    have hx := hs x List.mem_cons_self
    have p := perm_few2 (m := m) (ss := ss.erase x) n2 (fun z hz => (List.mem_erase_of_ne (show z ≠ x from fun e => n1 (e ▸ hz))).mpr (hs z (List.mem_cons_of_mem _ hz)))
    rw [List.length_erase_of_mem hx] at p
    have h1 : 0 < ss.length := List.length_pos_of_mem hx
    rw [List.length_cons]
    omega
/-- names == sorted(set(names)) -/
theorem names_asc {ns m ys : List Str} (nd : m.Nodup) (hm : ∀ z, z ∈ m ↔ z ∈ ns) (pm : ys.Perm m) (hs : sortedS ys = true) : (ns = ys) ↔ ascS ns = true := by
  rw [asc_pair]
  have hp := sorted_pair ys hs
  have ny : ys.Nodup := pm.nodup_iff.mpr nd
  constructor
  · intro e
    rw [e]
    have := List.pairwise_and_iff.mpr ⟨hp, ny⟩
    exact this
  · intro h
    have h1 : ns.Pairwise leS := h.imp fun q => q.1
    have h2 : ns.Nodup := h.imp fun q => q.2
    refine perm_sorted ns ys ?_ h1 hp
    refine (perm_few ns ys h2 (fun z hz => pm.mem_iff.mpr ((hm z).mpr hz)) ?_)
    rw [pm.length_eq]
    exact (perm_few2 nd fun z hz => (hm z).mp hz)
end K02
namespace K02
open PySem PySem.Spec PyProof.Rows L2 Sw StX RZ
theorem eqvAll_strs : ∀ xs ys : List Str, PyData.eqvAll (xs.map PyData.str) (ys.map PyData.str) = decide (xs = ys)
  | [], [] => by simp [PyData.eqvAll]
  | [], y :: ys => by simp [PyData.eqvAll]
  | x :: xs, [] => by simp [PyData.eqvAll]
  | x :: xs, y :: ys => by
    rw [List.map_cons, List.map_cons, PyData.eqvAll, eqvAll_strs xs ys]
    by_cases e : x = y
    · subst e
      simp [PyData.eqv]
    · simp [PyData.eqv, e]
theorem dtA_strs {K : PySem.W.Frag} {mu : Addr → Prop} {H : Hp} : ∀ xs : List Str, DtA K mu H (xs.map V.str) (xs.map PyData.str)
  | [] => .nil
  | x :: xs => .cons (.str x) (dtA_strs xs)
section
variable {P : Program} {w : World} {K : PySem.W.Frag} {mg : Str → Option Value} {base : Heap}
/-- a web of fewer firms than the sort's bound -/
def spWebL (K : PySem.W.Frag) : Sp := fun vs H Q _ => ∃ (v : V) (mu : Addr → Prop) (d : PyData), vs = [v] ∧ Dt K mu H v d ∧ Ok d ∧ (∀ fs, d = .tuple fs → fs.length < 64) ∧ ∀ H', Same H H' → Q (.bl (webD d)) H'
abbrev s_law_is_web : Stmt := topS 40
theorem sc__law_is_web : FnScope ["thing", "one", "names", "firm"] ["thing"] (defScope s_law_is_web) := ⟨rfl, rfl, rfl, by decide +kernel, rfl, by decide +kernel, by decide +kernel⟩
theorem ok__law_is_web {f : Addr} {fd : FuncData} (F : Fun K "_law_is_web" "_law_is_web" s_law_is_web f fd) (B : Bt mg) (TSO : mg "sorted" = none) (TST : mg "set" = none) (c__law_is_firm : CalG P w K mg base 56 "_law_is_firm" (spP K firmD)) : FnG P w K mg base 57 f fd ["thing"] (spWebL K) := by
  refine Fun.okG F sc__law_is_web (fun vs H Q E h => ?_) (fun cdv A outer s H vs Q E hg hr h => ?_)
  · obtain ⟨_, _, _, rfl, _⟩ := h
    rfl
  obtain ⟨v, mu, d, rfl, hd, ho, h64, k⟩ := h
  have hu := Room.u64 hr
  refine ⟨_, (pss_cons (ps_if (PW.pt (pw_or (pt_not (pt_val (pe_callB call_isD (by rfl) B.isin bb_isin (pa_cons (pv 0) (pa_cons (pe_bltn (v := .ty "tuple") rfl B.tuple bb_tuple rfl) pa_nil))))) (pw_or1 (pt_cmpR (op_neNil (K := K) rfl hu) (pe_lc (own := [("one", 1)]) rfl sc__law_is_web.nd (pi_tup (pv 0)) (blkOk_by (own := [("one", 1)]) (N := ["thing", "one", "names", "firm"]) (sc := (defScope s_law_is_web)) (by decide +kernel)) (fun _ _ _ _ _ => (pg_name (i := 1) sc__law_is_web.nd rfl (Or.inl rfl))) (fun _ _ _ _ _ => (pts_one (pt_not (pt_val (pc c__law_is_firm hg hr (by decide) (by rfl) (pa_cons (pv 1) pa_nil)))))) (fun _ _ _ _ _ => (pv 1))) (pe_lst pa_nil) (nomark _)))))
      (pss_one (ps_ret pe_bl))
      pss_nil)
    (pss_cons (ps_setLc (i := 2) (own := [("firm", 3)]) rfl sc__law_is_web.nd rfl rfl (sw_true rfl rfl rfl (by decide +kernel)) (pi_tup (pv 0)) (blkOk_by (own := [("firm", 3)]) (N := ["thing", "one", "names", "firm"]) (sc := (defScope s_law_is_web)) (by decide +kernel)) (fun _ _ _ _ _ => (pg_name (i := 3) sc__law_is_web.nd rfl (Or.inl rfl))) (fun _ _ _ _ _ => pts_nil) (fun _ _ _ _ _ => (pe_ix (ix_tupK (K := K) rfl) (pv 3) pe_int (fun _ _ => rfl))))
    (pss_one (ps_ret (pe_cmpR (op_eqW hu) (pv 2) (pe_callB (cr_sortX rfl) (by rfl) TSO bb_sorted (pa_cons (pe_callTy (cr_setX rfl) (by rfl) TST bb_set (pa_cons (pv 2) pa_nil)) pa_nil)) (nomark _)))))), ?_⟩
  refine ⟨_, rfl, _, "tuple", mu, d, rfl, by decide, hd, _, rfl, ?_⟩
  have k0 := k H (Same.refl H)
  refine iteN (fun ht => ?_) fun ht => ?_
  · have e : webD d = false := by
      cases d <;> first | rfl | (simp [isT, tyName] at ht)
    rw [e] at k0
    exact iteT k0
  obtain ⟨fs, rfl⟩ := (isTup d).mp ht
  obtain ⟨a, xs, rfl, hS, hA⟩ := hd.tupAt
  have hl := hA.length
  have h64 := h64 fs rfl
  have sl := sizeLine_eq
  refine ⟨_, rfl, a, rfl, ⟨xs, hS⟩, fun D nD => lc_it (walk_tup (K := K) (xs := xs) (a := a)) (fun i H' => Same H H' ∧ ∃ ws, H' D = some (.lst ws) ∧ ws.length ≤ i ∧ (ws = [] ↔ (fs.take i).all firmD = true)) ?_ (fun i H' _ h => h.1.seqT hS) ?_ ?_⟩
  · exact ⟨same_upd nD, [], upd_same, Nat.le_refl _, by simp⟩
  · rintro i x H3 H4 hi ⟨sm, ws, hD, hwl, hall⟩ ⟨rfl, hx2⟩
    obtain ⟨e, he2, hxe⟩ := hA.get hx2
    have ht : fs.take (i + 1) = fs.take i ++ [e] := by
      rw [List.take_add_one, he2]
      rfl
    have oe := ho.inT (List.mem_of_getElem? he2)
    refine ⟨rfl, _, rfl, x, mu, e, rfl, hxe.fut (.of_same sm), oe, fun H5 s5 => ⟨_, rfl, iteN (fun hc => ?_) fun hc => ?_⟩⟩
    · refine ⟨_, rfl, ws, s5 _ _ hD, by omega, fun b o z => ?_, ws ++ [x], upd_same, by rw [List.length_append]; show ws.length + 1 ≤ i + 1; omega, ?_⟩
      · rw [upd_ne (ne_of_none z nD)]
        exact s5 _ _ (sm b o z)
      · rw [ht, List.all_append, List.all_cons, hc]
        constructor
        · intro q
          simp at q
        · intro q
          simp at q
    · refine ⟨sm.trans s5, ws, s5 _ _ hD, by omega, ?_⟩
      rw [ht, List.all_append, List.all_cons, hc, List.all_nil, Bool.and_true, Bool.and_true]
      exact hall
  rintro H3 ⟨sm, ws, hD, hwl, hall⟩
  rw [List.take_of_length_le (by omega)] at hall
  refine ⟨Nat.zero_le _, fun q2 nq2 => ?_⟩
  have s5 := same_upd (o := .lst []) nq2
  refine ⟨D, q2, ws, rfl, rfl, .inl (.inl (s5 _ _ hD)), .inl (.inl upd_same), ?_⟩
  have s6 := sm.trans s5
  refine ⟨_, rfl, ?_⟩
  by_cases hf : fs.all firmD = true
  rotate_left
  · have e : ws ≠ [] := fun z => hf (hall.mp z)
    rw [decide_eq_false e]
    refine iteT ?_
    have kk := k _ s6
    rw [show webD (.tuple fs) = (fs.all firmD && ascS (fs.map nmS)) from rfl, Bool.eq_false_iff.mpr hf, Bool.false_and] at kk
    exact kk
  rw [decide_eq_true (hall.mpr hf)]
  refine iteF ?_
  have hS6 := s6.seqT hS
  have hA6 := hA.fut (.of_same s6)
  refine ⟨_, rfl, a, rfl, ⟨xs, hS6⟩, fun D3 nD3 => lc_it (walk_tup (K := K) (xs := xs) (a := a)) (fun i H' => Same (upd H3 q2 (HO.lst [])) H' ∧ H' D3 = some (.lst (((fs.take i).map nmS).map V.str))) ?_ (fun i H' _ h => h.1.seqT hS6) ?_ ?_⟩
  · exact ⟨same_upd nD3, by rw [upd_same]; rfl⟩
  · rintro i x H7 H8 hi ⟨s7, hD3⟩ ⟨rfl, hx⟩
    obtain ⟨e, he, hxe⟩ := hA6.get hx
    obtain ⟨n, r, hs, rfl, hn⟩ := firm_name (List.all_eq_true.mp hf _ (List.mem_of_getElem? he))
    obtain ⟨ae, us, rfl, hSe, hAe⟩ := (hxe.fut (.of_same s7)).tupAt
    obtain ⟨u1, u2, u3, _, _, _, rfl, ee, r1, r2, r3⟩ := hAe.three rfl
    cases ee
    cases r1
    refine ⟨rfl, _, rfl, ae, _, 0, .str n, rfl, rfl, hSe, atI_nat (j := 0) rfl, _, hD3, ?_, fun b o z => ?_, ?_⟩
    · rw [List.length_map, List.length_map, List.length_take]
      omega
    · rw [upd_ne (ne_of_none z nD3)]
      exact s7 _ _ z
    · rw [upd_same, List.take_add_one, he, List.map_append, List.map_append]
      rfl
  rintro H7 ⟨s7, hD3⟩
  rw [List.take_of_length_le (by omega)] at hD3
  have hnl : (fs.map nmS).length < 64 := by rw [List.length_map]; exact h64
  have hso : ∀ z, z ∈ fs.map nmS → PyData.strOk z = true := fun z hz => by
    obtain ⟨e, he, rfl⟩ := List.mem_map.mp hz
    obtain ⟨n, r, hs, rfl, hn⟩ := firm_name (List.all_eq_true.mp hf _ he)
    have o1 : Ok (.str n) := (ho.inT he).inT (by simp)
    have q : PyData.strOk n = true := by simpa only [okD] using o1.ok
    exact q
  refine ⟨_, rfl, _, rfl, D3, fs.map nmS, rfl, .inl (.inl hD3), hnl, fun p m nd ml hm np => ⟨p, m, rfl, upd_same, ml, fun ys q pm hs nq => ?_⟩⟩
  have sp := same_upd (o := SetXO P w p m) np
  have sq := same_upd (o := .lst (ys.map V.str)) nq
  have hD4 := sq _ _ (sp _ _ hD3)
  refine ⟨fun _ => False, .list ((fs.map nmS).map PyData.str), .list (ys.map PyData.str), .lst id (.inl hD4) (dtA_strs _), .lst id (.inl upd_same) (dtA_strs _), shaped_strs hso, shaped_strs fun z hz => hso z ((hm z).mp (pm.mem_iff.mp hz)), ?_⟩
  rw [show PyData.eqv (.list ((fs.map nmS).map PyData.str)) (.list (ys.map PyData.str)) = ascS (fs.map nmS) by
    rw [show PyData.eqv (.list ((fs.map nmS).map PyData.str)) (.list (ys.map PyData.str)) = PyData.eqvAll ((fs.map nmS).map PyData.str) (ys.map PyData.str) by rw [PyData.eqv], eqvAll_strs, Bool.eq_iff_iff, decide_eq_true_eq]
    exact names_asc nd hm pm hs]
  have kk := k _ (((s6.trans s7).trans sp).trans sq)
  rw [show webD (.tuple fs) = (fs.all firmD && ascS (fs.map nmS)) from rfl, hf, Bool.true_and] at kk
  exact kk
end
end K02
namespace K02
open PySem PySem.Spec PyProof.Rows L2 Sw StX RZ
theorem tup_new {K : PySem.W.Frag} {mu : Addr → Prop} {H : Hp} {p : Addr} {xs : List V} {ds : List PyData} (np : H p = none) (h : DtA K mu H xs ds) : Dt K mu (upd H p (.tup xs)) (.ref p) (.tuple ds) := .tup (.of upd_same) (h.fut (.of_same (same_upd np)))
theorem Dt.on {K : PySem.W.Frag} {mu : Addr → Prop} {H : Hp} {p : Addr} {o : HO} {v : V} {d : PyData} (np : H p = none) (h : Dt K mu H v d) : Dt K mu (upd H p o) v d := h.fut (.of_same (same_upd np))
theorem dtA_rep {K : PySem.W.Frag} {mu : Addr → Prop} {H : Hp} {v : V} {d : PyData} (h : Dt K mu H v d) : ∀ n : Nat, DtA K mu H (List.replicate n [v]).flatten (List.replicate n d)
  | 0 => .nil
  | n + 1 => by
    rw [List.replicate_succ, List.replicate_succ, List.flatten_cons]
    exact .cons h (dtA_rep h n)
theorem sz {xs : List V} (h : xs.length ≤ 1000) : xs.length ≤ sizeLine := Nat.le_of_lt (small1000 h)
def dNone : PyData := .tuple [.str "none"]
def dOne : PyData := .tuple [.int 1, .int 1]
def dSeven : PyData := .tuple [.str "x", .tuple (List.replicate 7 dNone)]
def dDeep : Nat → PyData
  | 0 => .tuple [.str "shares", dOne]
  | n + 1 => .tuple [.str "capped", dDeep n, dOne]
def dWide : PyData := .tuple [.str "a", .int 0, .tuple (List.replicate 31 dSeven)]
def nm7 : List Str := ["a", "b", "c", "d", "e", "f", "g"]
def dFm (n : Str) : PyData := .tuple [.str n, .int 0, .tuple [dSeven]]
theorem sign_at : ∀ i : Fin 7, nm7[i.val]? = (("abcdefg" : Str).cps[i.val]?).map fun c => (⟨#[c]⟩ : Str) := by decide +kernel
def dMany : PyData := .tuple (nm7.map dFm)
def dSum : PyData := .tuple [.str "sum", .tuple (List.replicate 61 dNone)]
theorem told_ok : Ok dSeven ∧ Ok dWide ∧ Ok (.tuple [dWide]) ∧ Ok dMany ∧ Ok (dDeep 7) ∧ Ok dSum := ⟨by decide +kernel, by decide +kernel, by decide +kernel, by decide +kernel, by decide +kernel, by decide +kernel⟩
theorem told_true : holdD 0 dSeven = true ∧ firmD dWide = true ∧ webD (.tuple [dWide]) = true ∧ webD dMany = true ∧ clm 0 (dDeep 7) = true ∧ clm 0 dSum = true := ⟨by decide +kernel, by decide +kernel, by decide +kernel, by decide +kernel, by decide +kernel, by decide +kernel⟩
section
variable {P : Program} {w : World} {K : PySem.W.Frag} {mg : Str → Option Value} {base : Heap}
def spTold : Sp := fun vs H Q _ => vs = [] ∧ ∀ H', Same H H' → Q (.bl true) H'
abbrev s_law_are_wide_told : Stmt := topS 41
theorem sc__law_are_wide_told : FnScope ["seven", "deep", "turn", "wide", "many", "name", "told"] [] (defScope s_law_are_wide_told) := ⟨rfl, rfl, rfl, by decide +kernel, rfl, by decide +kernel, by decide +kernel⟩
theorem ok__law_are_wide_told {f : Addr} {fd : FuncData} (F : Fun K "_law_are_wide_told" "_law_are_wide_told" s_law_are_wide_told f fd) (B : Bt mg) (c__law_alike : CalG P w K mg base 1 "_law_alike" (spAlike K)) (c_is_claim : CalG P w K mg base 5 "is_claim" (spClm K)) (c_is_holding : CalG P w K mg base 6 "is_holding" (spHold K)) (c_is_firm : CalG P w K mg base 7 "is_firm" (spP K firmD)) (c_is_web : CalG P w K mg base 8 "is_web" (spP K webD)) : FnG P w K mg base 9 f fd [] spTold := by
  refine Fun.okG F sc__law_are_wide_told (fun vs H Q E h => ?_) (fun cdv A outer s H vs Q E hg hr h => ?_)
  · obtain ⟨rfl, _⟩ := h
    rfl
  obtain ⟨rfl, k⟩ := h
  refine ⟨_, (pss_cons (ps_asg (pe_tup (pa_cons (pe_tup (pa_cons pe_str (pa_cons (pe_op op_repT (pe_tup (pa_cons (pe_tup (pa_cons pe_str pa_nil)) pa_nil)) pe_int) pa_nil))) (pa_cons (pe_tup (pa_cons pe_str (pa_cons (pe_tup (pa_cons pe_int (pa_cons pe_int pa_nil))) pa_nil))) pa_nil))) (pg_tup (n := 2) rfl (pgs_cons (pg_name (i := 0) sc__law_are_wide_told.nd rfl (Or.inr rfl)) (pgs_cons (pg_name (i := 1) sc__law_are_wide_told.nd rfl (Or.inl rfl)) pgs_nil))))
    (pss_cons (ps_for PassesOwn.never rfl (pi_range1 (by rfl) B.range (pa_cons pe_int pa_nil)) (pg_name (i := 2) sc__law_are_wide_told.nd rfl (Or.inl rfl))
      (pss_one (ps_set (i := 1) sc__law_are_wide_told.nd rfl (Or.inl rfl) (pe_tup (pa_cons pe_str (pa_cons (pv 1) (pa_cons (pe_tup (pa_cons pe_int (pa_cons pe_int pa_nil))) pa_nil)))))))
    (pss_cons (ps_par (i := 3) (j := 4) rfl sc__law_are_wide_told.nd rfl rfl (by decide) rfl rfl (pa_cons (pe_tup (pa_cons pe_str (pa_cons pe_int (pa_cons (pe_op op_repT (pe_tup (pa_cons (pv 0) pa_nil)) pe_int) pa_nil)))) (pa_cons (pe_callTy call_tuple_of (by rfl) B.tuple bb_tuple (pa_cons (pe_lc (own := [("name", 5)]) rfl sc__law_are_wide_told.nd (pi_str pe_str) (blkOk_by (own := [("name", 5)]) (N := ["seven", "deep", "turn", "wide", "many", "name", "told"]) (sc := (defScope s_law_are_wide_told)) (by decide +kernel)) (fun _ _ _ _ _ => (pg_name (i := 5) sc__law_are_wide_told.nd rfl (Or.inl rfl))) (fun _ _ _ _ _ => pts_nil) (fun _ _ _ _ _ => (pe_tup (pa_cons (pv 5) (pa_cons pe_int (pa_cons (pe_tup (pa_cons (pv 0) pa_nil)) pa_nil)))))) pa_nil)) pa_nil)) (by rfl))
    (pss_cons (ps_set (i := 6) sc__law_are_wide_told.nd rfl (Or.inl rfl) (pe_lst (pa_cons (pc c_is_holding hg hr (by omega) (by rfl) (pa_cons pe_int (pa_cons (pv 0) pa_nil))) (pa_cons (pc c_is_firm hg hr (by omega) (by rfl) (pa_cons (pv 3) pa_nil)) (pa_cons (pc c_is_web hg hr (by omega) (by rfl) (pa_cons (pe_tup (pa_cons (pv 3) pa_nil)) pa_nil)) (pa_cons (pc c_is_web hg hr (by omega) (by rfl) (pa_cons (pv 4) pa_nil)) (pa_cons (pc c_is_claim hg hr (by omega) (by rfl) (pa_cons pe_int (pa_cons (pv 1) pa_nil))) pa_nil)))))))
    (pss_one (ps_ret (pc c__law_alike hg hr (by omega) (by rfl) (pa_cons (pe_op op_cat (pv 6) (pe_lst (pa_cons (pc c_is_claim hg hr (by omega) (by rfl) (pa_cons pe_int (pa_cons (pe_tup (pa_cons pe_str (pa_cons (pe_op op_repT (pe_tup (pa_cons (pe_tup (pa_cons pe_str pa_nil)) pa_nil)) pe_int) pa_nil))) pa_nil))) pa_nil))) (pa_cons (pe_op op_rep (pe_lst (pa_cons pe_bl pa_nil)) pe_int) pa_nil))))))))), ?_⟩
  refine ⟨sz (by decide), fun p1 n1 => ⟨sz (by simp), fun p2 n2 => ⟨p2, 7, [.ref p1], rfl, rfl, .inl (.inl upd_same), by simp, by decide, by decide, by simp, fun p3 n3 => ⟨sz (by simp), fun p4 n4 => ⟨sz (by simp), fun p5 n5 => ⟨sz (by simp), fun p6 n6 => ⟨sz (by simp), fun p7 n7 => ?_⟩⟩⟩⟩⟩⟩⟩
  refine ⟨p7, _, rfl, .inl (.inl upd_same), rfl, _, _, rfl, _, _, rfl, rfl, ?_⟩
  generalize eG : upd _ p7 _ = G
  have sm : Same H G := by
    rw [← eG]
    exact (((((same_upd n1).trans (same_upd n2)).trans (same_upd n3)).trans (same_upd n4)).trans (same_upd n5)).trans ((same_upd n6).trans (same_upd n7))
  have bb : ∀ mu : Addr → Prop, Dt K mu G (.ref p4) dSeven ∧ Dt K mu G (.ref p6) (dDeep 0) := fun mu => by
    have a1 : Dt K mu (upd H p1 (.tup [.str "none"])) (.ref p1) dNone := tup_new n1 (.cons (.str _) .nil)
    have a3 := tup_new n3 (dtA_rep (Dt.on n2 a1) 7)
    have a4 := tup_new n4 (.cons (.str "x") (.cons a3 .nil))
    have a5 := tup_new (K := K) (mu := mu) n5 (.cons (.int 1) (.cons (.int 1) .nil))
    have a6 := tup_new n6 (.cons (.str "shares") (.cons a5 .nil))
    rw [← eG]
    exact ⟨Dt.on n7 (Dt.on n6 (Dt.on n5 a4)), Dt.on n7 a6⟩
  clear eG
  refine ⟨7, rfl, by decide, by decide, for_it (walk_range (lo := 0) (n := 7)) (fun i σ H' => ∃ (o : Option V) (v : V), σ = [some (.ref p4), some v, o, none, none, none, none] ∧ Same G H' ∧ ∀ mu : Addr → Prop, Dt K mu H' v (dDeep i)) ⟨none, .ref p6, rfl, Same.refl _, fun mu => (bb mu).2⟩ (fun _ _ _ _ _ => trivial) (fun i x σ H1 H2 hi h y => ?_) fun σ H1 h => ?_⟩
  · obtain ⟨o, v, rfl, s1, hv⟩ := h
    obtain ⟨rfl, rfl⟩ := y
    refine ⟨_, rfl, sz (by simp), fun q1 m1 => ⟨sz (by simp), fun q2 m2 => ⟨_, _, rfl, (s1.trans (same_upd m1)).trans (same_upd m2), fun mu => tup_new m2 (.cons (.str "capped") (.cons (Dt.on m1 (hv mu)) (.cons (tup_new m1 (.cons (.int 1) (.cons (.int 1) .nil))) .nil)))⟩⟩⟩
  obtain ⟨o, v, rfl, s1, hv⟩ := h
  refine ⟨_, rfl, sz (by simp), fun r1 k1 => ⟨r1, 31, [.ref p4], rfl, rfl, .inl (.inl upd_same), by simp, by decide, by decide, by simp, fun r2 k2 => ⟨sz (by simp), fun r3 k3 => ?_⟩⟩⟩
  generalize eG2 : upd _ r3 _ = G2
  have s2 : Same G G2 := by
    rw [← eG2]
    exact s1.trans (((same_upd k1).trans (same_upd k2)).trans (same_upd k3))
  have cc : ∀ mu : Addr → Prop, Dt K mu G2 (.ref p4) dSeven ∧ Dt K mu G2 v (dDeep 7) ∧ Dt K mu G2 (.ref r3) dWide := fun mu => by
    have a4 := (bb mu).1.fut (.of_same s1)
    have a2 := tup_new k2 (dtA_rep (Dt.on k1 a4) 31)
    rw [← eG2]
    exact ⟨Dt.on k3 (Dt.on k2 (Dt.on k1 a4)), Dt.on k3 (Dt.on k2 (Dt.on k1 (hv mu))), tup_new k3 (.cons (.str "a") (.cons (.int 0) (.cons a2 .nil)))⟩
  clear eG2
  have h7 : ("abcdefg" : Str).cps.size = 7 := by decide +kernel
  refine ⟨"abcdefg", rfl, fun D nD => lc_it walk_str (fun i H' => Same G2 H' ∧ ∃ xs, H' D = some (.lst xs) ∧ DtA K (fun a => a = D) H' xs ((nm7.take i).map dFm)) ⟨same_upd nD, [], upd_same, .nil⟩ (fun _ _ _ _ => trivial) ?_ ?_⟩
  · rintro i x H3 H4 hi ⟨s3, xs, hD, hA⟩ ⟨rfl, c, hc, rfl⟩
    have hn : nm7[i]? = some ⟨#[c]⟩ := by
      have q := sign_at ⟨i, by rw [← h7]; exact hi⟩
      rw [hc] at q
      exact q
    have hxl : xs.length ≤ 7 := by
      rw [hA.length, List.length_map, List.length_take]
      exact Nat.min_le_right _ _
    refine ⟨rfl, _, rfl, _, rfl, sz (by simp), fun t1 j1 => ⟨sz (by simp), fun t2 j2 => ?_⟩⟩
    have s5 := (same_upd (o := .tup [.ref p4]) j1).trans (same_upd (o := .tup [.str ⟨#[c]⟩, .int 0, .ref t1]) j2)
    have hD5 := s5 _ _ hD
    refine ⟨xs, hD5, small1000 (by omega), fun b o z => ?_, xs ++ [.ref t2], upd_same, ?_⟩
    · rw [upd_ne (ne_of_none z nD)]
      exact s5 _ _ (s3 _ _ z)
    · rw [List.take_add_one, hn, List.map_append]
      have d1 := ((cc (fun a => a = D)).1.fut (.of_same s3))
      have d2 := tup_new j2 (.cons (.str ⟨#[c]⟩) (.cons (.int 0) (.cons (tup_new j1 (.cons d1 .nil)) .nil)))
      exact ((hA.fut (.of_same s5)).fut (fut_at hD5)).append (.cons (d2.fut (fut_at hD5)) .nil)
  rintro H3 ⟨s3, xs, hD, hA⟩
  rw [h7] at hA
  refine ⟨D, xs, rfl, .inl ⟨.inl (.inl hD), fun l nl => ⟨_, _, rfl, ?_⟩⟩⟩
  have e3 := s3.trans (same_upd (o := .tup xs) nl)
  have c3 := fun mu => (cc mu).1.fut (.of_same e3)
  have c4 := fun mu => (cc mu).2.1.fut (.of_same e3)
  have c5 := fun mu => (cc mu).2.2.fut (.of_same e3)
  have c6 : Dt K (fun a => a = D) _ (.ref l) dMany := tup_new nl hA
  refine ⟨_, rfl, 0, .ref p4, (fun a => a = D), dSeven, rfl, c3 _, told_ok.1, fun H5 t5 => ?_⟩
  refine ⟨_, rfl, .ref r3, (fun a => a = D), dWide, rfl, (c5 _).fut (.of_same t5), told_ok.2.1, fun H6 t6 => ?_⟩
  have e6 := t5.trans t6
  refine ⟨_, rfl, sz (by simp), fun u1 v1 => ⟨.ref u1, (fun a => a = D), .tuple [dWide], rfl, tup_new v1 (.cons ((c5 _).fut (.of_same e6)) .nil), told_ok.2.2.1, fun H7 t7 => ?_⟩⟩
  have e7 := (e6.trans (same_upd v1)).trans t7
  refine ⟨_, rfl, .ref l, (fun a => a = D), dMany, rfl, c6.fut (.of_same e7), told_ok.2.2.2.1, fun H8 t8 => ?_⟩
  have e8 := e7.trans t8
  refine ⟨_, rfl, 0, v, (fun a => a = D), dDeep 7, rfl, (c4 _).fut (.of_same e8), told_ok.2.2.2.2.1, fun H9 t9 => ⟨sz (by simp), fun u2 v2 => ?_⟩⟩
  obtain ⟨b1, b2, b3, b4, b5, b6⟩ := told_true
  generalize eG9 : upd H9 u2 _ = G9
  have e9 : Same H9 G9 := by
    rw [← eG9]
    exact same_upd v2
  have hu9 : G9 u2 = some (.lst [.bl true, .bl true, .bl true, .bl true, .bl true]) := by
    rw [← eG9, upd_same, b1, b2, b3, b4, b5]
  have f9 : Same H G9 := (((sm.trans s2).trans e3).trans (e8.trans t9)).trans e9
  clear eG9
  refine ⟨_, rfl, sz (by simp), fun w1 x1 => ⟨sz (by simp), fun w2 x2 => ⟨w2, 61, [.ref w1], rfl, rfl, .inl (.inl upd_same), by simp, by decide, by decide, by simp, fun w3 x3 => ⟨sz (by simp), fun w4 x4 => ?_⟩⟩⟩⟩
  generalize eG10 : upd _ w4 _ = G10
  have e10 : Same G9 G10 := by
    rw [← eG10]
    exact (((same_upd x1).trans (same_upd x2)).trans (same_upd x3)).trans (same_upd x4)
  have d10 : Dt K (fun a => a = D) G10 (.ref w4) dSum := by
    have a1 : Dt K (fun a => a = D) (upd G9 w1 (.tup [.str "none"])) (.ref w1) dNone := tup_new x1 (.cons (.str _) .nil)
    have a3 := tup_new x3 (dtA_rep (Dt.on x2 a1) 61)
    rw [← eG10]
    exact tup_new x4 (.cons (.str "sum") (.cons a3 .nil))
  clear eG10
  refine ⟨0, .ref w4, (fun a => a = D), dSum, rfl, d10, told_ok.2.2.2.2.2, fun H10 t10 => ⟨sz (by simp), fun y1 z1 => ⟨u2, y1, _, _, rfl, rfl, same_upd z1 _ _ (t10 _ _ (e10 _ _ hu9)), upd_same, ?_, fun y2 z2 => ⟨sz (by simp), fun y3 z3 => ⟨y3, 6, _, rfl, rfl, upd_same, by decide, by decide, ?_, fun y4 z4 => ?_⟩⟩⟩⟩⟩
  · rw [sizeLine_eq]
    show 5 + 1 ≤ 16777216
    omega
  · rw [sizeLine_eq]
    show 1 * 6 ≤ 16777216
    omega
  rw [b6]
  refine ⟨_, _, (fun _ => False), .list (List.replicate 6 (.bool true)), rfl, .lst id (.inl (same_upd z4 _ _ (same_upd z3 _ _ upd_same))) ?_, .lst id (.inl upd_same) ?_, by decide +kernel, .inl rfl, ?_⟩
  · first | rw [b6] | skip
    exact .cons (.bl _) (.cons (.bl _) (.cons (.bl _) (.cons (.bl _) (.cons (.bl _) (.cons (.bl _) .nil)))))
  · exact .cons (.bl _) (.cons (.bl _) (.cons (.bl _) (.cons (.bl _) (.cons (.bl _) (.cons (.bl _) .nil)))))
  · exact k _ ((((((f9.trans e10).trans t10).trans (same_upd z1)).trans (same_upd z2)).trans (same_upd z3)).trans (same_upd z4))
end
end K02
namespace K02
open PySem PySem.Spec PyProof.Rows L2 Sw StX RZ
mutual
/-- a datum of short ASCII texts and ints not too great -/
def wlD (L B N : Nat) : PyData → Bool
  | .none | .bool _ => true
  | .int i => decide (i.natAbs ≤ B)
  | .str x => decide (x.length ≤ L) && x.cps.all (fun c => decide (c < 128))
  | .list xs | .tuple xs => wlA L B N xs
  | .dict kvs => decide (kvs.length ≤ N) && wlK L B N kvs
def wlA (L B N : Nat) : List PyData → Bool
  | [] => true
  | x :: xs => wlD L B N x && wlA L B N xs
def wlK (L B N : Nat) : List (PyData × PyData) → Bool
  | [] => true
  | (k, v) :: r => wlD L B N k && wlD L B N v && wlK L B N r
end
mutual
theorem wl_mono {L B N L' B' N' : Nat} (hL : L ≤ L') (hB : B ≤ B') (hN : N ≤ N') : ∀ {d : PyData}, wlD L B N d = true → wlD L' B' N' d = true
  | .none, _ | .bool _, _ => rfl
  | .int i, h => by
    simp only [wlD, decide_eq_true_eq] at h ⊢
    omega
  | .str x, h => by
    simp only [wlD, Bool.and_eq_true, decide_eq_true_eq] at h ⊢
    exact ⟨Nat.le_trans h.1 hL, h.2⟩
  | .list xs, h => by
    simp only [wlD] at h ⊢
    exact wl_monoA hL hB hN h
  | .tuple xs, h => by
    simp only [wlD] at h ⊢
    exact wl_monoA hL hB hN h
  | .dict kvs, h => by
    simp only [wlD, Bool.and_eq_true, decide_eq_true_eq] at h ⊢
    exact ⟨Nat.le_trans h.1 hN, wl_monoK hL hB hN h.2⟩
theorem wl_monoA {L B N L' B' N' : Nat} (hL : L ≤ L') (hB : B ≤ B') (hN : N ≤ N') : ∀ {ds : List PyData}, wlA L B N ds = true → wlA L' B' N' ds = true
  | [], _ => rfl
  | d :: ds, h => by
    simp only [wlA, Bool.and_eq_true] at h ⊢
    exact ⟨wl_mono hL hB hN h.1, wl_monoA hL hB hN h.2⟩
theorem wl_monoK {L B N L' B' N' : Nat} (hL : L ≤ L') (hB : B ≤ B') (hN : N ≤ N') : ∀ {ds : List (PyData × PyData)}, wlK L B N ds = true → wlK L' B' N' ds = true
  | [], _ => rfl
  | (k, v) :: ds, h => by
    simp only [wlK, Bool.and_eq_true] at h ⊢
    exact ⟨⟨wl_mono hL hB hN h.1.1, wl_mono hL hB hN h.1.2⟩, wl_monoK hL hB hN h.2⟩
end
mutual
theorem wl_ok {L B N : Nat} (hB : B < 10 ^ 500) : ∀ {d : PyData}, wlD L B N d = true → okD d = true
  | .none, _ | .bool _, _ => rfl
  | .int i, h => by
    simp only [wlD, decide_eq_true_eq] at h
    simp only [okD, decide_eq_true_eq]
    omega
  | .str x, h => by
    simp only [wlD, Bool.and_eq_true, decide_eq_true_eq] at h
    simp only [okD]
    unfold PyData.strOk
    have h2 := h.2
    rw [← Array.all_toList, List.all_eq_true] at h2 ⊢
    intro c m
    have := of_decide_eq_true (h2 c m)
    exact decide_eq_true (by omega)
  | .list xs, h => by
    simp only [wlD] at h
    simp only [okD]
    exact wl_okA hB h
  | .tuple xs, h => by
    simp only [wlD] at h
    simp only [okD]
    exact wl_okA hB h
  | .dict kvs, h => by
    simp only [wlD, Bool.and_eq_true] at h
    simp only [okD]
    exact wl_okK hB h.2
theorem wl_okA {L B N : Nat} (hB : B < 10 ^ 500) : ∀ {ds : List PyData}, wlA L B N ds = true → okA ds = true
  | [], _ => rfl
  | d :: ds, h => by
    simp only [wlA, Bool.and_eq_true] at h
    simp only [okA, Bool.and_eq_true]
    exact ⟨wl_ok hB h.1, wl_okA hB h.2⟩
theorem wl_okK {L B N : Nat} (hB : B < 10 ^ 500) : ∀ {ds : List (PyData × PyData)}, wlK L B N ds = true → okK ds = true
  | [], _ => rfl
  | (k, v) :: ds, h => by
    simp only [wlK, Bool.and_eq_true] at h
    simp only [okK, Bool.and_eq_true]
    exact ⟨⟨wl_ok hB h.1.1, wl_ok hB h.1.2⟩, wl_okK hB h.2⟩
end
/-- how many items, if a tuple -/
def lenT : PyData → Nat
  | .tuple ds => ds.length
  | _ => 0
theorem lenT_le (d : PyData) : lenT d ≤ d.weight := by
  cases d with
  | tuple ds =>
    have := weight_len ds
    simp only [PyData.weight]
    exact this
  | _ => exact Nat.zero_le _
theorem wl_upper {x : Str} {L B N : Nat} (h : wlD L B N (.str x) = true) : wlD L B N (.str (Txt.upper x)) = true := by
  simp only [wlD, Bool.and_eq_true, decide_eq_true_eq] at h ⊢
  have h2 := h.2
  rw [← Array.all_toList, List.all_eq_true] at h2
  have ha : ∀ c ∈ x.cps.toList, c < 128 := fun c m => of_decide_eq_true (h2 c m)
  rw [upper_ascii ha]
  refine ⟨?_, ?_⟩
  · show (x.cps.map up1).size ≤ L
    rw [Array.size_map]
    exact h.1
  · rw [← Array.all_toList, List.all_eq_true]
    intro c m
    rw [Array.toList_map] at m
    obtain ⟨y, hy, rfl⟩ := List.mem_map.mp m
    have := ha y hy
    refine decide_eq_true ?_
    unfold PyProof.Rows.up1
    split <;> omega
end K02
namespace K02
open PySem PySem.Spec PyProof.Rows L2 Sw StX RZ
/-- a small datum -/
def Om (d : PyData) : Prop := wlD 13 10 1 d = true ∧ d.depth ≤ 2 ∧ d.weight ≤ 60
instance (d : PyData) : Decidable (Om d) := inferInstanceAs (Decidable (wlD 13 10 1 d = true ∧ d.depth ≤ 2 ∧ d.weight ≤ 60))
section
variable {P : Program} {w : World} {K : PySem.W.Frag} {mg : Str → Option Value} {base : Heap}
def spOdd (K : PySem.W.Frag) : Sp := fun vs H Q _ => ∃ (b : Addr) (mu : Addr → Prop), vs = [.ref b] ∧ mu b ∧ BagAt H b ∧ MuOk mu H ∧ ∀ v H' d, Om d → Rel b H H' → Dt K mu H' v d → Own H' v d → Q v H'
abbrev s_law_odd : Stmt := topS 31
theorem sc__law_odd : FnScope ["bag"] ["bag"] (defScope s_law_odd) := ⟨rfl, rfl, rfl, by decide +kernel, rfl, by decide +kernel, by decide +kernel⟩
theorem ok__law_odd {f : Addr} {fd : FuncData} (F : Fun K "_law_odd" "_law_odd" s_law_odd f fd) (B : Bt mg) (c__law_some : CalG P w K mg base 2 "_law_some" spSome) : FnG P w K mg base 3 f fd ["bag"] (spOdd K) := by
  refine Fun.okG F sc__law_odd (fun vs H Q E h => ?_) (fun cdv A outer s H vs Q E hg hr h => ?_)
  · obtain ⟨_, _, rfl, _⟩ := h
    rfl
  obtain ⟨b, mu, rfl, hmu, hb, hM, k⟩ := h
  refine ⟨_, (pss_one (ps_ret (pc c__law_some hg hr (by decide) (by rfl) (pa_cons (pv 0) (pa_cons (pe_lst (pa_cons pe_non (pa_cons pe_bl (pa_cons pe_int (pa_cons (pe_un un_neg pe_int) (pa_cons pe_int (pa_cons pe_str (pa_cons pe_str (pa_cons pe_str (pa_cons (pe_tup pa_nil) (pa_cons (pe_lstN pa_nil) (pa_cons pe_dnewN (pa_cons (pe_tup (pa_cons pe_int (pa_cons pe_int pa_nil))) (pa_cons (pe_lstN (pa_cons pe_int (pa_cons pe_int pa_nil))) (pa_cons (pe_tup (pa_cons pe_str pa_nil)) (pa_cons (pe_tup (pa_cons pe_int (pa_cons pe_int pa_nil))) (pa_cons (pe_dispN (pps_cons pe_str (pe_tup (pa_cons pe_int (pa_cons pe_int pa_nil))) pps_nil) rfl rfl (fun z => nomatch z) (by decide)) (pa_cons pe_str pa_nil)))))))))))))))))) pa_nil))))), ?_⟩
  have g2 : ∀ {σ : L2.St} {H0 : Hp} {ta : TA} {ds : List PyData}, GeA K b mu σ H0 ta ds → ds.length ≤ 1000 → Om (.tuple ds) → Gv K b mu σ H0 (tTup ta) Om := fun {σ H0 ta ds} h l t => (ge_tup hmu h l).gv t
  refine gv_some (K := K) (mu := mu) (D := Om) (n := 17) hmu rfl
    (gvA_cons hmu (ge_non.gv (by decide +kernel))
    (gvA_cons hmu (ge_bl.gv (by decide +kernel))
    (gvA_cons hmu (ge_int.gv (by decide +kernel))
    (gvA_cons hmu (ge_neg.gv (by decide +kernel))
    (gvA_cons hmu (ge_int.gv (by decide +kernel))
    (gvA_cons hmu (ge_str.gv (by decide +kernel))
    (gvA_cons hmu (ge_str.gv (by decide +kernel))
    (gvA_cons hmu (ge_str.gv (by decide +kernel))
    (gvA_cons hmu (g2 geA_nil (show 0 ≤ 1000 by decide) (by decide +kernel))
    (gvA_cons hmu (gv_lst hmu geA_nil (show 0 ≤ 1000 by decide) (by decide +kernel))
    (gvA_cons hmu (gv_dict (by decide +kernel))
    (gvA_cons hmu (g2 (geA_cons hmu ge_int (geA_cons hmu ge_int geA_nil)) (show 2 ≤ 1000 by decide) (by decide +kernel))
    (gvA_cons hmu (gv_lst hmu (geA_cons hmu ge_int (geA_cons hmu ge_int geA_nil)) (show 2 ≤ 1000 by decide) (by decide +kernel))
    (gvA_cons hmu (g2 (geA_cons hmu ge_str geA_nil) (show 1 ≤ 1000 by decide) (by decide +kernel))
    (gvA_cons hmu (g2 (geA_cons hmu ge_int (geA_cons hmu ge_int geA_nil)) (show 2 ≤ 1000 by decide) (by decide +kernel))
    (gvA_cons hmu (gv_disp1 hmu (fun mv hv => ge_tup hv (geA_cons hv ge_int (geA_cons hv ge_int geA_nil)) (show 2 ≤ 1000 by decide)) (by decide +kernel))
    (gvA_cons hmu (ge_str.gv (by decide +kernel)) gvA_nil))))))))))))))))) (by decide) (by decide) H (.refl hb) hM _ fun v H1 d hd R1 hv ov => ?_
  exact k v H1 d hd R1 hv ov
end
end K02
namespace K02
open PySem PySem.Spec PyProof.Rows L2 Sw StX RZ
/-- what comes of a near one -/
def Nr (L B N : Nat) (d : PyData) : Prop := wlD L B N d = true ∧ d.depth ≤ 2 ∧ d.weight ≤ 300 + L ∧ lenT d ≤ 60
section
variable {P : Program} {w : World} {K : PySem.W.Frag} {mg : Str → Option Value} {base : Heap}
def spNear (K : PySem.W.Frag) : Sp := fun vs H Q _ => ∃ (b : Addr) (mu : Addr → Prop) (v : V) (d : PyData) (L B N : Nat), vs = [.ref b, v] ∧ mu b ∧ BagAt H b ∧ MuOk mu H ∧ Dt K mu H v d ∧ Ok d ∧ wlD L B N d = true ∧ 13 ≤ L ∧ L ≤ 100 ∧ 10 ≤ B ∧ B ≤ 10 ^ 60 ∧
  ∀ v' H' d', Nr (7 * L + 1) (2 * B + 1) (N + 1) d' → Rel b H H' → Dt K mu H' v' d' → Own H' v' d' → Q v' H'
abbrev s_law_near : Stmt := topS 32
theorem sc__law_near : FnScope ["bag", "thing", "words"] ["bag", "thing"] (defScope s_law_near) := ⟨rfl, rfl, rfl, by decide +kernel, rfl, by decide +kernel, by decide +kernel⟩
theorem ok__law_near {f : Addr} {fd : FuncData} (F : Fun K "_law_near" "_law_near" s_law_near f fd) (B : Bt mg) (c__law_some : CalG P w K mg base 2 "_law_some" spSome) (c__law_is_int : CalG P w K mg base 1 "_law_is_int" (spP K isInt)) (c__law_odd : CalG P w K mg base 3 "_law_odd" (spOdd K)) : FnG P w K mg base 4 f fd ["bag", "thing"] (spNear K) := by
  refine Fun.okG F sc__law_near (fun vs H Q E h => ?_) (fun cdv A outer s H vs Q E hg hr h => ?_)
  · obtain ⟨_, _, _, _, _, _, _, rfl, _⟩ := h
    rfl
  obtain ⟨b, mu, v, d, L, Bd, N, rfl, hmu, hb, hM, hd, od, hw, l1, l2, q1, q2, k⟩ := h
  refine ⟨_, (pss_cons (ps_if (pt_val (pe_callB call_isD (by rfl) B.isin bb_isin (pa_cons (pv 1) (pa_cons (pe_bltn (v := .ty "str") rfl B.str bb_str rfl) pa_nil))))
      (pss_cons (ps_set (i := 2) sc__law_near.nd rfl (Or.inl rfl) (pe_lst (pa_cons pe_str (pa_cons pe_str (pa_cons pe_str (pa_cons pe_str (pa_cons pe_str (pa_cons pe_str (pa_cons (pe_op op_add_str (pv 1) pe_str) (pa_cons (pe_bm0 PySem.F.plainAttrs_str PySem.F.slot_str_upper PySem.F.type_str_upper mt_upper (pv 1)) (pa_cons (pe_op op_add_str (pv 1) pe_str) (pa_cons pe_str (pa_cons (pe_op op_repW (pv 1) pe_int) (pa_cons pe_int pa_nil))))))))))))))
      (pss_one (ps_ret (pc c__law_some hg hr (by decide) (by rfl) (pa_cons (pv 0) (pa_cons (pv 2) pa_nil))))))
      pss_nil)
    (pss_cons (ps_if (pt_val (pc c__law_is_int hg hr (by decide) (by rfl) (pa_cons (pv 1) pa_nil)))
      (pss_one (ps_ret (pc c__law_some hg hr (by decide) (by rfl) (pa_cons (pv 0) (pa_cons (pe_lst (pa_cons (pe_op op_add (pv 1) pe_int) (pa_cons (pe_op op_sub (pv 1) pe_int) (pa_cons (pe_cmpR op_eq (pv 1) pe_int (nomark _)) (pa_cons pe_int (pa_cons (pe_un un_neg (pv 1)) (pa_cons pe_non (pa_cons (pe_callTy call_str_int (by rfl) B.str bb_str (pa_cons (pv 1) pa_nil)) (pa_cons pe_int (pa_cons (pe_op op_mul pe_int (pv 1)) pa_nil)))))))))) pa_nil)))))
      pss_nil)
    (pss_one (ps_ret (pc c__law_odd hg hr (by decide) (by rfl) (pa_cons (pv 0) pa_nil)))))), ?_⟩
  refine ⟨_, rfl, _, "str", mu, d, rfl, by decide, hd, _, rfl, ?_⟩
  have sl := sizeLine_eq
  by_cases ht : isT "str" d = true
  · rw [ht]
    refine iteT ?_
    obtain ⟨z, rfl⟩ : ∃ z, d = .str z := by
      cases d <;> first | exact ⟨_, rfl⟩ | (simp [isT, tyName] at ht)
    cases hd
    have hz : z.length ≤ L ∧ z.cps.all (fun c => decide (c < 128)) = true := by
      simpa only [wlD, Bool.and_eq_true, decide_eq_true_eq] using hw
    have gd : ∀ y : Str, wlD (7 * L + 1) (2 * Bd + 1) (N + 1) (.str y) = true → Nr (7 * L + 1) (2 * Bd + 1) (N + 1) (.str y) := fun y h => by
      have h1 : y.length ≤ 7 * L + 1 ∧ y.cps.all (fun c => decide (c < 128)) = true := by
        simpa only [wlD, Bool.and_eq_true, decide_eq_true_eq] using h
      refine ⟨h, by simp [PyData.depth], ?_, Nat.zero_le _⟩
      have h2 : y.cps.size ≤ 7 * L + 1 := h1.1
      simp only [PyData.weight]
      omega
    have x1 : ("x" : Str).length = 1 := rfl
    have x2 : (" " : Str).length = 1 := rfl
    have zl := hz.1
    have nl : ∀ y : Str, y.length ≤ 7 * L + 1 → y.cps.all (fun c => decide (c < 128)) = true → wlD (7 * L + 1) (2 * Bd + 1) (N + 1) (.str y) = true := fun y h1 h2 => by
      simp only [wlD, Bool.and_eq_true, decide_eq_true_eq]
      exact ⟨h1, h2⟩
    have wz : wlD (7 * L + 1) (2 * Bd + 1) (N + 1) (.str z) = true := wl_mono (by omega) (by omega) (by omega) hw
    refine ⟨_, rfl, z, "x", rfl, rfl, by omega, _, rfl, rfl, z, rfl, rfl, by omega, _, rfl, z, " ", rfl, rfl, by omega, _, rfl, z, 7, rfl, rfl, by decide, by decide, by omega, fun r7 l7 p7 => ⟨sz (by simp), fun t nt => ?_⟩⟩
    have R1 := Rel.of_same hb (same_upd (o := .lst [.str "none", .str "due", .str "shares", .str "option", .str "capped", .str "sum", .str (z ++ "x"), .str (Txt.upper z), .str (z ++ " "), .str "", .str r7, .int 5]) nt)
    have tb : t ≠ b := fun e => by
      obtain ⟨_, _, _, _, _, q, _⟩ := hb
      rw [e, q] at nt
      cases nt
    refine ⟨_, rfl, _, rfl, b, t, _, rfl, R1.bag, tb, upd_same, by simp, by simp, fun i v2 H2 hv R2 => ?_⟩
    have R12 := R1.trans R2
    have ks : ∀ y : Str, v2 = .str y → wlD (7 * L + 1) (2 * Bd + 1) (N + 1) (.str y) = true → Q v2 H2 := fun y e h => by
      subst e
      exact k _ H2 (.str y) (gd y h) R12 (.str y) (own_not fun _ z => nomatch z)
    have kc : ∀ y : Str, v2 = .str y → wlD 13 10 1 (.str y) = true → Q v2 H2 := fun y e h => ks y e (wl_mono (by omega) (by omega) (by omega) h)
    have app : ∀ (y : Str), y.length = 1 → y.cps.all (fun c => decide (c < 128)) = true → wlD (7 * L + 1) (2 * Bd + 1) (N + 1) (.str (z ++ y)) = true := fun y h1 h2 => nl _ (by
      have e1 : (z ++ y).length = z.length + y.length := by
        show (_ ++ _ : Array Nat).size = _
        rw [Array.size_append]
        rfl
      omega) (by
      rw [Str.cps_append, Array.all_append, hz.2, h2]
      rfl)
    have hm := List.mem_of_getElem? hv
    simp only [List.mem_cons, List.not_mem_nil, or_false] at hm
    rcases hm with e | e | e | e | e | e | e | e | e | e | e | e
    · exact kc _ e (by decide +kernel)
    · exact kc _ e (by decide +kernel)
    · exact kc _ e (by decide +kernel)
    · exact kc _ e (by decide +kernel)
    · exact kc _ e (by decide +kernel)
    · exact kc _ e (by decide +kernel)
    · exact ks _ e (app _ rfl (by decide +kernel))
    · exact ks _ e (wl_upper wz)
    · exact ks _ e (app _ rfl (by decide +kernel))
    · exact kc _ e (by decide +kernel)
    · exact ks _ e (nl _ (by
        rw [l7]
        show z.length * 7 ≤ _
        omega) (p7 _ hz.2))
    · subst e
      exact k _ H2 (.int 5) ⟨wl_mono (L := 13) (B := 10) (N := 1) (by omega) (by omega) (by omega) (by decide +kernel), by simp [PyData.depth], Nat.le_trans (show PyData.weight (.int 5) ≤ 60 by decide +kernel) (by omega), Nat.zero_le _⟩ R12 (.int 5) (own_not fun _ z => nomatch z)
  rw [Bool.eq_false_iff.mpr ht]
  refine iteF ?_
  refine ⟨_, rfl, v, mu, d, rfl, hd, od, fun H1 s1 => ?_⟩
  have R1 := Rel.of_same hb s1
  by_cases hi : isInt d = true
  rotate_left
  · rw [Bool.eq_false_iff.mpr hi]
    refine ⟨_, rfl, iteF ?_⟩
    refine ⟨_, rfl, b, mu, rfl, hmu, R1.bag, hM.rel R1, fun v2 H2 d2 h2 R2 hv2 ov2 => k v2 H2 d2 ?_ (R1.trans R2) hv2 ov2⟩
    exact ⟨wl_mono (by omega) (by omega) (by omega) h2.1, h2.2.1, Nat.le_trans h2.2.2 (by omega), Nat.le_trans (lenT_le _) h2.2.2⟩
  rw [hi]
  refine ⟨_, rfl, iteT ?_⟩
  obtain ⟨x, rfl⟩ := (isIntD d).mp hi
  cases hd
  have hx : x.natAbs ≤ Bd := by simpa only [wlD, decide_eq_true_eq] using hw
  have hlog : x.natAbs.log2 < 1920 := int_log (Nat.lt_of_le_of_lt (Nat.le_trans hx q2) (by decide +kernel))
  refine ⟨_, rfl, _, rfl, x, 1, rfl, rfl, _, rfl, x, 1, rfl, rfl, _, rfl, rfl, _, rfl, x, rfl, _, rfl, x, rfl, hlog, _, rfl, 2, x, rfl, rfl, .inl ⟨by decide, by decide⟩, sz (by simp), fun t nt => ?_⟩
  have R2 := Rel.of_same R1.bag (same_upd (o := .lst [.int (x + 1), .int (x - 1), .bl (decide (V.int x = V.int 1)), .int 0, .int (-x), .non, .str (Str.ofString (toString x)), .int 7, .int (2 * x)]) nt)
  have tb : t ≠ b := fun e => by
    obtain ⟨_, _, _, _, _, q, _⟩ := R1.bag
    rw [e, q] at nt
    cases nt
  refine ⟨b, t, _, rfl, R2.bag, tb, upd_same, by simp, by simp, fun i v2 H2 hv R3 => ?_⟩
  have R13 := (R1.trans R2).trans R3
  have ki : ∀ y : Int, v2 = .int y → y.natAbs ≤ 2 * Bd + 1 → Q v2 H2 := fun y e h => by
    subst e
    refine k _ H2 (.int y) ⟨by simp only [wlD, decide_eq_true_eq]; exact h, by simp [PyData.depth], ?_, Nat.zero_le _⟩ R13 (.int y) (own_not fun _ z => nomatch z)
    simp only [PyData.weight]
    by_cases y0 : y = 0
    · rw [if_pos (beq_iff_eq.mpr y0)]
      exact Nat.zero_le _
    · rw [if_neg (fun z => y0 (beq_iff_eq.mp z))]
      have hy : y.natAbs < 2 ^ 220 := Nat.lt_of_le_of_lt h (Nat.lt_of_le_of_lt (show 2 * Bd + 1 ≤ 2 * 10 ^ 60 + 1 by omega) (by decide +kernel))
      have := (Nat.log2_lt (by omega)).mpr hy
      omega
  have hm := List.mem_of_getElem? hv
  simp only [List.mem_cons, List.not_mem_nil, or_false] at hm
  rcases hm with e | e | e | e | e | e | e | e | e
  · exact ki _ e (by omega)
  · exact ki _ e (by omega)
  · subst e
    exact k _ H2 (.bool _) ⟨rfl, by simp [PyData.depth], by simp [PyData.weight], Nat.zero_le _⟩ R13 (.bl _) (own_not fun _ z => nomatch z)
  · exact ki _ e (by omega)
  · exact ki _ e (by omega)
  · subst e
    exact k _ H2 .none ⟨rfl, by simp [PyData.depth], by simp [PyData.weight], Nat.zero_le _⟩ R13 .non (own_not fun _ z => nomatch z)
  · subst e
    have tl : (Str.ofString (toString x)).length ≤ 62 := by
      rw [PySem.ofString_length]
      exact int_text_length_le10 (k := 60 + 1) (by decide) (Nat.lt_of_le_of_lt (Nat.le_trans hx q2) (by decide +kernel)) |> fun z => by omega
    have tw : wlD (7 * L + 1) (2 * Bd + 1) (N + 1) (.str (Str.ofString (toString x))) = true := by
      simp only [wlD, Bool.and_eq_true, decide_eq_true_eq]
      refine ⟨by omega, ?_⟩
      rw [← Array.all_toList, List.all_eq_true]
      intro c m
      refine decide_eq_true ?_
      refine Classical.byContradiction fun hc => PyProof.Rows.int_text_free' c ⟨by omega, by omega⟩ x m
    have t2 : (Str.ofString (toString x)).cps.size ≤ 62 := tl
    exact k _ H2 (.str _) ⟨tw, by simp [PyData.depth], by simp only [PyData.weight]; omega, Nat.zero_le _⟩ R13 (.str _) (own_not fun _ z => nomatch z)
  · exact ki _ e (by omega)
  · exact ki _ e (by omega)
end
end K02
namespace K02
open PySem PySem.Spec PyProof.Rows L2 Sw StX RZ
/-- bent: what may come of d -/
structure Bn (L B N : Nat) (d d' : PyData) : Prop where
  wl : wlD (7 * L + 1) (2 * B + 1) (N + 1) d' = true
  dp : d'.depth ≤ d.depth + 2
  wt : d'.weight ≤ 2 * d.weight + (301 + 7 * L)
  len : lenT d' ≤ lenT d + 60
theorem wlA_iff {L B N : Nat} : ∀ {ds : List PyData}, wlA L B N ds = true ↔ ∀ d ∈ ds, wlD L B N d = true
  | [] => by simp [wlA]
  | d :: ds => by
    simp only [wlA, Bool.and_eq_true, List.mem_cons, forall_eq_or_imp, wlA_iff (ds := ds)]
theorem wl_in {L B N : Nat} {ds : List PyData} {d : PyData} (h : wlD L B N (.tuple ds) = true) (m : d ∈ ds) : wlD L B N d = true := wlA_iff.mp (by simpa only [wlD] using h) d m
theorem wl_up {L B N : Nat} {d : PyData} (h : wlD L B N d = true) : wlD (7 * L + 1) (2 * B + 1) (N + 1) d = true := wl_mono (by omega) (by omega) (by omega) h
/-- the items of what comes of a tuple -/
structure BnA (L B N : Nat) (ds es : List PyData) : Prop where
  wl : ∀ e ∈ es, wlD (7 * L + 1) (2 * B + 1) (N + 1) e = true
  dp : ∀ e ∈ es, e.depth ≤ PyData.depthAll ds + 2
  wt : PyData.weightAll es ≤ 2 * PyData.weightAll ds + (301 + 7 * L)
  len : es.length ≤ ds.length + 60
theorem BnA.tup {L B N : Nat} {ds es : List PyData} (h : BnA L B N ds es) : Bn L B N (.tuple ds) (.tuple es) := ⟨by simp only [wlD]; exact wlA_iff.mpr h.wl, by simp only [PyData.depth]; have := dpA_le.mpr h.dp; omega, by simp only [PyData.weight]; exact h.wt, h.len⟩
theorem BnA.lst {L B N : Nat} {ds es : List PyData} (h : BnA L B N ds es) : Bn L B N (.tuple ds) (.list es) := ⟨by simp only [wlD]; exact wlA_iff.mpr h.wl, by simp only [PyData.depth]; have := dpA_le.mpr h.dp; omega, by simp only [PyData.weight]; exact h.wt, Nat.zero_le _⟩
theorem BnA.of {L B N : Nat} {ds es : List PyData} (hw : wlD L B N (.tuple ds) = true) (hm : ∀ e ∈ es, e ∈ ds ∨ e = .none) (hwt : PyData.weightAll es ≤ 2 * PyData.weightAll ds + (301 + 7 * L)) (hl : es.length ≤ ds.length + 60) : BnA L B N ds es := by
  refine ⟨fun e he => ?_, fun e he => ?_, hwt, hl⟩
  · rcases hm e he with h | rfl
    · exact wl_up (wl_in hw h)
    · rfl
  · rcases hm e he with h | rfl
    · have := depth_mem h
      omega
    · simp [PyData.depth]
theorem sliD_last (ds : List PyData) : (sliD ds (some (-1)) none).length ≤ 1 := by
  unfold sliD
  rw [List.length_take, List.length_drop]
  rw [sIx_last]
  omega
/-- a dict of one entry at most -/
theorem Bn.dct {L B N : Nat} {k e : PyData} {es : List (PyData × PyData)} (hk : ∀ p ∈ es, wlD (7 * L + 1) (2 * B + 1) (N + 1) p.1 = true ∧ p.1.depth = 0 ∧ wlD (7 * L + 1) (2 * B + 1) (N + 1) p.2 = true ∧ p.2.depth ≤ e.depth + 2) (hl : es.length ≤ N + 1) (hw : PyData.weightKv es ≤ 2 * PyData.weightKv [(k, e)] + (301 + 7 * L)) : Bn L B N (.dict [(k, e)]) (.dict es) := by
  have a1 : ∀ es : List (PyData × PyData), (∀ p ∈ es, wlD (7 * L + 1) (2 * B + 1) (N + 1) p.1 = true ∧ p.1.depth = 0 ∧ wlD (7 * L + 1) (2 * B + 1) (N + 1) p.2 = true ∧ p.2.depth ≤ e.depth + 2) → wlK (7 * L + 1) (2 * B + 1) (N + 1) es = true ∧ PyData.depthKv es ≤ e.depth + 2 := by
    intro es h
    induction es with
    | nil => exact ⟨rfl, Nat.zero_le _⟩
    | cons p es ih =>
      obtain ⟨h1, h2, h3, h4⟩ := h p List.mem_cons_self
      obtain ⟨i1, i2⟩ := ih fun q hq => h q (List.mem_cons_of_mem _ hq)
      refine ⟨by simp only [wlK, h1, h3, i1, Bool.and_self], ?_⟩
      simp only [PyData.depthKv]
      omega
  obtain ⟨b1, b2⟩ := a1 es hk
  refine ⟨by simp only [wlD, b1, Bool.and_true, decide_eq_true_eq]; exact hl, ?_, ?_, Nat.zero_le _⟩
  · simp only [PyData.depth, PyData.depthKv]
    omega
  · simp only [PyData.weight]
    exact hw
theorem Bn.near {L B N : Nat} {d d' : PyData} (h : Nr (7 * L + 1) (2 * B + 1) (N + 1) d') : Bn L B N d d' := ⟨h.1, by have := h.2.1; omega, by have := h.2.2.1; omega, by have := h.2.2.2; omega⟩
section
variable {P : Program} {w : World} {K : PySem.W.Frag} {mg : Str → Option Value} {base : Heap}
def spBent (K : PySem.W.Frag) (n : Nat) : Sp := fun vs H Q _ => ∃ (b : Addr) (mu : Addr → Prop) (v : V) (d : PyData) (L B N : Nat), vs = [.ref b, v, .int n] ∧ mu b ∧ BagAt H b ∧ MuOk mu H ∧ Dt K mu H v d ∧ Ok d ∧ wlD L B N d = true ∧ 13 ≤ L ∧ L ≤ 100 ∧ 10 ≤ B ∧ B ≤ 10 ^ 60 ∧ N ≤ 1 ∧
  ∀ v' H' d', Bn L B N d d' → Rel b H H' → Dt K mu H' v' d' → Q v' H'
abbrev s_law_bent : Stmt := topS 33
theorem sc__law_bent : FnScope ["bag", "thing", "deep", "way", "at", "found", "key"] ["bag", "thing", "deep"] (defScope s_law_bent) := ⟨rfl, rfl, rfl, by decide +kernel, rfl, by decide +kernel, by decide +kernel⟩
theorem ok__law_bent {f : Addr} {fd : FuncData} {j n : Nat} {sp : Sp} (hj : 4 ≤ j) (hsp : n = 0 ∨ ∃ m, n = m + 1 ∧ sp = spBent K m) (F : Fun K "_law_bent" "_law_bent" s_law_bent f fd) (B : Bt mg) (c__law_take : CalG P w K mg base 1 "_law_take" spTake) (c__law_some : CalG P w K mg base 2 "_law_some" spSome) (c__law_near : CalG P w K mg base 4 "_law_near" (spNear K)) (c__law_bent : CalG P w K mg base j "_law_bent" sp) : FnG P w K mg base (j + 1) f fd ["bag", "thing", "deep"] (spBent K n) := by
  refine Fun.okG F sc__law_bent (fun vs H Q E h => ?_) (fun cdv A outer s H vs Q E hg hr h => ?_)
  · obtain ⟨_, _, _, _, _, _, _, rfl, _⟩ := h
    rfl
  obtain ⟨b, mu, v, d, L, Bd, N, rfl, hmu, hb, hM, hd, od, hw, l1, l2, q1, q2, hN, k⟩ := h
  have hu := Room.u64 hr
  have hu1 : (A.deeper (envOfC "_law_bent" (defScope s_law_bent) s.heap.objs.size f cdv)).units + 1 < cLine := by omega
  refine ⟨_, (pss_cons (ps_if (PW.pt (pw_or (pt_cmpR op_eq (pv 2) pe_int (nomark _)) (pw_or1 (pt_cmpR op_eq (pc c__law_take hg hr (by omega) (by rfl) (pa_cons (pv 0) (pa_cons pe_int pa_nil))) pe_int (nomark _)))))
      (pss_one (ps_ret (pc c__law_near hg hr (by omega) (by rfl) (pa_cons (pv 0) (pa_cons (pv 1) pa_nil)))))
      pss_nil)
    (pss_cons (ps_if (PW.pt (pw_and (pt_val (pe_callB call_isD (by rfl) B.isin bb_isin (pa_cons (pv 1) (pa_cons (pe_bltn (v := .ty "tuple") rfl B.tuple bb_tuple rfl) pa_nil)))) (pw_and1 (pt_cmpR (op_neNilT (K := K) rfl hu) (pv 1) (pe_tup pa_nil) (nomark _)))))
      (pss_cons (ps_par (i := 3) (j := 4) rfl sc__law_bent.nd rfl rfl (by decide) rfl rfl (pa_cons (pc c__law_take hg hr (by omega) (by rfl) (pa_cons (pv 0) (pa_cons pe_int pa_nil))) (pa_cons (pc c__law_take hg hr (by omega) (by rfl) (pa_cons (pv 0) (pa_cons (pe_callB call_lenA (by rfl) B.len boot_len (pa_cons (pv 1) pa_nil)) pa_nil))) pa_nil)) (by rfl))
      (pss_cons (ps_if (pt_cmpR op_eq (pv 3) pe_int (nomark _))
        (pss_one (ps_ret (pc c__law_some hg hr (by omega) (by rfl) (pa_cons (pv 0) (pa_cons (pe_lst (pa_cons (pe_callTy call_listN (by rfl) B.list bb_list (pa_cons (pv 1) pa_nil)) (pa_cons (pe_op op_catA (pv 1) (pe_slice sl_tupA (pv 1) (po_some (pe_un un_neg pe_int)) po_none)) (pa_cons (pe_slice sl_tupA (pv 1) po_none (po_some (pe_un un_neg pe_int))) (pa_cons (pe_revT (pv 1)) (pa_cons (pe_op op_catA (pv 1) (pe_tup (pa_cons pe_non pa_nil))) (pa_cons (pe_slice sl_tupA (pv 1) (po_some pe_int) po_none) pa_nil))))))) pa_nil)))))
        pss_nil)
      (pss_one (ps_ret (pe_op op_catA (pe_op op_catA (pe_slice sl_tupA (pv 1) po_none (po_some (pv 4))) (pe_tup (pa_cons (pc c__law_bent hg hr (by omega) (by rfl) (pa_cons (pv 0) (pa_cons (pe_ix ix_tup (pv 1) (pv 4) (fun _ _ => rfl)) (pa_cons (pe_op op_sub (pv 2) pe_int) pa_nil)))) pa_nil))) (pe_slice sl_tupA (pv 1) (po_some (pe_op op_add (pv 4) pe_int)) po_none))))))
      pss_nil)
    (pss_cons (ps_if (PW.pt (pw_and (pt_val (pe_callB call_isD (by rfl) B.isin bb_isin (pa_cons (pv 1) (pa_cons (pe_bltn (v := .ty "dict") rfl B.dict bb_dict rfl) pa_nil)))) (pw_and1 (pt_cmpR (op_neNilD hu) (pv 1) pe_dnewN (nomark _)))))
      (pss_cons (ps_par (i := 5) (j := 6) rfl sc__law_bent.nd rfl rfl (by decide) rfl rfl (pa_cons (pe_callTy call_dictN (by rfl) B.dict bb_dict (pa_cons (pv 1) pa_nil)) (pa_cons (pc c__law_some hg hr (by omega) (by rfl) (pa_cons (pv 0) (pa_cons (pe_callTy (call_listD rfl) (by rfl) B.list bb_list (pa_cons (pv 1) pa_nil)) pa_nil))) pa_nil)) (by rfl))
      (pss_cons (ps_set (i := 3) sc__law_bent.nd rfl (Or.inl rfl) (pc c__law_take hg hr (by omega) (by rfl) (pa_cons (pv 0) (pa_cons pe_int pa_nil))))
      (pss_cons (ps_if (pt_cmpR op_eq (pv 3) pe_int (nomark _))
        (pss_one (ps_expr (pe_dpop1 (pv 5) (pv 6) ⟨rfl, rfl, rfl, rfl⟩)))
        (pss_one (ps_if (pt_cmpR op_eq (pv 3) pe_int (nomark _))
          (pss_one (ps_asg (pe_dget hu1 (pv 5) (pv 6) (fun _ _ => rfl)) (pg_sub (pv 5) (pc c__law_some hg hr (by omega) (by rfl) (pa_cons (pv 0) (pa_cons (pe_lst (pa_cons pe_str (pa_cons pe_int (pa_cons pe_str pa_nil)))) pa_nil))) (set_dict hu1))))
          (pss_one (ps_asg (pc c__law_bent hg hr (by omega) (by rfl) (pa_cons (pv 0) (pa_cons (pe_dget hu1 (pv 5) (pv 6) (fun _ _ => rfl)) (pa_cons (pe_op op_sub (pv 2) pe_int) pa_nil)))) (pg_sub (pv 5) (pv 6) (set_dict hu1)))))))
      (pss_one (ps_ret (pv 5))))))
      pss_nil)
    (pss_one (ps_ret (pc c__law_near hg hr (by omega) (by rfl) (pa_cons (pv 0) (pa_cons (pv 1) pa_nil)))))))), ?_⟩
  have near : ∀ {H1 : Hp}, Rel b H H1 → spNear K [.ref b, v] H1 Q E0 := fun R => ⟨b, mu, v, d, L, Bd, N, rfl, hmu, R.bag, hM.rel R, hd.fut (R.fut hmu hb), od, hw, l1, l2, q1, q2, fun v' H' d' hn R' hv' ho' => k v' H' d' (.near hn) (R.trans R') hv'⟩
  refine ⟨_, rfl, rfl, _, rfl, iteEq (fun _ => ⟨_, rfl, _, rfl, near (.refl hb)⟩) fun en => ?_⟩
  refine ⟨_, rfl, b, 9, rfl, hb, by decide, by decide, fun t H1 t0 t1 R1 => ⟨rfl, _, rfl, iteEq (fun _ => ⟨_, rfl, _, rfl, near R1⟩) fun _ => ?_⟩⟩
  have hd1 := hd.fut (R1.fut hmu hb)
  have hb1 := R1.bag
  have hM1 := hM.rel R1
  refine ⟨_, rfl, v, "tuple", mu, d, rfl, by decide, hd1, _, rfl, iteB (fun ht => ?_) fun ht => ?_⟩
  · obtain ⟨ds, rfl⟩ := (isTup d).mp ht
    obtain ⟨a, xs, rfl, hS0, hA0⟩ := hd.tupAt
    have hS := sq_fut hS0 (R1.fut hmu hb)
    have hA := hA0.fut (R1.fut hmu hb)
    have hxl := hA.length
    refine ⟨_, rfl, Nat.zero_le _, fun q nq => ⟨a, q, xs, rfl, rfl, (same_upd nq).seqT hS, .of upd_same, _, rfl, iteB (fun hx => ?_) fun hx => ?_⟩⟩
    rotate_left
    · exact ⟨_, rfl, _, "dict", mu, _, rfl, by decide, hd1.fut (.of_same (same_upd nq)), _, rfl, iteF ⟨_, rfl, _, rfl, near (R1.same (same_upd nq))⟩⟩
    have hx0 : 0 < xs.length := by
      cases xs with
      | nil => exact absurd hx (by decide)
      | cons _ _ => exact Nat.zero_lt_succ _
    have Rq := R1.same (same_upd (o := .tup []) nq)
    revert Rq
    generalize upd H1 q (.tup []) = Hq
    intro Rq
    have hlw := len_wt ds
    have hwt : PyData.weightAll ds ≤ 27000 := by
      have := od.wt
      simpa only [PyData.weight] using this
    have sl := sizeLine_eq
    have at1 : ∀ {H' : Hp}, Rel b H H' → SqT K H' a xs := fun R => sq_fut hS0 (R.fut hmu hb)
    have dt1 : ∀ {H' : Hp}, Rel b H H' → DtA K mu H' xs ds := fun R => hA0.fut (R.fut hmu hb)
    refine ⟨_, rfl, b, 9, rfl, Rq.bag, by decide, by decide, fun way H3 w0 w1 R3 => ⟨_, rfl, _, rfl, _, _, rfl, .inr ⟨xs, at1 (Rq.trans R3), rfl⟩, b, _, rfl, R3.bag, by omega, by omega, fun at4 H4 a0 a1 R4 => ⟨_, _, rfl, ?_⟩⟩⟩
    have Rq4 := (Rq.trans R3).trans R4
    have hb4 := Rq4.bag
    refine ⟨_, rfl, rfl, _, rfl, iteEq (fun _ => ?_) fun _ => ?_⟩
    · have gv : ∀ {σ : L2.St}, σ[1]? = some (some (.ref a)) → Gs K b σ H4 (tVar 1) xs := fun hσ => gs_var hb4 hσ (at1 Rq4)
      have dA := dt1 Rq4
      have it : ∀ {es : List PyData}, (∀ e ∈ es, e ∈ ds ∨ e = .none) → PyData.weightAll es ≤ 2 * PyData.weightAll ds + (301 + 7 * L) → es.length ≤ ds.length + 60 → BnA L Bd N ds es := fun h1 h2 h3 => .of hw h1 h2 h3
      have hc := sliD_len ds (some (-1)) none
      have hcw := sliD_wt ds (some (-1)) none
      refine gn_some (K := K) (b := b) (mu := mu) (D := Bn L Bd N (.tuple ds)) (n := 6) hmu rfl
        (gnA_cons hmu ((gv rfl).gnL hmu hb4 dA (it (fun e h => .inl h) (by omega) (by omega)).lst)
        (gnA_cons hmu ((gs_cat (gv rfl) (gs_sl (gv rfl) gp_neg gp_none) (by have := cutV_length xs (some (-1)) none; omega)).gn hmu hb4 (dA.append (dtA_cut dA)) (it (fun e h => .inl ((List.mem_append.mp h).elim id sliD_mem)) (by rw [wtA_app]; omega) (by rw [List.length_append]; have := sliD_last ds; omega)).tup)
        (gnA_cons hmu ((gs_sl (gv rfl) gp_none gp_neg).gn hmu hb4 (dtA_cut dA) (it (fun e h => .inl (sliD_mem h)) (by have := sliD_wt ds none (some (-1)); omega) (by have := sliD_len ds none (some (-1)); omega)).tup)
        (gnA_cons hmu ((gs_rev (gv rfl)).gn hmu hb4 (dtA_revS dA) (it (fun e h => .inl (List.mem_reverse.mp h)) (by rw [wtA_rev]; omega) (by rw [List.length_reverse]; omega)).tup)
        (gnA_cons hmu ((gs_cat (gv rfl) (gs_tup1 (v := .non) (fun _ _ q => q)) (by show _ + 1 ≤ _; omega)).gn hmu hb4 (dA.append (.cons .non .nil)) (it (fun e h => (List.mem_append.mp h).imp id List.mem_singleton.mp) (by rw [wtA_app]; simp [PyData.weightAll, PyData.weight]; omega) (by rw [List.length_append]; show _ + 1 ≤ _; omega)).tup)
        (gnA_cons hmu ((gs_sl (gv rfl) gp_int gp_none).gn hmu hb4 (dtA_cut dA) (it (fun e h => .inl (sliD_mem h)) (by have := sliD_wt ds (some 1) none; omega) (by have := sliD_len ds (some 1) none; omega)).tup)
        gnA_nil)))))) (by decide) (by decide) H4 (.refl hb4) (hM.rel Rq4) _ fun v' H5 d5 hd5 R5 hv5 => ?_
      exact k v' H5 d5 hd5 (Rq4.trans R5) hv5
    · obtain ⟨i4, rfl⟩ : ∃ i4 : Nat, at4 = (i4 : Int) := ⟨at4.toNat, by omega⟩
      refine ⟨_, rfl, _, rfl, _, rfl, sl_use (at1 Rq4) fun p1 H5 s5 hp1 => ?_⟩
      rw [cutV_upto] at hp1
      have Rq5 := Rq4.same s5
      have hi4 : i4 < xs.length := by omega
      obtain ⟨e, he, hxe⟩ := (dt1 Rq5).get (List.getElem?_eq_getElem hi4)
      have hem := List.mem_of_getElem? he
      have hde := depth_mem hem
      have hwe := wtA_split he
      obtain ⟨k1, rfl, rfl⟩ : ∃ k1, n = k1 + 1 ∧ sp = spBent K k1 := by
        rcases hsp with h | h
        · omega
        · exact h
      have em : ((k1 + 1 : Nat) : Int) - 1 = (k1 : Nat) := by omega
      refine ⟨_, rfl, _, rfl, _, rfl, a, xs, (i4 : Int), _, rfl, rfl, at1 Rq5, atI_nat (List.getElem?_eq_getElem hi4), _, rfl, _, _, rfl, rfl, b, mu, _, e, L, Bd, N, congrArg (fun z => [V.ref b, xs[i4], V.int z]) em, hmu, Rq5.bag, hM.rel Rq5, hxe, od.inT hem, wl_in hw hem, l1, l2, q1, q2, hN, fun v6 H6 d6 hd6 R6 hv6 => ⟨Nat.le_of_lt (small1000 (show 1 ≤ 1000 by decide)), fun p2 n2 => ?_⟩⟩
      have s6 := same_upd (o := .tup [v6]) n2
      have f56 : Fut mu H5 H6 := R6.fut hmu Rq5.bag
      refine cat_use (s6.seqT (sq_fut hp1 f56)) (.of upd_same) (by rw [List.length_take]; show _ + 1 ≤ _; omega) fun p3 H7 s7 hp3 => ?_
      have Rq7 := ((Rq5.trans R6).same s6).same s7
      refine ⟨_, rfl, _, rfl, _, _, rfl, rfl, _, rfl, nopart (sl_use (at1 Rq7) fun p4 H8 s8 hp4 => ?_)⟩
      rw [show (i4 : Int) + 1 = ((i4 + 1 : Nat) : Int) from by omega, cutV_fromN] at hp4
      refine cat_use (s8.seqT hp3) hp4 (by simp only [List.length_append, List.length_take, List.length_drop, List.length_cons, List.length_nil]; omega) fun p5 H9 s9 hp5 => ?_
      have Rq9 := (Rq7.same s8).same s9
      have hv9 := hv6.fut (.of_same (((s6.trans s7).trans s8).trans s9))
      have hA9 := dt1 Rq9
      have tk := wtA_take ds i4
      refine k _ H9 _ (BnA.tup (es := ds.take i4 ++ [d6] ++ ds.drop (i4 + 1)) ⟨fun e' h => ?_, fun e' h => ?_, ?_, ?_⟩) Rq9 (dt_tupS hp5 (((hA9.take i4).append (.cons hv9 .nil)).append (hA9.drop (i4 + 1))))
      · rcases List.mem_append.mp h with h | h
        · rcases List.mem_append.mp h with h | h
          · exact wl_up (wl_in hw (List.mem_of_mem_take h))
          · rw [List.mem_singleton.mp h]
            exact hd6.wl
        · exact wl_up (wl_in hw (List.mem_of_mem_drop h))
      · have := hd6.dp
        rcases List.mem_append.mp h with h | h
        · rcases List.mem_append.mp h with h | h
          · have := depth_mem (List.mem_of_mem_take h)
            omega
          · rw [List.mem_singleton.mp h]
            omega
        · have := depth_mem (List.mem_of_mem_drop h)
          omega
      · have := hd6.wt
        rw [wtA_app, wt_one]
        omega
      · simp only [List.length_append, List.length_take, List.length_drop, List.length_cons, List.length_nil]
        omega
  · refine ⟨_, rfl, v, "dict", mu, d, rfl, by decide, hd1, _, rfl, iteB (fun hc => ?_) fun hc => ⟨_, rfl, _, rfl, near R1⟩⟩
    obtain ⟨kds, rfl⟩ : ∃ kds, d = .dict kds := by
      cases d <;> first | exact ⟨_, rfl⟩ | (simp [isT, tyName] at hc)
    obtain ⟨a, kvs, rfl, na, hR0, hK0⟩ : ∃ a kvs, v = .ref a ∧ ¬ mu a ∧ Rd H a (.dK kvs) ∧ DtK K mu H kvs kds := by
      cases hd with
      | dct n r h => exact ⟨_, _, rfl, n, r, h⟩
    have fu : ∀ {H' : Hp}, Rel b H H' → Fut mu H H' := fun R => R.fut hmu hb
    have rd1 : ∀ {H' : Hp}, Rel b H H' → Rd H' a (.dK kvs) := fun R => (fu R).rd na hR0
    refine ⟨_, rfl, fun p0 n0 m0 => ⟨a, p0, kvs, rfl, rfl, rd1 (R1.same (same_upd n0)), .inl upd_same, _, rfl, iteB (fun hx => ?_) fun _ => ⟨_, rfl, _, rfl, near (R1.same (same_upd n0))⟩⟩⟩
    have R2 := R1.same (same_upd (o := .dK []) n0)
    revert R2
    generalize upd H1 p0 (.dK []) = H2
    intro R2
    have hkl : kds.length ≤ N ∧ wlK L Bd N kds = true := by simpa only [wlD, Bool.and_eq_true, decide_eq_true_eq] using hw
    obtain ⟨k0, v0, e0, rfl, rfl, hv0⟩ : ∃ k0 v0 e0, kvs = [(k0, v0)] ∧ kds = [(keyD k0, e0)] ∧ Dt K mu H v0 e0 := by
      cases hK0 with
      | nil => exact absurd hx (by decide)
      | cons h t =>
        cases t with
        | nil => exact ⟨_, _, _, rfl, rfl, h⟩
        | cons _ _ =>
          have := hkl.1
          simp only [List.length_cons] at this
          omega
    have h0 := rd1 R2
    refine ⟨_, rfl, a, _, rfl, rd1 R2, fun F nF sF => ⟨_, rfl, _, rfl, a, _, rfl, rd1 (R2.same (same_upd nF)), fun p2 n2 => ⟨b, p2, [kV k0], rfl, ((R2.same (same_upd nF)).same (same_upd n2)).bag, bag_ne (R2.same (same_upd nF)).bag n2, upd_same, by simp, by simp, fun i y H3 hy R3 => ⟨_, _, rfl, ?_⟩⟩⟩⟩
    obtain rfl : y = kV k0 := by
      have := List.mem_of_getElem? hy
      simpa using this
    have R23 := ((R2.same (same_upd nF)).same (same_upd n2)).trans R3
    have nF0 := R2.some nF
    have nFb := bag_ne R2.bag nF
    have nFm := hM.new nF0 sF
    have hF3 : H3 F = some (.dK [(k0, v0)]) := R3.keep _ _ nFb ((same_upd n2) _ _ upd_same)
    have hvm := Dt.more nF0 hv0
    revert R23 hF3
    clear R3 h0
    generalize H3 = H3
    intro R23 hF3
    refine ⟨_, rfl, b, 6, rfl, R23.bag, by decide, by decide, fun way H4 w0 w1 R4 => ?_⟩
    have R24 := R23.trans R4
    have hF4 := R4.keep _ _ nFb hF3
    have kw0 : wlD L Bd N (keyD k0) = true ∧ wlD L Bd N e0 = true := by
      have := hkl.2
      simp only [wlK, Bool.and_true, Bool.and_eq_true] at this
      exact this
    have kd : ∀ k : Key, (keyD k).depth = 0 := fun k => by cases k <;> simp [keyD, PyData.depth]
    have fin : ∀ (es : List (PyData × PyData)) (kvs : List (Key × V)) (G : Hp), Rel b H G → DtK K (fun a => mu a ∨ a = F) G kvs es → G F = some (.dK [(k0, v0)]) →
        (∀ p ∈ es, wlD (7 * L + 1) (2 * Bd + 1) (N + 1) p.1 = true ∧ p.1.depth = 0 ∧ wlD (7 * L + 1) (2 * Bd + 1) (N + 1) p.2 = true ∧ p.2.depth ≤ e0.depth + 2) → es.length ≤ N + 1 → PyData.weightKv es ≤ 2 * PyData.weightKv [(keyD k0, e0)] + (301 + 7 * L) → Q (.ref F) (upd G F (.dK kvs)) := fun es kvs G RG hK hG h1 h2 h3 =>
      k (.ref F) _ (.dict es) (Bn.dct h1 h2 h3) (RG.at hb nF0) (.dct nFm (.inl upd_same) ((DtK.fut ((fut_atD hG).mono fun a z => .inr z) hK).less fun a z => .inl z))
    have base : ∀ p ∈ [(keyD k0, e0)], wlD (7 * L + 1) (2 * Bd + 1) (N + 1) p.1 = true ∧ p.1.depth = 0 ∧ wlD (7 * L + 1) (2 * Bd + 1) (N + 1) p.2 = true ∧ p.2.depth ≤ e0.depth + 2 := fun p hp => by
      rw [List.mem_singleton.mp hp]
      exact ⟨wl_up kw0.1, kd k0, wl_up kw0.2, Nat.le_add_right _ _⟩
    have hv4 : ∀ {G : Hp}, Rel b H G → Dt K (fun a => mu a ∨ a = F) G v0 e0 := fun R => hvm.fut (R.fut (.inl hmu) hb)
    have val0 : valV [(k0, v0)] k0 = some v0 := valV_pos rfl
    refine ⟨_, rfl, rfl, _, rfl, iteEq (fun _ => ?_) fun _ => ?_⟩
    · refine ⟨_, rfl, F, rfl, .inl ⟨_, .inl hF4⟩, _, rfl, _, k0, v0, hF4, rfl, val0, _, rfl, ?_⟩
      rw [show dropK [(k0, v0)] k0 = [] by simp [dropK]]
      exact fin [] [] H4 R24 .nil hF4 (fun _ h => nomatch h) (Nat.zero_le _) (by simp [PyData.weightKv])
    refine ⟨_, rfl, rfl, _, rfl, iteEq (fun _ => ?_) fun _ => ?_⟩
    · refine ⟨_, rfl, _, rfl, F, v0, rfl, ?_, ?_⟩
      · rw [← val0]
        exact DGet.k hF4
      · refine ⟨_, rfl, _, rfl, sz (by simp), fun p3 n3 => ?_⟩
        have s3 := same_upd (o := .lst [.str "zz", .int 5, .str "A"]) n3
        refine ⟨b, p3, _, rfl, (R24.same s3).bag, bag_ne R24.bag n3, upd_same, by simp, by simp, fun ix y H5 hy5 R5 => ?_⟩
        have R25 := (R24.same s3).trans R5
        have hF5 := R5.keep _ _ nFb (s3 _ _ hF4)
        obtain ⟨k', rfl, hk1, hk2⟩ : ∃ k' : Key, y = kV k' ∧ wlD 13 10 1 (keyD k') = true ∧ (keyD k').weight ≤ 3 := by
          have := List.mem_of_getElem? hy5
          simp only [List.mem_cons, List.not_mem_nil, or_false] at this
          rcases this with rfl | rfl | rfl
          · exact ⟨.inr "zz", rfl, by decide +kernel, by decide +kernel⟩
          · exact ⟨.inl 5, rfl, by decide +kernel, by decide +kernel⟩
          · exact ⟨.inr "A", rfl, by decide +kernel, by decide +kernel⟩
        refine ⟨F, _, rfl, DPut.k hF5 (show 1 < sizeLine by rw [sizeLine_eq]; decide), _, rfl, ?_⟩
        by_cases ek : k0 = k'
        · subst ek
          rw [show putK [(k0, v0)] k0 v0 = [(k0, v0)] by simp [putK]]
          exact fin [(keyD k0, e0)] _ H5 R25 (.cons (hv4 R25) .nil) hF5 base (by simp) (by simp only [PyData.weightKv]; omega)
        · rw [show putK [(k0, v0)] k' v0 = [(k0, v0), (k', v0)] by simp [putK, ek]]
          refine fin [(keyD k0, e0), (keyD k', e0)] _ H5 R25 (.cons (hv4 R25) (.cons (hv4 R25) .nil)) hF5 (fun p hp => ?_) (by have := hkl.1; simp only [List.length_cons, List.length_nil] at this ⊢; omega) (by simp only [PyData.weightKv]; omega)
          simp only [List.mem_cons, List.not_mem_nil, or_false] at hp
          rcases hp with rfl | rfl
          · exact base _ List.mem_cons_self
          · exact ⟨wl_mono (by omega) (by omega) (by omega) hk1, kd k', wl_up kw0.2, Nat.le_add_right _ _⟩
    · obtain ⟨k1, rfl, rfl⟩ : ∃ k1, n = k1 + 1 ∧ sp = spBent K k1 := by
        rcases hsp with h | h
        · omega
        · exact h
      have em : ((k1 + 1 : Nat) : Int) - 1 = (k1 : Nat) := by omega
      refine ⟨_, rfl, _, rfl, _, rfl, F, v0, rfl, ?_, ?_⟩
      · rw [← val0]
        exact DGet.k hF4
      have oe : Ok e0 := by
        have h1 := od.ok
        have h2 := od.dp
        have h3 := od.wt
        simp only [okD, okK, Bool.and_true, Bool.and_eq_true] at h1
        simp only [PyData.depth, PyData.depthKv] at h2
        simp only [PyData.weight, PyData.weightKv] at h3
        exact ⟨h1.2, by omega, by omega⟩
      refine ⟨_, rfl, _, _, rfl, rfl, b, (fun a => mu a ∨ a = F), _, e0, L, Bd, N, congrArg (fun z => [V.ref b, v0, V.int z]) em, .inl hmu, R24.bag, ?_, hv4 R24, oe, kw0.2, l1, l2, q1, q2, hN, fun v6 H6 d6 hd6 R6 hv6 => ?_⟩
      · intro z hz
        rcases hz with hz | rfl
        · exact (hM.rel R24) z hz
        · exact .inl (by rw [hF4]; exact fun z => nomatch z)
      have R26 := R24.trans R6
      have hF6 := R6.keep _ _ nFb hF4
      refine ⟨_, rfl, _, rfl, F, _, rfl, DPut.k hF6 (show 1 < sizeLine by rw [sizeLine_eq]; decide), _, rfl, ?_⟩
      rw [show putK [(k0, v0)] k0 v6 = [(k0, v6)] by simp [putK]]
      refine fin [(keyD k0, d6)] _ H6 R26 (.cons hv6 .nil) hF6 (fun p hp => ?_) (by simp) (by have := hd6.wt; simp only [PyData.weightKv]; omega)
      rw [List.mem_singleton.mp hp]
      exact ⟨wl_up kw0.1, kd k0, hd6.wl, hd6.dp⟩
def spBentA (K : PySem.W.Frag) : Sp := fun vs H Q E => ∃ n, n ≤ 5 ∧ spBent K n vs H Q E
theorem bent_chain {f : Addr} {fd : FuncData} (F : Fun K "_law_bent" "_law_bent" s_law_bent f fd) (B : Bt mg) (c1 : CalG P w K mg base 1 "_law_take" spTake) (c2 : CalG P w K mg base 2 "_law_some" spSome) (c3 : CalG P w K mg base 4 "_law_near" (spNear K))
    (mk : ∀ j sp, FnG P w K mg base j f fd ["bag", "thing", "deep"] sp → CalG P w K mg base j "_law_bent" sp) : ∀ n, FnG P w K mg base (5 + n) f fd ["bag", "thing", "deep"] (spBent K n)
  | 0 => ok__law_bent (sp := fun _ _ _ _ => False) (by decide) (.inl rfl) F B c1 c2 c3 (mk 4 _ ⟨fun _ _ _ _ h => h.elim, fun _ _ _ _ _ h => h.elim⟩)
  | n + 1 => ok__law_bent (show 4 ≤ 5 + n by omega) (.inr ⟨n, rfl, rfl⟩) F B c1 c2 c3 (mk _ _ (bent_chain F B c1 c2 c3 mk n))
theorem bent_any {f : Addr} {fd : FuncData} {ps : List Str} (h : ∀ n, FnG P w K mg base (5 + n) f fd ps (spBent K n)) : FnG P w K mg base 10 f fd ps (spBentA K) :=
  ⟨fun vs H Q E ⟨n, hn, z⟩ => (h n).len vs H Q E z, fun g hr e0 hb hv ⟨n, hn, z⟩ => ((h n).mono (by omega)).go g hr e0 hb hv z⟩
end
end K02
namespace K02
open PySem PySem.Spec PyProof.Rows L2 Sw StX RZ
/-- anything may change: what is known of tuples alone -/
abbrev mT : Addr → Prop := fun _ => True
mutual
theorem Dt.pure {K : PySem.W.Frag} {mu mv : Addr → Prop} {H : Hp} : ∀ {v : V} {d : PyData}, smD d = true → Dt K mu H v d → Dt K mv H v d
  | _, _, _, .non => .non
  | _, _, _, .bl b => .bl b
  | _, _, _, .int i => .int i
  | _, _, _, .str x => .str x
  | _, _, h, .lst _ _ _ => by simp [smD] at h
  | _, _, h, .dct _ _ _ => by simp [smD] at h
  | _, _, h, .tup r hA => .tup r (DtA.pure (by simpa only [smD] using h) hA)
  | _, _, h, .tupK r hA => .tupK r (DtA.pure (by simpa only [smD] using h) hA)
theorem DtA.pure {K : PySem.W.Frag} {mu mv : Addr → Prop} {H : Hp} : ∀ {vs : List V} {ds : List PyData}, smA ds = true → DtA K mu H vs ds → DtA K mv H vs ds
  | _, _, _, .nil => .nil
  | _, _, h, .cons a t => by
    simp only [smA, Bool.and_eq_true] at h
    exact .cons (Dt.pure h.1 a) (DtA.pure h.2 t)
end
theorem Rel.futT {b : Addr} {H H' : Hp} (r : Rel b H H') (hb : BagAt H b) : Fut mT H H' := r.fut trivial hb
theorem futT_lst {H : Hp} {a : Addr} {xs : List V} {o : HO} (h : H a = some (.lst xs)) : Fut mT H (upd H a o) := (fut_at h).mono fun _ _ => trivial
theorem futT_dct {H : Hp} {a : Addr} {kvs : List (Key × V)} {o : HO} (h : H a = some (.dK kvs)) : Fut mT H (upd H a o) := (fut_atD h).mono fun _ _ => trivial
theorem smA_app : ∀ xs ys : List PyData, smA (xs ++ ys) = (smA xs && smA ys)
  | [], ys => by simp [smA]
  | x :: xs, ys => by simp [smA, smA_app xs ys, Bool.and_assoc]
theorem smA_iff : ∀ {ds : List PyData}, smA ds = true ↔ ∀ d ∈ ds, smD d = true
  | [] => by simp [smA]
  | d :: ds => by
    simp only [smA, Bool.and_eq_true, List.mem_cons, forall_eq_or_imp, smA_iff (ds := ds)]
theorem smA_nd : ∀ {ds : List PyData}, smA ds = true → PyData.hasDictAll ds = false
  | [], _ => rfl
  | d :: ds, h => by
    simp only [smA, Bool.and_eq_true] at h
    have : d.hasDict = false := by
      cases d with
      | tuple xs =>
        have h1 := h.1
        simp only [smD] at h1
        simp only [PyData.hasDict]
        exact smA_nd h1
      | list _ => have h1 := h.1; simp [smD] at h1
      | dict _ => have h1 := h.1; simp [smD] at h1
      | _ => simp [PyData.hasDict]
    simp only [PyData.hasDictAll, this, smA_nd h.2, Bool.or_self]
theorem pair_app {α β : Type} {R : α → β → Prop} : ∀ {as bs : List α} {cs ds : List β}, Paired R as cs → Paired R bs ds → Paired R (as ++ bs) (cs ++ ds)
  | _, _, _, _, .nil, h => h
  | _, _, _, _, .cons a t, h => .cons a (pair_app t h)
def unS : V → Str
  | .str x => x
  | _ => ""
theorem map_unS : ∀ {zs : List V}, (∀ z ∈ zs, ∃ x, z = .str x) → (zs.map unS).map V.str = zs
  | [], _ => rfl
  | z :: zs, h => by
    obtain ⟨x, rfl⟩ := h z List.mem_cons_self
    rw [List.map_cons, List.map_cons, map_unS fun y hy => h y (List.mem_cons_of_mem _ hy)]
    rfl
/-- a list of texts, mixed -/
theorem perm_strs {zs : List V} {us : List Str} (h : zs.Perm (us.map V.str)) : ∃ ys : List Str, zs = ys.map V.str ∧ ys.Perm us := by
  have hs : ∀ z ∈ zs, ∃ x, z = .str x := fun z hz => by
    obtain ⟨x, _, e⟩ := List.mem_map.mp (h.mem_iff.mp hz)
    exact ⟨x, e.symm⟩
  refine ⟨zs.map unS, (map_unS hs).symm, ?_⟩
  have := h.map unS
  rw [List.map_map] at this
  have e : (unS ∘ V.str) = id := rfl
  rw [e, List.map_id] at this
  exact this
theorem str_nodup {ns ys : List Str} (h : ys.Perm ns) (nd : ns.Nodup) (hs : sortedS ys = true) : ascS ys = true := by
  rw [asc_pair]
  exact List.pairwise_and_iff.mpr ⟨sorted_pair ys hs, h.nodup_iff.mpr nd⟩
def NN : List Str := ["a", "b", "c", "dog", "e", "fir", "g", "h"]
def PN : List Str := ["x", "y", "z", "ann", "bo", "w"]
theorem nn_nd : NN.Nodup := by decide +kernel
theorem nn_pn : ∀ n ∈ NN, ∀ p ∈ PN, p ≠ n := by decide +kernel
theorem names_ok : ∀ n ∈ NN ++ PN, nameS n = true ∧ smD (.str n) = true ∧ (PyData.str n).weight ≤ 3 := by decide +kernel
/-- the place of a name -/
theorem idx_str {ys : List Str} {y : Str} (h : y ∈ ys) : ∃ (j : Nat) (z : V), (ys.map V.str)[j]? = some z ∧ eqV z (.str y) = true ∧ ∀ (m : Nat) (z' : V), m < j → (ys.map V.str)[m]? = some z' → eqV z' (.str y) = false := by
  induction ys with
  | nil => cases h
  | cons x xs ih =>
    by_cases e : x = y
    · subst e
      exact ⟨0, .str x, rfl, by simp [eqV], fun m _ hm => absurd hm (Nat.not_lt_zero m)⟩
    · obtain ⟨j, z, h1, h2, h3⟩ := ih (by
        rcases List.mem_cons.mp h with q | q
        · exact absurd q.symm e
        · exact q)
      refine ⟨j + 1, z, by simpa using h1, h2, fun m z' hm hz => ?_⟩
      cases m with
      | zero =>
        simp only [List.map_cons, List.getElem?_cons_zero, Option.some.injEq] at hz
        subst hz
        simp only [eqV, beq_eq_false_iff_ne]
        exact e
      | succ m => exact h3 m z' (by omega) (by simpa using hz)
theorem inV_str {y : Str} {ys : List Str} : inV (.str y) (ys.map V.str) = decide (y ∈ ys) := by
  rw [Bool.eq_iff_iff, decide_eq_true_eq]
  unfold inV
  rw [List.any_eq_true]
  constructor
  · rintro ⟨z, hz, e⟩
    obtain ⟨x, hx, rfl⟩ := List.mem_map.mp hz
    have : x = y := by simpa [eqV] using e
    rw [← this]
    exact hx
  · intro h
    exact ⟨.str y, List.mem_map_of_mem h, by simp [eqV]⟩
theorem flat_strs {ys : List Str} : (ys.map V.str).all flatV = true := by
  rw [List.all_eq_true]
  intro z hz
  obtain ⟨x, _, rfl⟩ := List.mem_map.mp hz
  rfl
/-- holdings, so far -/
structure HsF (name : Str) (r : Int) (hs : List PyData) : Prop where
  all : (hs.all fun h => holdD r h && !headIs name h) = true
  sm : smA hs = true
  dp : ∀ h ∈ hs, h.depth ≤ 8
/-- a holding's options -/
structure OpF (r : Int) (es : List PyData) : Prop where
  ne : es ≠ []
  all : clmA r es = true
  sm : smA es = true
  dp : ∀ e ∈ es, e.depth ≤ 6
theorem opF_of {r : Int} {ds es : List PyData} (hd : ∀ d ∈ ds, Cl r 2 d) (he : ∀ e ∈ es, e ∈ ds ∨ e = sh11) (hne : es ≠ []) : OpF r es := by
  have h : ∀ e ∈ es, Cl r 2 e := fun e he' => by
    rcases he e he' with h | rfl
    · exact hd e h
    · exact cl_sh11
  refine ⟨hne, ?_, smA_iff.mpr fun e he => (h e he).sd.ok, fun e he => Nat.le_trans (h e he).sd.dp (by decide)⟩
  rw [clmA_all, List.all_eq_true]
  exact fun e he => (h e he).clm
theorem OpF.take {r : Int} {es : List PyData} (h : OpF r es) : OpF r (es.take 1) := by
  obtain ⟨e, es', rfl⟩ : ∃ e es', es = e :: es' := by
    cases es with
    | nil => exact absurd rfl h.ne
    | cons e es' => exact ⟨_, _, rfl⟩
  refine ⟨by simp, ?_, ?_, fun x hx => h.dp x (List.mem_of_mem_take hx)⟩
  · have := h.all
    rw [clmA_all, List.all_eq_true] at this ⊢
    exact fun x hx => this x (List.mem_of_mem_take hx)
  · exact smA_iff.mpr fun x hx => smA_iff.mp h.sm x (List.mem_of_mem_take hx)
/-- one holding more -/
theorem hold_ok {name p : Str} {r : Int} {es : List PyData} (hp : p ∈ NN ++ PN) (hn : p ≠ name) (ho : OpF r es) : (holdD r (.tuple [.str p, .tuple es]) && !headIs name (.tuple [.str p, .tuple es])) = true ∧ smD (.tuple [.str p, .tuple es]) = true ∧ (PyData.tuple [.str p, .tuple es]).depth ≤ 8 ∧ (PyData.tuple [.str p, .tuple es]).weight ≤ 5 + PyData.weightAll es := by
  obtain ⟨n1, n2, n3⟩ := names_ok p hp
  have e : (!es.isEmpty) = true := by
    cases es with
    | nil => exact absurd rfl ho.ne
    | cons _ _ => rfl
  refine ⟨?_, ?_, ?_, ?_⟩
  · show ((nameS p && (!es.isEmpty && clmA r es)) && !decide (p = name)) = true
    rw [n1, e, ho.all, decide_eq_false hn]
    rfl
  · simp only [smD] at n2 ⊢
    simp only [smA, smD, n2, ho.sm, Bool.and_self]
  · have := dpA_le.mpr ho.dp
    simp only [PyData.depth, PyData.depthAll]
    omega
  · simp only [PyData.weight, PyData.weightAll] at n3 ⊢
    omega
theorem HsF.insert {name : Str} {r : Int} {hs : List PyData} {h : PyData} (hh : HsF name r hs) (n : Nat) (h1 : (holdD r h && !headIs name h) = true) (h2 : smD h = true) (h3 : h.depth ≤ 8) : HsF name r (hs.take n ++ [h] ++ hs.drop n) := by
  have hm : ∀ x ∈ hs.take n ++ [h] ++ hs.drop n, x ∈ hs ∨ x = h := fun x hx => by
    simp only [List.mem_append, List.mem_singleton] at hx
    rcases hx with (hx | hx) | hx
    · exact .inl (List.mem_of_mem_take hx)
    · exact .inr hx
    · exact .inl (List.mem_of_mem_drop hx)
  refine ⟨List.all_eq_true.mpr fun x hx => ?_, smA_iff.mpr fun x hx => ?_, fun x hx => ?_⟩
  · rcases hm x hx with q | rfl
    · exact List.all_eq_true.mp hh.all x q
    · exact h1
  · rcases hm x hx with q | rfl
    · exact smA_iff.mp hh.sm x q
    · exact h2
  · rcases hm x hx with q | rfl
    · exact hh.dp x q
    · exact h3
theorem wtA_insert (hs : List PyData) (n : Nat) (h : PyData) : PyData.weightAll (hs.take n ++ [h] ++ hs.drop n) = PyData.weightAll hs + h.weight + 1 := by
  have := wtA_take hs n
  rw [wtA_app, wt_one]
  omega
/-- firms, so far -/
structure FsF (ns : List Str) (fs : List PyData) : Prop where
  all : fs.all firmD = true
  sm : smA fs = true
  dp : ∀ f ∈ fs, f.depth ≤ 10
  nm : fs.map nmS = ns
theorem FsF.snoc {ns : List Str} {fs : List PyData} {name : Str} {r : Int} {hs : List PyData} (h : FsF ns fs) (hn : name ∈ NN) (r0 : 0 ≤ r) (r6 : r ≤ 6) (hh : HsF name r hs) : FsF (ns ++ [name]) (fs ++ [.tuple [.str name, .int r, .tuple hs]]) := by
  obtain ⟨n1, n2, n3⟩ := names_ok name (List.mem_append_left _ hn)
  refine ⟨?_, ?_, fun f hf => ?_, ?_⟩
  · rw [List.all_append, h.all, List.all_cons]
    show (true && ((nameS name && (decide (0 ≤ r ∧ r ≤ 6) && (hs.all fun h => holdD r h && !headIs name h))) && true)) = true
    rw [n1, decide_eq_true ⟨r0, r6⟩, hh.all]
    rfl
  · have hi : decide (r.natAbs < 10 ^ 40) = true := decide_eq_true (Nat.lt_of_le_of_lt (show r.natAbs ≤ 6 by omega) (by decide +kernel))
    simp only [smD] at n2
    rw [smA_app, h.sm]
    simp only [smA, smD, n2, hh.sm, hi, Bool.and_self]
  · rcases List.mem_append.mp hf with q | q
    · exact h.dp f q
    · rw [List.mem_singleton.mp q]
      have := dpA_le.mpr hh.dp
      simp only [PyData.depth, PyData.depthAll]
      omega
  · rw [List.map_append, h.nm]
    rfl
theorem firm_wt {name : Str} {r : Int} {hs : List PyData} (hn : name ∈ NN) (r0 : 0 ≤ r) (r6 : r ≤ 6) : (PyData.tuple [.str name, .int r, .tuple hs]).weight ≤ 9 + PyData.weightAll hs := by
  obtain ⟨n1, n2, n3⟩ := names_ok name (List.mem_append_left _ hn)
  have h3 : (PyData.int r).weight ≤ 3 := (sd_int (p := 0) (k := 3) (i := r) (by omega) (by decide)).wt
  simp only [PyData.weight, PyData.weightAll] at n3 h3 ⊢
  omega
/-- how often a person may still choose -/
structure FreeOk (kvs : List (Key × V)) (ps : List Str) : Prop where
  there : ∀ p ∈ ps, (valV kvs (.inr p)).isSome = true
  vals : ∀ j v, valV kvs j = some v → ∃ i : Int, v = .int i
  few : kvs.length ≤ 100
theorem FreeOk.get {kvs : List (Key × V)} {ps : List Str} {p : Str} (h : FreeOk kvs ps) (hp : p ∈ ps) : ∃ i : Int, valV kvs (.inr p) = some (.int i) := by
  obtain ⟨v, hv⟩ := Option.isSome_iff_exists.mp (h.there p hp)
  obtain ⟨i, rfl⟩ := h.vals _ _ hv
  exact ⟨i, hv⟩
theorem FreeOk.put {kvs : List (Key × V)} {ps : List Str} {p : Str} (h : FreeOk kvs ps) (hp : p ∈ ps) (i : Int) : FreeOk (putK kvs (.inr p) (.int i)) ps := by
  refine ⟨fun q hq => ?_, fun j v hv => ?_, ?_⟩
  · rw [valV_put]
    split
    · rfl
    · exact h.there q hq
  · rw [valV_put] at hv
    split at hv
    · cases hv
      exact ⟨i, rfl⟩
    · exact h.vals j v hv
  · unfold putK
    rw [if_pos (by rw [valV_any]; exact h.there p hp), List.length_map]
    exact h.few
theorem free_merge : ∀ (ps : List Str) (kvs : List (Key × V)), (∀ j v, valV kvs j = some v → ∃ i : Int, v = .int i) → (∀ j v, valV (mergeK kvs (ps.map fun x => (.inr x, V.int 4))) j = some v → ∃ i : Int, v = .int i) ∧ (∀ q, (valV kvs (.inr q)).isSome = true ∨ q ∈ ps → (valV (mergeK kvs (ps.map fun x => (.inr x, V.int 4))) (.inr q)).isSome = true)
  | [], kvs, h => ⟨h, fun q hq => hq.elim id fun z => nomatch z⟩
  | p :: ps, kvs, h => by
    have e : mergeK kvs ((p :: ps).map fun x => (.inr x, V.int 4)) = mergeK (putK kvs (.inr p) (.int 4)) (ps.map fun x => (.inr x, V.int 4)) := rfl
    rw [e]
    obtain ⟨h1, h2⟩ := free_merge ps (putK kvs (.inr p) (.int 4)) (fun j v hv => by
      rw [valV_put] at hv
      split at hv
      · cases hv
        exact ⟨4, rfl⟩
      · exact h j v hv)
    refine ⟨h1, fun q hq => h2 q ?_⟩
    rw [valV_put]
    split
    · exact .inl rfl
    · rename_i ne
      rcases hq with hq | hq
      · exact .inl hq
      · rcases List.mem_cons.mp hq with rfl | hq
        · exact absurd rfl ne
        · exact .inr hq
theorem free_new {ps : List Str} (hl : ps.length ≤ 100) : FreeOk (mergeK [] (ps.map fun x => (.inr x, V.int 4))) ps := by
  obtain ⟨h1, h2⟩ := free_merge ps [] (fun j v hv => by cases hv)
  refine ⟨fun p hp => h2 p (.inr hp), h1, ?_⟩
  have := length_mergeK (ps.map fun x => ((.inr x : Key), V.int 4)) []
  rw [List.length_map] at this
  simpa using Nat.le_trans this (by simpa using hl)
/-- a firm's holdings are on the way -/
structure Wv (K : PySem.W.Frag) (b : Addr) (G0 : Hp) (Fr Fd Hg : Addr) (kvs : List (Key × V)) (xs ys : List V) (fs hs : List PyData) (H : Hp) : Prop where
  rel : Rel b G0 H
  fr : H Fr = some (.dK kvs)
  fd : H Fd = some (.lst xs)
  dfs : DtA K mT H xs fs
  hg : H Hg = some (.lst ys)
  dhs : DtA K mT H ys hs
section
variable {K : PySem.W.Frag} {b : Addr} {G0 : Hp} {Fr Fd Hg : Addr} {kvs : List (Key × V)} {xs ys : List V} {fs hs : List PyData} {H H' : Hp}
theorem Wv.go (w : Wv K b G0 Fr Fd Hg kvs xs ys fs hs H) (R : Rel b H H') (n1 : Fr ≠ b) (n2 : Fd ≠ b) (n3 : Hg ≠ b) : Wv K b G0 Fr Fd Hg kvs xs ys fs hs H' :=
  ⟨w.rel.trans R, R.keep _ _ n1 w.fr, R.keep _ _ n2 w.fd, w.dfs.fut (Rel.futT R w.rel.bag), R.keep _ _ n3 w.hg, w.dhs.fut (Rel.futT R w.rel.bag)⟩
theorem Wv.same (w : Wv K b G0 Fr Fd Hg kvs xs ys fs hs H) (s : Same H H') : Wv K b G0 Fr Fd Hg kvs xs ys fs hs H' :=
  ⟨w.rel.same s, s _ _ w.fr, s _ _ w.fd, w.dfs.fut (.of_same s), s _ _ w.hg, w.dhs.fut (.of_same s)⟩
theorem Wv.setFr (w : Wv K b G0 Fr Fd Hg kvs xs ys fs hs H) (hb : BagAt G0 b) (n : G0 Fr = none) (n1 : Fd ≠ Fr) (n2 : Hg ≠ Fr) (kvs' : List (Key × V)) : Wv K b G0 Fr Fd Hg kvs' xs ys fs hs (upd H Fr (.dK kvs')) :=
  ⟨w.rel.at hb n, upd_same, by rw [upd_ne n1]; exact w.fd, w.dfs.fut (futT_dct w.fr), by rw [upd_ne n2]; exact w.hg, w.dhs.fut (futT_dct w.fr)⟩
theorem Wv.setHg (w : Wv K b G0 Fr Fd Hg kvs xs ys fs hs H) (hb : BagAt G0 b) (n : G0 Hg = none) (n1 : Fd ≠ Hg) (n2 : Fr ≠ Hg) {ys' : List V} {hs' : List PyData} (h : DtA K mT H ys' hs') : Wv K b G0 Fr Fd Hg kvs xs ys' fs hs' (upd H Hg (.lst ys')) :=
  ⟨w.rel.at hb n, by rw [upd_ne n2]; exact w.fr, by rw [upd_ne n1]; exact w.fd, w.dfs.fut (futT_lst w.hg), upd_same, h.fut (futT_lst w.hg)⟩
end
end K02
namespace K02
open PySem PySem.Spec PyProof.Rows L2 Sw StX RZ
section
variable {P : Program} {w : World} {K : PySem.W.Frag} {mg : Str → Option Value} {base : Heap}
/-- a drawn web of so many firms -/
structure Wb (n : Nat) (d : PyData) : Prop where
  sd : Sd 11 9600 d
  web : webD d = true
  len : ∃ fs, d = .tuple fs ∧ fs.length = n
def spWeb (K : PySem.W.Frag) : Sp := fun vs H Q _ => ∃ (b : Addr) (mu : Addr → Prop) (n : Nat), vs = [.ref b, .int n, .int 4] ∧ n ≤ 3 ∧ mu b ∧ BagAt H b ∧ MuOk mu H ∧ ∀ v H' d, Wb n d → Rel b H H' → Dt K mu H' v d → Q v H'
abbrev s_law_web : Stmt := topS 29
theorem sc__law_web : FnScope ["bag", "firms", "more", "names", "people", "order", "free", "found", "purse", "one", "name", "ranks", "holdings", "turn", "others", "holder", "options"] ["bag", "firms", "more"] (defScope s_law_web) := ⟨rfl, rfl, rfl, by decide +kernel, rfl, by decide +kernel, by decide +kernel⟩
theorem ok__law_web {f : Addr} {fd : FuncData} (F : Fun K "_law_web" "_law_web" s_law_web f fd) (B : Bt mg) (TS : mg "sum" = none) (TSO : mg "sorted" = none) (c__law_take : CalG P w K mg base 1 "_law_take" spTake) (c__law_some : CalG P w K mg base 2 "_law_some" spSome) (c__law_mixed : CalG P w K mg base 2 "_law_mixed" spMixed) (c__law_number : CalG P w K mg base 3 "_law_number" (spNumE K)) (c__law_options : CalG P w K mg base 8 "_law_options" (spOptions K)) (c__law_firm_options : CalG P w K mg base 8 "_law_firm_options" (spOptions K)) (c__law_leaves : CalG P w K mg base 20 "_law_leaves" (spLeaves K 10)) (c__law_within : CalG P w K mg base 21 "_law_within" (spWithin K)) : FnG P w K mg base 22 f fd ["bag", "firms", "more"] (spWeb K) := by
  refine Fun.okG F sc__law_web (fun vs H Q E h => ?_) (fun cdv A outer s H vs Q E hg hr h => ?_)
  · obtain ⟨_, _, _, rfl, _⟩ := h
    rfl
  obtain ⟨b, mu, n, rfl, hn, hmu, hb, hM, k⟩ := h
  have hu := Room.u64 hr
  have hu1 : (A.deeper (envOfC "_law_web" (defScope s_law_web) s.heap.objs.size f cdv)).units + 1 < cLine := by omega
  refine ⟨_, (pss_cons (ps_set (i := 3) sc__law_web.nd rfl (Or.inl rfl) (pe_callB cr_sortedS (by rfl) TSO bb_sorted (pa_cons (pe_slice sl_list (pc c__law_mixed hg hr (by omega) (by rfl) (pa_cons (pv 0) (pa_cons (pe_lst (pa_cons pe_str (pa_cons pe_str (pa_cons pe_str (pa_cons pe_str (pa_cons pe_str (pa_cons pe_str (pa_cons pe_str (pa_cons pe_str pa_nil))))))))) pa_nil))) po_none (po_some (pv 1))) pa_nil)))
    (pss_cons (ps_set (i := 4) sc__law_web.nd rfl (Or.inl rfl) (pe_slice sl_list (pc c__law_mixed hg hr (by omega) (by rfl) (pa_cons (pv 0) (pa_cons (pe_lst (pa_cons pe_str (pa_cons pe_str (pa_cons pe_str (pa_cons pe_str (pa_cons pe_str (pa_cons pe_str pa_nil))))))) pa_nil))) po_none (po_some (pc c__law_some hg hr (by omega) (by rfl) (pa_cons (pv 0) (pa_cons (pe_lst (pa_cons pe_int (pa_cons pe_int (pa_cons pe_int (pa_cons pe_int pa_nil))))) pa_nil))))))
    (pss_cons (ps_asg (pe_tup (pa_cons (pc c__law_mixed hg hr (by omega) (by rfl) (pa_cons (pv 0) (pa_cons (pv 3) pa_nil))) (pa_cons (pe_callTy (call_dictPN rfl) (by rfl) B.dict bb_dict (pa_cons (pe_lc (own := [("one", 9)]) rfl sc__law_web.nd (pi_list (pv 4)) (blkOk_by (own := [("one", 9)]) (N := ["bag", "firms", "more", "names", "people", "order", "free", "found", "purse", "one", "name", "ranks", "holdings", "turn", "others", "holder", "options"]) (sc := (defScope s_law_web)) (by decide +kernel)) (fun _ _ _ _ _ => (pg_name (i := 9) sc__law_web.nd rfl (Or.inl rfl))) (fun _ _ _ _ _ => pts_nil) (fun _ _ _ _ _ => (pe_tup (pa_cons (pv 9) (pa_cons pe_int pa_nil))))) pa_nil)) (pa_cons (pe_lst pa_nil) (pa_cons pe_int pa_nil))))) (pg_tup (n := 4) rfl (pgs_cons (pg_name (i := 5) sc__law_web.nd rfl (Or.inl rfl)) (pgs_cons (pg_name (i := 6) sc__law_web.nd rfl (Or.inl rfl)) (pgs_cons (pg_name (i := 7) sc__law_web.nd rfl (Or.inl rfl)) (pgs_cons (pg_name (i := 8) sc__law_web.nd rfl (Or.inl rfl)) pgs_nil))))))
    (pss_cons (ps_for PassesOwn.never rfl (pi_list (pv 3)) (pg_name (i := 10) sc__law_web.nd rfl (Or.inr rfl))
      (pss_cons (ps_set (i := 11) sc__law_web.nd rfl (Or.inl rfl) (pc c__law_some hg hr (by omega) (by rfl) (pa_cons (pv 0) (pa_cons (pe_lst (pa_cons pe_int (pa_cons pe_int (pa_cons pe_int (pa_cons pe_int (pa_cons pe_int (pa_cons pe_int (pa_cons pe_int pa_nil)))))))) pa_nil))))
      (pss_cons (ps_set (i := 12) sc__law_web.nd rfl (Or.inl rfl) (pe_lst (pa_cons (pe_tup (pa_cons (pc c__law_some hg hr (by omega) (by rfl) (pa_cons (pv 0) (pa_cons (pv 4) pa_nil))) (pa_cons (pe_tup (pa_cons (pe_tup (pa_cons pe_str (pa_cons (pc c__law_number hg hr (by omega) (by rfl) (pa_cons (pv 0) (pa_cons pe_int pa_nil))) pa_nil))) pa_nil)) pa_nil))) pa_nil)))
      (pss_cons (ps_for PassesOwn.never rfl (pi_range1 (by rfl) B.range (pa_cons (pc c__law_take hg hr (by omega) (by rfl) (pa_cons (pv 0) (pa_cons (pe_op op_add (pv 2) pe_int) pa_nil))) pa_nil)) (pg_name (i := 13) sc__law_web.nd rfl (Or.inl rfl))
        (pss_cons (ps_setLc (i := 14) (own := [("one", 9)]) rfl sc__law_web.nd rfl rfl (sw_true rfl rfl rfl (by decide +kernel)) (pi_list (pv 3)) (blkOk_by (own := [("one", 9)]) (N := ["bag", "firms", "more", "names", "people", "order", "free", "found", "purse", "one", "name", "ranks", "holdings", "turn", "others", "holder", "options"]) (sc := (defScope s_law_web)) (by decide +kernel)) (fun _ _ _ _ _ => (pg_name (i := 9) sc__law_web.nd rfl (Or.inl rfl))) (fun _ _ _ _ _ => (pts_one (pt_cmpR op_ne (pv 9) (pv 10) (nomark _)))) (fun _ _ _ _ _ => (pv 9)))
        (pss_cons (ps_set (i := 15) sc__law_web.nd rfl (Or.inl rfl) (pc c__law_some hg hr (by omega) (by rfl) (pa_cons (pv 0) (pa_cons (pe_op op_cat (pe_op op_cat (pv 4) (pv 14)) (pv 14)) pa_nil))))
        (C8.pss_cut (ps_if (pt_cmpR op_in_seq (pv 15) (pv 4) (by rfl))
          (pss_one (ps_set (i := 16) sc__law_web.nd rfl (Or.inl rfl) (pc c__law_options hg hr (by omega) (by rfl) (pa_cons (pv 0) (pa_cons (pv 11) (pa_cons pe_bl pa_nil))))))
          (pss_one (ps_set (i := 16) sc__law_web.nd rfl (Or.inl rfl) (pc c__law_firm_options hg hr (by omega) (by rfl) (pa_cons (pv 0) (pa_cons (pv 11) (pa_cons (pe_cmpR op_gt (pe_bm PySem.F.plainAttrs_list PySem.F.slot_list_index PySem.F.type_list_index mt_index (pv 5) (pa_cons (pv 15) pa_nil)) (pe_bm PySem.F.plainAttrs_list PySem.F.slot_list_index PySem.F.type_list_index mt_index (pv 5) (pa_cons (pv 10) pa_nil)) (nomark _)) pa_nil)))))))
        (pss_cons (ps_set (i := 16) sc__law_web.nd rfl (Or.inl rfl) (pc c__law_within hg hr (by omega) (by rfl) (pa_cons (pv 16) (pa_cons (pe_callB (call_min2 rfl) (by rfl) B.min bb_min (pa_cons pe_int (pa_cons (pv 8) pa_nil))) pa_nil))))
        (pss_cons (ps_set (i := 8) sc__law_web.nd rfl (Or.inl rfl) (pe_callB (call_max2 rfl) (by rfl) B.max bb_max (pa_cons pe_int (pa_cons (pe_op op_sub (pv 8) (pe_callB (cr_sum rfl) (by rfl) TS bb_sum (pa_cons (pe_lc (own := [("one", 9)]) rfl sc__law_web.nd (pi_tup (pv 16)) (blkOk_by (own := [("one", 9)]) (N := ["bag", "firms", "more", "names", "people", "order", "free", "found", "purse", "one", "name", "ranks", "holdings", "turn", "others", "holder", "options"]) (sc := (defScope s_law_web)) (by decide +kernel)) (fun _ _ _ _ _ => (pg_name (i := 9) sc__law_web.nd rfl (Or.inl rfl))) (fun _ _ _ _ _ => pts_nil) (fun _ _ _ _ _ => (pc c__law_leaves hg hr (by omega) (by rfl) (pa_cons (pv 9) pa_nil)))) pa_nil))) pa_nil))))
        (C8.pss_cut (ps_if (PW.pt (pw_and (pt_cmpR op_in_seq (pv 15) (pv 4) (by rfl)) (pw_and1 (pt_cmpR op_gt (pe_callB call_lenA (by rfl) B.len boot_len (pa_cons (pv 16) pa_nil)) pe_int (nomark _)))))
          (pss_cons (ps_set (i := 16) sc__law_web.nd rfl (Or.inl rfl) (pe_ifExp (pt_cmpR op_gt (pe_dget hu1 (pv 6) (pv 15) (fun _ _ => rfl)) pe_int (nomark _)) (pv 16) (pe_slice sl_tupA (pv 16) po_none (po_some pe_int))))
          (pss_one (ps_augS (pv 6) (pv 15) (get_dict hu1) (pe_callTy call_int1 (by rfl) B.int bb_int (pa_cons (pe_cmpR op_gt (pe_callB call_lenA (by rfl) B.len boot_len (pa_cons (pv 16) pa_nil)) pe_int (nomark _)) pa_nil)) ip_sub (set_dict hu1))))
          pss_nil)
        (pss_one (ps_expr (pe_bm PySem.F.plainAttrs_list PySem.F.slot_list_insert PySem.F.type_list_insert mt_insert (pv 12) (pa_cons (pc c__law_take hg hr (by omega) (by rfl) (pa_cons (pv 0) (pa_cons (pe_op op_add (pe_callB call_lenA (by rfl) B.len boot_len (pa_cons (pv 12) pa_nil)) pe_int) pa_nil))) (pa_cons (pe_tup (pa_cons (pv 15) (pa_cons (pv 16) pa_nil))) pa_nil))))))))))))
      (pss_one (ps_expr (pe_bm PySem.F.plainAttrs_list PySem.F.slot_list_append PySem.F.type_list_append mt_append (pv 7) (pa_cons (pe_tup (pa_cons (pv 10) (pa_cons (pv 11) (pa_cons (pe_callTy call_tuple_of (by rfl) B.tuple bb_tuple (pa_cons (pv 12) pa_nil)) pa_nil)))) pa_nil))))))))
    (pss_one (ps_ret (pe_callTy call_tuple_of (by rfl) B.tuple bb_tuple (pa_cons (pv 7) pa_nil)))))))), ?_⟩
  have sz8 : ∀ {xs : List V}, xs.length ≤ 1000 → xs.length ≤ sizeLine := fun h => Nat.le_of_lt (small1000 h)
  -- names
  refine ⟨_, rfl, sz8 (by simp), fun p1 n1 => ?_⟩
  have s1 := same_upd (o := .lst (NN.map V.str)) n1
  refine ⟨b, p1, _, rfl, hb.same s1, bag_ne hb n1, upd_same, by simp, fun p2 H2 zs R2 hp2 np2 hz => ?_⟩
  obtain ⟨zn, rfl, hzn⟩ := perm_strs (us := NN) hz
  have R2' := (Rel.of_same hb s1).trans R2
  refine ⟨_, rfl, n, rfl, ?_⟩
  refine ⟨p2, _, rfl, .inl (.inl hp2), fun p3 n3 => ?_⟩
  have s3 := same_upd (o := .lst (cutV (zn.map V.str) none (some (n : Int)))) n3
  refine ⟨p3, zn.take n, rfl, .inl (.inl (by rw [upd_same, cutV_upto, List.map_take])), by rw [List.length_take]; omega, fun ns Nm pm hs nNm => ?_⟩
  have sN := same_upd (o := .lst (ns.map V.str)) nNm
  have RN := (R2'.same s3).same sN
  have hNm : (upd (upd H2 p3 (.lst (cutV (zn.map V.str) none (some (n : Int))))) Nm (.lst (ns.map V.str))) Nm = some (.lst (ns.map V.str)) := upd_same
  have NmN : H Nm = none := by
    refine R2'.some ?_
    cases e : H2 Nm with
    | none => rfl
    | some o =>
      rw [s3 _ _ e] at nNm
      cases nNm
  have hzl : zn.length = 8 := hzn.length_eq
  have hns : ∀ x ∈ ns, x ∈ NN := fun x hx => hzn.mem_iff.mp (List.mem_of_mem_take (pm.mem_iff.mp hx))
  have hnl : ns.length = n := by rw [pm.length_eq, List.length_take]; omega
  have hasc : ascS ns = true := str_nodup (ns := zn.take n) pm ((List.take_sublist _ _).nodup (hzn.nodup_iff.mpr nn_nd)) hs
  revert RN hNm
  generalize upd (upd H2 p3 (.lst (cutV (zn.map V.str) none (some (n : Int))))) Nm (.lst (ns.map V.str)) = H3
  intro RN hNm
  clear s3 sN R2' R2 hp2 np2 hz s1 n1 n3 nNm pm hs
  have NmB := bag_ne hb NmN
  -- people
  refine ⟨_, rfl, sz8 (by simp), fun p4 n4 => ?_⟩
  have s4 := same_upd (o := .lst (PN.map V.str)) n4
  refine ⟨b, p4, _, rfl, RN.bag.same s4, bag_ne RN.bag n4, upd_same, by simp, fun p5 H5 zs R5 hp5 np5 hz => ?_⟩
  obtain ⟨zp, rfl, hzp⟩ := perm_strs (us := PN) hz
  have R5' := (RN.same s4).trans R5
  have hNm5 := R5.keep _ _ NmB (s4 _ _ hNm)
  refine Sw.gn_some (K := K) (b := b) (mu := mu) (H0 := H5) (D := fun d => ∃ j : Nat, d = .int j ∧ 2 ≤ j ∧ j ≤ 6) (n := 4) hmu rfl (gnA_cons hmu (Sw.ge_int.gn ⟨3, rfl, by decide, by decide⟩) (gnA_cons hmu (Sw.ge_int.gn ⟨4, rfl, by decide, by decide⟩) (gnA_cons hmu (Sw.ge_int.gn ⟨2, rfl, by decide, by decide⟩) (gnA_cons hmu (Sw.ge_int.gn ⟨6, rfl, by decide, by decide⟩) gnA_nil)))) (by decide) (by decide) H5 (.refl R5'.bag) (hM.rel R5') _ fun v6 H6 d6 hd6 R6 hv6 => ?_
  obtain ⟨m6, rfl, m0, m1⟩ := hd6
  cases hv6
  have p5b : p5 ≠ b := bag_ne ((RN.same s4).bag) np5
  have hp6 := R6.keep _ _ p5b hp5
  refine ⟨_, rfl, p5, _, rfl, .inl (.inl hp6), fun Pp nPp => ?_⟩
  rw [cutV_upto, ← List.map_take]
  have s7 := same_upd (o := .lst ((zp.take m6).map V.str)) nPp
  have R7 := (R5'.trans R6).same s7
  have hNm7 := s7 _ _ (R6.keep _ _ NmB hNm5)
  have hPp7 : (upd H6 Pp (.lst ((zp.take m6).map V.str))) Pp = some (.lst ((zp.take m6).map V.str)) := upd_same
  have PpB := bag_ne (R5'.trans R6).bag nPp
  have hps : ∀ x ∈ zp.take m6, x ∈ PN := fun x hx => hzp.mem_iff.mp (List.mem_of_mem_take hx)
  have hzl2 : zp.length = 6 := hzp.length_eq
  have hpl : (zp.take m6).length = m6 := by rw [List.length_take]; omega
  revert R7 hNm7 hPp7 hps hpl
  generalize upd H6 Pp (.lst ((zp.take m6).map V.str)) = H7
  generalize zp.take m6 = ps
  intro R7 hNm7 hPp7 hps hpl
  clear s7 hp6 R6 hNm5 R5' hz np5 hp5 R5 s4 n4 nPp p5b
  -- order
  refine ⟨_, rfl, _, rfl, b, Nm, _, rfl, R7.bag, NmB, hNm7, by rw [List.length_map]; omega, fun Or G0 zs R8 hOr nOr hz => ?_⟩
  obtain ⟨os, rfl, hos⟩ := perm_strs hz
  have R0 := R7.trans R8
  have OrB := bag_ne R7.bag nOr
  have hNm0 := R8.keep _ _ NmB hNm7
  have hPp0 := R8.keep _ _ PpB hPp7
  have hb0 := R0.bag
  have M0 := hM.rel R0
  clear R8 nOr hz hNm7 hPp7 R7 RN hNm
  -- free
  refine ⟨_, rfl, Pp, rfl, ⟨_, .inl (.inl hPp0)⟩, fun D nD => lc_it (walk_list (K := K) (a := Pp) (xs := ps.map V.str)) (fun i H' => Same G0 H' ∧ ∃ qs : List Addr, H' D = some (.lst (qs.map V.ref)) ∧ Paired (fun p (kv : Key × V) => SqT K H' p [kV kv.1, kv.2]) qs ((ps.take i).map fun x => (.inr x, V.int 4))) ?_ (fun i H' _ h => .inl (.inl (h.1 _ _ hPp0))) ?_ ?_⟩
  · exact ⟨same_upd nD, [], upd_same, .nil⟩
  · rintro i x H8 H9 hi ⟨s8, qs, hD, hq⟩ ⟨rfl, hx⟩
    rw [List.getElem?_map] at hx
    obtain ⟨y, hy, rfl⟩ : ∃ y, ps[i]? = some y ∧ x = .str y := by
      cases e : ps[i]? with
      | none => rw [e] at hx; cases hx
      | some y => rw [e] at hx; cases hx; exact ⟨y, rfl, rfl⟩
    have hql : qs.length = i := by
      have := hq.length
      rw [this, List.length_map, List.length_take]
      have : i < ps.length := (List.getElem?_eq_some_iff.mp hy).1
      omega
    refine ⟨rfl, _, rfl, sz8 (by simp), fun t nt => ?_⟩
    have st := same_upd (o := .tup [.str y, .int 4]) nt
    refine ⟨_, st _ _ hD, by rw [List.length_map]; exact small1000 (by have : i < ps.length := (List.getElem?_eq_some_iff.mp hy).1; omega), fun z o e => ?_, qs ++ [t], ?_, ?_⟩
    · rw [upd_ne (ne_of_none e nD)]
      exact st _ _ (s8 _ _ e)
    · rw [upd_same, List.map_append]
      rfl
    · have fD : ∀ {a : Addr} {xs : List V}, SqT K (upd H9 t (.tup [.str y, .int 4])) a xs → SqT K (upd (upd H9 t (.tup [.str y, .int 4])) D (.lst (qs.map V.ref ++ [V.ref t]))) a xs := fun h => sq_fut h (fut_at (st _ _ hD))
      rw [List.take_add_one, hy, List.map_append]
      exact pair_app (L2.Paired.mapP hq fun p kv h => fD (st.seqT h)) (.cons (fD (.of upd_same)) .nil)
  rintro H8 ⟨s8, qs, hD, hq⟩
  rw [show List.take (ps.map V.str).length ps = ps from List.take_of_length_le (by rw [List.length_map]; exact Nat.le_refl _)] at hq
  refine ⟨D, qs, _, rfl, .inl (.inl hD), hq, fun Fr nFr sFr => ⟨Nat.zero_le _, fun Fd nFd => ⟨sz8 (by simp), fun T nT => ?_⟩⟩⟩
  refine ⟨T, [_, _, _, _], rfl, .of upd_same, rfl, _, _, rfl, _, _, rfl, _, _, rfl, _, _, rfl, rfl, ?_⟩
  have sF := same_upd (o := .dK (mergeK [] (ps.map fun x => (.inr x, V.int 4)))) nFr
  have sG := same_upd (o := .lst []) nFd
  have sT := same_upd (o := .tup [.ref Or, .ref Fr, .ref Fd, .int 40]) nT
  have hFr := sT _ _ (sG _ _ (upd_same (H := H8) (a := Fr) (o := .dK (mergeK [] (ps.map fun x => (.inr x, V.int 4))))))
  have hFd := sT _ _ (upd_same (H := upd H8 Fr (.dK (mergeK [] (ps.map fun x => (.inr x, V.int 4))))) (a := Fd) (o := .lst []))
  have FrG : G0 Fr = none := s8.free nFr
  have FdG : G0 Fd = none := s8.free (sF.free nFd)
  have FrFd : Fr ≠ Fd := fun z => by
    rw [← z, upd_same] at nFd
    cases nFd
  have R9 : Rel b G0 _ := Rel.of_same hb0 (((s8.trans sF).trans sG).trans sT)
  have hfree := free_new (ps := ps) (by omega)
  revert hFr hFd R9 hfree
  generalize upd (upd (upd H8 Fr (.dK (mergeK [] (ps.map fun x => (.inr x, V.int 4))))) Fd (.lst [])) T (.tup [.ref Or, .ref Fr, .ref Fd, .int 40]) = H9
  generalize mergeK [] (ps.map fun x => (.inr x, V.int 4)) = kvs9
  intro hFr hFd R9 hfree
  clear sF sG sT nFr nFd nT hq hD s8 nD
  have FrB := bag_ne hb0 FrG
  have FdB := bag_ne hb0 FdG
  refine ⟨_, rfl, Nm, rfl, ⟨_, .inl (.inl (R9.keep _ _ NmB hNm0))⟩, for_it (walk_list (K := K) (a := Nm) (xs := ns.map V.str)) (fun i σ H' => ∃ (p : Int) (o10 o11 o12 o13 o14 o15 o16 : Option V) (kvs : List (Key × V)) (xs : List V) (fs : List PyData), σ = [some (.ref b), some (.int n), some (.int 4), some (.ref Nm), some (.ref Pp), some (.ref Or), some (.ref Fr), some (.ref Fd), some (.int p), none, o10, o11, o12, o13, o14, o15, o16] ∧ 0 ≤ p ∧ p ≤ 40 ∧ Rel b G0 H' ∧ H' Fr = some (.dK kvs) ∧ FreeOk kvs ps ∧ H' Fd = some (.lst xs) ∧ DtA K mT H' xs fs ∧ FsF (ns.take i) fs ∧ (PyData.weightAll fs : Int) ≤ 300 * i + 199 * (40 - p))
    ⟨40, _, _, _, _, _, _, _, kvs9, [], [], rfl, by decide, by decide, R9, hFr, hfree, hFd, .nil, ⟨rfl, rfl, (fun _ h => nomatch h), rfl⟩, by simp [PyData.weightAll]⟩ (fun i σ H' _ h => ?_) (fun i x σ H1 H2 hi h y => ?_) fun σ H1 h => ?_⟩
  · obtain ⟨_, _, _, _, _, _, _, _, _, _, _, _, _, _, R, _⟩ := h
    exact .inl (.inl (R.keep _ _ NmB hNm0))
  · obtain ⟨p0, o10, o11, o12, o13, o14, o15, o16, kvs, xs, fs, rfl, q0, q40, R1, hFr1, hfr1, hFd1, hA1, hF1, hW1⟩ := h
    obtain ⟨rfl, hx⟩ := y
    rw [List.getElem?_map] at hx
    obtain ⟨nm, hnm, rfl⟩ : ∃ y, ns[i]? = some y ∧ x = .str y := by
      cases e : ns[i]? with
      | none => rw [e] at hx; cases hx
      | some y => rw [e] at hx; cases hx; exact ⟨y, rfl, rfl⟩
    have hnmN := hns nm (List.mem_of_getElem? hnm)
    have hin : i < ns.length := (List.getElem?_eq_some_iff.mp hnm).1
    clear hFr hFd R9 hfree
    -- ranks
    refine Sw.gn_some (K := K) (b := b) (mu := mu) (H0 := H2) (D := fun d => ∃ j : Int, d = .int j ∧ 0 ≤ j ∧ j ≤ 6) (n := 7) hmu rfl (gnA_cons hmu (Sw.ge_int.gn ⟨1, rfl, by decide, by decide⟩) (gnA_cons hmu (Sw.ge_int.gn ⟨2, rfl, by decide, by decide⟩) (gnA_cons hmu (Sw.ge_int.gn ⟨0, rfl, by decide, by decide⟩) (gnA_cons hmu (Sw.ge_int.gn ⟨3, rfl, by decide, by decide⟩) (gnA_cons hmu (Sw.ge_int.gn ⟨2, rfl, by decide, by decide⟩) (gnA_cons hmu (Sw.ge_int.gn ⟨1, rfl, by decide, by decide⟩) (gnA_cons hmu (Sw.ge_int.gn ⟨6, rfl, by decide, by decide⟩) gnA_nil))))))) (by decide) (by decide) H2 (.refl R1.bag) (hM.rel (R0.trans R1)) _ fun vr H3 dr hdr R3 hvr => ?_
    obtain ⟨r, rfl, r0, r6⟩ := hdr
    cases hvr
    have R13 := R1.trans R3
    -- the founder
    refine ⟨_, rfl, _, rfl, b, Pp, _, rfl, R3.bag, PpB, R13.keep _ _ PpB hPp0, by rw [List.length_map]; omega, by rw [List.length_map]; omega, fun jp vp H4 hvp R4 => ?_⟩
    obtain ⟨h0, hh0, rfl⟩ : ∃ h0, h0 ∈ ps ∧ vp = .str h0 := by
      have := List.mem_of_getElem? hvp
      obtain ⟨x, hx, e⟩ := List.mem_map.mp this
      exact ⟨x, hx, e.symm⟩
    have R14 := R13.trans R4
    refine ⟨_, rfl, 4, by decide, by decide, b, mu, rfl, hmu, R14.bag, hM.rel (R0.trans R14), fun vn H5 dn hdn R5 hvn _ => ⟨sz8 (by simp), fun t1 nt1 => ⟨sz8 (by simp), fun t2 nt2 => ⟨sz8 (by simp), fun t3 nt3 => ⟨sz8 (by simp), fun Hg nHg => ?_⟩⟩⟩⟩⟩
    have R15 := R14.trans R5
    have e1 := same_upd (o := .tup [.str "shares", vn]) nt1
    have e2 := same_upd (o := .tup [.ref t1]) nt2
    have e3 := same_upd (o := .tup [.str h0, .ref t2]) nt3
    have e4 := same_upd (o := .lst [.ref t3]) nHg
    have e14 := ((e1.trans e2).trans e3).trans e4
    have dh : Dt K mT (upd (upd (upd H5 t1 (.tup [.str "shares", vn])) t2 (.tup [.ref t1])) t3 (.tup [.str h0, .ref t2])) (.ref t3) (.tuple [.str h0, .tuple [.tuple [.str "shares", dn]]]) :=
      tup_new nt3 (.cons (.str h0) (.cons (tup_new nt2 (.cons (tup_new nt1 (.cons (.str "shares") (.cons (Dt.pure (sd_num hdn).1.ok hvn) .nil))) .nil)) .nil))
    have hHg := upd_same (H := upd (upd (upd H5 t1 (.tup [.str "shares", vn])) t2 (.tup [.ref t1])) t3 (.tup [.str h0, .ref t2])) (a := Hg) (o := .lst [.ref t3])
    have dh2 := dh.fut (.of_same e4)
    have R16 := R15.same e14
    have FdH : H5 Fd = some (.lst xs) := (R3.trans (R4.trans R5)).keep _ _ FdB hFd1
    have FrH : H5 Fr = some (.dK kvs) := (R3.trans (R4.trans R5)).keep _ _ FrB hFr1
    have hFd6 := e14 _ _ FdH
    have hFr6 := e14 _ _ FrH
    have HgFd : Hg ≠ Fd := (ne_of_none ((((e1.trans e2).trans e3)) _ _ FdH) nHg).symm
    have HgFr : Hg ≠ Fr := (ne_of_none ((((e1.trans e2).trans e3)) _ _ FrH) nHg).symm
    have HgG : G0 Hg = none := (R15.same ((e1.trans e2).trans e3)).some nHg
    have HgB := bag_ne hb0 HgG
    have hA6 := (hA1.fut (Rel.futT (R3.trans (R4.trans R5)) R1.bag)).fut (.of_same e14)
    revert hHg dh2 R16 hFd6 hFr6 hA6
    generalize upd (upd (upd (upd H5 t1 (.tup [.str "shares", vn])) t2 (.tup [.ref t1])) t3 (.tup [.str h0, .ref t2])) Hg (.lst [.ref t3]) = H6
    intro hHg dh2 R16 hFd6 hFr6 hA6
    clear e1 e2 e3 e4 e14 dh FdH FrH nt1 nt2 nt3 nHg R15 hvn R5 R14 R4 hvp R13 R3 R1 hFr1 hFd1 hA1
    have hsd := SdA.cons (p := 1) (w1 := 6) (w2 := 44) (w := 95) (sd_str (x := "shares") (by decide +kernel) (by decide +kernel)) (.cons (w1 := 43) (w2 := 0) (sd_num hdn).1 .nil (by decide)) (by decide)
    have hop0 : OpF r [.tuple [.str "shares", dn]] := ⟨by simp, by simp only [clmA, clm_shares (sd_num hdn).2, Bool.and_self], by simp only [smA, hsd.tup.ok, Bool.and_self], fun e he => by rw [List.mem_singleton.mp he]; exact Nat.le_trans hsd.tup.dp (by decide)⟩
    have hw0 : PyData.weightAll [.tuple [.str "shares", dn]] ≤ 52 := by
      have h1 := (sd_num hdn).1.wt
      have h2 : ("shares" : Str).cps.size = 6 := by decide +kernel
      simp only [PyData.weightAll, PyData.weight, h2]
      omega
    have ho0 := hold_ok (name := nm) (p := h0) (r := r) (List.mem_append_right _ (hps h0 hh0)) (nn_pn nm hnmN h0 (hps h0 hh0)) hop0
    refine ⟨_, rfl, _, rfl, _, _, rfl, rfl, b, _, rfl, R16.bag, by decide, by decide, fun cnt H7 c0 c1 R7 => ⟨cnt, rfl, by omega, by omega, for_it (walk_range (lo := 0) (n := cnt.toNat)) (fun j σ H' => ∃ (p : Int) (o13 o14 o15 o16 : Option V) (kvs : List (Key × V)) (ys : List V) (hs : List PyData), σ = [some (.ref b), some (.int n), some (.int 4), some (.ref Nm), some (.ref Pp), some (.ref Or), some (.ref Fr), some (.ref Fd), some (.int p), none, some (.str nm), some (.int r), some (.ref Hg), o13, o14, o15, o16] ∧ 0 ≤ p ∧ p ≤ p0 ∧ Wv K b G0 Fr Fd Hg kvs xs ys fs hs H' ∧ FreeOk kvs ps ∧ HsF nm r hs ∧ hs.length = j + 1 ∧ (PyData.weightAll hs : Int) ≤ 58 * (j + 1) + 199 * (p0 - p))
      ⟨p0, _, _, _, _, kvs, _, [_], rfl, q0, by omega, (Wv.mk R16 hFr6 hFd6 hA6 hHg (.cons dh2 .nil)).go R7 FrB FdB HgB, hfr1, ⟨by rw [List.all_cons, ho0.1]; rfl, by simp only [smA, ho0.2.1, Bool.and_self], fun x hx => by rw [List.mem_singleton.mp hx]; exact ho0.2.2.1⟩, rfl, ?_⟩ (fun _ _ _ _ _ => trivial) (fun j x σ Ha Hb hj h y => ?_) fun σ Ha h => ?_⟩⟩
    · have := ho0.2.2.2
      simp only [PyData.weightAll] at hw0 this ⊢
      omega
    · obtain ⟨p, o13, o14, o15, o16, kvs1, ys, hs, rfl, pq0, pq1, wv, hfr2, hHs, hHl, hHw⟩ := h
      obtain ⟨rfl, -⟩ := y
      -- others
      refine ⟨_, rfl, Nm, rfl, ⟨_, .inl (.inl (wv.rel.keep _ _ NmB hNm0))⟩, fun Ot nOt => ?_⟩
      have hNmA := wv.rel.keep _ _ NmB hNm0
      refine lc_it (walk_list (K := K) (a := Nm) (xs := ns.map V.str)) (fun i' H' => Same Hb H' ∧ H' Ot = some (.lst (((ns.take i').filter fun y => decide (y ≠ nm)).map V.str))) ⟨same_upd nOt, by rw [upd_same]; rfl⟩ (fun i' H' _ h => .inl (.inl (h.1 _ _ hNmA))) ?_ ?_
      · rintro i' x' H8 H9 hi' ⟨s8, hO⟩ ⟨rfl, hx'⟩
        rw [List.getElem?_map] at hx'
        obtain ⟨y, hy, rfl⟩ : ∃ y, ns[i']? = some y ∧ x' = .str y := by
          cases e : ns[i']? with
          | none => rw [e] at hx'; cases hx'
          | some y => rw [e] at hx'; cases hx'; exact ⟨y, rfl, rfl⟩
        have ht : ns.take (i' + 1) = ns.take i' ++ [y] := by
          rw [List.take_add_one, hy]
          rfl
        refine ⟨rfl, _, rfl, _, rfl, rfl, _, rfl, iteN (fun hne => ?_) fun hne => ?_⟩
        · have hne : y ≠ nm := fun z => of_decide_eq_false hne (by rw [z])
          refine ⟨_, rfl, _, hO, by rw [List.length_map]; exact small1000 (Nat.le_trans (List.length_filter_le _ _) (by rw [List.length_take]; omega)), fun z o e => ?_, ?_⟩
          · rw [upd_ne (ne_of_none e nOt)]
            exact s8 _ _ e
          · rw [upd_same, ht, List.filter_append, List.map_append, show List.filter (fun y => decide (y ≠ nm)) [y] = [y] by simp [hne]]
            rfl
        · have hne : y = nm := V.str.inj (of_decide_eq_true hne)
          refine ⟨s8, ?_⟩
          rw [hO, ht, List.filter_append, show List.filter (fun y => decide (y ≠ nm)) [y] = [] by simp [hne], List.append_nil]
      rintro H8 ⟨s8, hO⟩
      rw [show List.take (ns.map V.str).length ns = ns from List.take_of_length_le (by rw [List.length_map]; exact Nat.le_refl _)] at hO
      have hot : ∀ y ∈ ns.filter (fun y => decide (y ≠ nm)), y ∈ ns ∧ y ≠ nm := fun y hy => by
        have := List.mem_filter.mp hy
        exact ⟨this.1, of_decide_eq_true this.2⟩
      have hol : (ns.filter fun y => decide (y ≠ nm)).length ≤ 3 := Nat.le_trans (List.length_filter_le _ _) (by omega)
      revert hO hot hol
      generalize (ns.filter fun y => decide (y ≠ nm)) = ots
      intro hO hot hol
      have wv8 := wv.same s8
      have hPp8 := wv8.rel.keep _ _ PpB hPp0
      -- the holder
      refine ⟨_, rfl, _, rfl, _, rfl, Pp, Ot, _, _, rfl, rfl, hPp8, hO, Nat.le_of_lt (small1000 (by rw [List.length_map, List.length_map]; omega)), fun c1 nc1 => ⟨_, rfl, c1, Ot, _, _, rfl, rfl, upd_same, same_upd nc1 _ _ hO, Nat.le_of_lt (small1000 (by rw [List.length_append, List.length_map, List.length_map]; omega)), fun c2 nc2 => ?_⟩⟩
      have s10 := (same_upd (o := .lst (ps.map V.str ++ ots.map V.str)) nc1).trans (same_upd (o := .lst (ps.map V.str ++ ots.map V.str ++ ots.map V.str)) nc2)
      have wv10 := wv8.same s10
      refine ⟨b, c2, _, rfl, wv10.rel.bag, bag_ne (wv8.same (same_upd nc1)).rel.bag nc2, upd_same, by simp only [List.length_append, List.length_map]; omega, by simp only [List.length_append, List.length_map]; omega, fun jh vh H11 hvh R11 => ?_⟩
      obtain ⟨hd, hhd, rfl⟩ : ∃ hd, (hd ∈ ps ∨ (hd ∈ ns ∧ hd ≠ nm)) ∧ vh = .str hd := by
        have := List.mem_of_getElem? hvh
        simp only [List.mem_append, List.mem_map] at this
        rcases this with (⟨y, hy, rfl⟩ | ⟨y, hy, rfl⟩) | ⟨y, hy, rfl⟩
        · exact ⟨y, .inl hy, rfl⟩
        · exact ⟨y, .inr (hot y hy), rfl⟩
        · exact ⟨y, .inr (hot y hy), rfl⟩
      have wv11 := wv10.go R11 FrB FdB HgB
      have hdN : hd ∈ NN ++ PN := by
        rcases hhd with h | h
        · exact List.mem_append_right _ (hps _ h)
        · exact List.mem_append_left _ (hns _ h.1)
      have hdne : hd ≠ nm := by
        rcases hhd with h | h
        · exact nn_pn nm hnmN hd (hps _ h)
        · exact h.2
      revert wv11
      clear hvh R11 wv10 s10 hO wv8 s8 wv nOt hNmA hPp8
      generalize H11 = H11
      intro wv11
      have inP : ∀ {H' : Hp} {Q' : VK}, H' Pp = some (.lst (ps.map V.str)) → Q' (.bl (decide (hd ∈ ps))) H' → rIn K false (.str hd) (.ref Pp) H' Q' := fun h q =>
        ⟨Pp, _, rfl, .inl (.inl (.inl h)), rfl, flat_strs, by rw [inV_str]; exact q⟩
      refine ⟨fun σ' H' => ∃ (a : Addr) (xs' : List V) (ds : List PyData), σ' = [some (.ref b), some (.int n), some (.int 4), some (.ref Nm), some (.ref Pp), some (.ref Or), some (.ref Fr), some (.ref Fd), some (.int p), none, some (.str nm), some (.int r), some (.ref Hg), some x, some (.ref Ot), some (.str hd), some (.ref a)] ∧ Wv K b G0 Fr Fd Hg kvs1 xs ys fs hs H' ∧ SqT K H' a xs' ∧ DtA K mT H' xs' ds ∧ 1 ≤ ds.length ∧ ds.length ≤ 4 ∧ ∀ d ∈ ds, Cl r 2 d, ?_, ?_⟩
      · have Mx := hM.rel (R0.trans wv11.rel)
        have fin : ∀ (a : Addr) (xs' : List V) (ds : List PyData) (H' : Hp), Wv K b G0 Fr Fd Hg kvs1 xs ys fs hs H' → SqT K H' a xs' → DtA K mT H' xs' ds → 1 ≤ ds.length → ds.length ≤ 4 → (∀ d ∈ ds, Cl r 2 d) → ∃ (a' : Addr) (xs' : List V) (ds : List PyData), [some (.ref b), some (.int n), some (.int 4), some (.ref Nm), some (.ref Pp), some (.ref Or), some (.ref Fr), some (.ref Fd), some (.int p), none, some (.str nm), some (.int r), some (.ref Hg), some x, some (.ref Ot), some (.str hd), some (V.ref a)] = [some (.ref b), some (.int n), some (.int 4), some (.ref Nm), some (.ref Pp), some (.ref Or), some (.ref Fr), some (.ref Fd), some (.int p), none, some (.str nm), some (.int r), some (.ref Hg), some x, some (.ref Ot), some (.str hd), some (.ref a')] ∧ Wv K b G0 Fr Fd Hg kvs1 xs ys fs hs H' ∧ SqT K H' a' xs' ∧ DtA K mT H' xs' ds ∧ 1 ≤ ds.length ∧ ds.length ≤ 4 ∧ ∀ d ∈ ds, Cl r 2 d := fun a xs' ds H' w h1 h2 h3 h4 h5 => ⟨a, xs', ds, rfl, w, h1, h2, h3, h4, h5⟩
        refine ⟨_, rfl, _, rfl, inP (wv11.rel.keep _ _ PpB hPp0) ⟨_, rfl, iteP (fun hin => ?_) fun hin => ?_⟩⟩
        · exact ⟨_, rfl, _, rfl, b, mu, r, _, rfl, r0, r6, hmu, wv11.rel.bag, Mx, fun a xs' ds H' l1 l2 hcl R hS hA => fin a xs' ds H' (wv11.go R FrB FdB HgB) hS (DtA.pure (smA_iff.mpr fun d hd => (hcl d hd).sd.ok) hA) l1 l2 hcl⟩
        · have hdo : hd ∈ os := hos.mem_iff.mpr (by
            rcases hhd with h | h
            · exact absurd h hin
            · exact h.1)
          have hno : nm ∈ os := hos.mem_iff.mpr (List.mem_of_getElem? hnm)
          obtain ⟨j1, z1, a1, a2, a3⟩ := idx_str hdo
          obtain ⟨j2, z2, b1, b2, b3⟩ := idx_str hno
          have hOr1 := wv11.rel.keep _ _ OrB hOr
          exact ⟨_, rfl, _, rfl, _, rfl, .inl ⟨rfl, _, .inl (.inl hOr1)⟩, _, rfl, Or, _, .str hd, j1, z1, rfl, rfl, .inl (.inl hOr1), rfl, flat_strs, a1, a2, a3, _, rfl, .inl ⟨rfl, _, .inl (.inl hOr1)⟩, _, rfl, Or, _, .str nm, j2, z2, rfl, rfl, .inl (.inl hOr1), rfl, flat_strs, b1, b2, b3, _, _, rfl, rfl, b, mu, r, _, rfl, r0, r6, hmu, wv11.rel.bag, Mx, fun a xs' ds H' l1 l2 hcl R hS hA => fin a xs' ds H' (wv11.go R FrB FdB HgB) hS (DtA.pure (smA_iff.mpr fun d hd => (hcl d hd).sd.ok) hA) l1 l2 hcl⟩
      · rintro σ' H12 ⟨a, xs', ds, rfl, wv12, hS12, hA12, dl1, dl4, hcl⟩
        -- within
        refine ⟨_, rfl, _, rfl, 10, p, rfl, a, xs', ds, mT, r, _, 2, rfl, by split <;> omega, hS12, hA12, hcl, by decide, dl4, fun a2 zs es H13 s13 hS13 hA13 hel hes hkept => ?_⟩
        obtain ⟨lf, rl, k1, k2, k3, k4, k5⟩ := hkept
        have wv13 := wv12.same s13
        have hes' : ∀ e ∈ es, Cl r 2 e := fun e he => by
          rcases hes e he with h | rfl
          · exact hcl e h
          · exact cl_sh11
        have hzl := hA13.length
        have hwp : rl ≤ p := by
          have : (if p < 10 then p else 10) ≤ p := by split <;> omega
          omega
        -- the purse
        refine ⟨_, rfl, _, rfl, a2, rfl, ⟨zs, hS13⟩, fun D2 nD2 => ?_⟩
        refine lc_it (walk_tup (K := K) (a := a2) (xs := zs)) (fun i' H' => Same H13 H' ∧ H' D2 = some (.lst (((es.take i').map leavesD).map V.int))) ⟨same_upd nD2, by rw [upd_same]; rfl⟩ (fun i' H' _ h => h.1.seqT hS13) ?_ ?_
        · rintro i' x' H8 H9 hi' ⟨s8, hD2⟩ ⟨rfl, hx'⟩
          obtain ⟨e, he, hxe⟩ := hA13.get hx'
          have hem := List.mem_of_getElem? he
          have ce := hes' e hem
          refine ⟨rfl, _, rfl, r, x', mT, e, rfl, hxe.fut (.of_same s8), ce.clm, ce.isOk (by decide), Nat.le_trans ce.sd.dp (by decide), fun H14 s14 => ⟨_, s14 _ _ hD2, ?_, fun z o q => ?_, ?_⟩⟩
          · rw [List.length_map, List.length_map, List.length_take]
            exact small1000 (by omega)
          · rw [upd_ne (ne_of_none q nD2)]
            exact s14 _ _ (s8 _ _ q)
          · rw [upd_same, List.take_add_one, he, List.map_append, List.map_append]
            rfl
        rintro H14 ⟨s14, hD2⟩
        rw [List.take_of_length_le (by omega), ] at hD2
        have wv14 := wv13.same s14
        have hS14 := s14.seqT hS13
        have hA14 := hA13.fut (.of_same s14)
        refine ⟨D2, es.map leavesD, rfl, .inl (.inl hD2), _, _, rfl, rfl, _, _, rfl, ?_⟩
        rw [← leavesA_sum]
        have hL : ∃ p' : Int, p' = (if p - leavesA es > 0 then p - leavesA es else 0) ∧ 0 ≤ p' ∧ p' ≤ p - rl := ⟨_, rfl, by split <;> omega, by split <;> omega⟩
        obtain ⟨p', ep, hp0, hp1⟩ := hL
        rw [← ep]
        clear ep hD2 s14 hA13 hS13 wv13 s13
        have hop : OpF r es := opF_of hcl hes (fun z => by rw [z] at hel; simp at hel; omega)
        have hwt : (PyData.weightAll es : Int) ≤ 199 * rl + 52 := by
          have : ((95 + 52 * ((2 : Nat) : Int)) * rl) = 199 * rl := by omega
          rw [this] at k5
          omega
        refine ⟨fun σ' H' => ∃ (a3 : Addr) (zs' : List V) (es' : List PyData) (kvs' : List (Key × V)), σ' = [some (.ref b), some (.int n), some (.int 4), some (.ref Nm), some (.ref Pp), some (.ref Or), some (.ref Fr), some (.ref Fd), some (.int p'), none, some (.str nm), some (.int r), some (.ref Hg), some x, some (.ref Ot), some (.str hd), some (.ref a3)] ∧ Wv K b G0 Fr Fd Hg kvs' xs ys fs hs H' ∧ FreeOk kvs' ps ∧ SqT K H' a3 zs' ∧ DtA K mT H' zs' es' ∧ OpF r es' ∧ (PyData.weightAll es' : Int) ≤ 199 * rl + 52, ?_, ?_⟩
        · have stay : ∃ (a3 : Addr) (zs' : List V) (es' : List PyData) (kvs' : List (Key × V)), [some (.ref b), some (.int n), some (.int 4), some (.ref Nm), some (.ref Pp), some (.ref Or), some (.ref Fr), some (.ref Fd), some (.int p'), none, some (.str nm), some (.int r), some (.ref Hg), some x, some (.ref Ot), some (.str hd), some (V.ref a2)] = [some (.ref b), some (.int n), some (.int 4), some (.ref Nm), some (.ref Pp), some (.ref Or), some (.ref Fr), some (.ref Fd), some (.int p'), none, some (.str nm), some (.int r), some (.ref Hg), some x, some (.ref Ot), some (.str hd), some (.ref a3)] ∧ Wv K b G0 Fr Fd Hg kvs' xs ys fs hs H14 ∧ FreeOk kvs' ps ∧ SqT K H14 a3 zs' ∧ DtA K mT H14 zs' es' ∧ OpF r es' ∧ (PyData.weightAll es' : Int) ≤ 199 * rl + 52 := ⟨a2, zs, es, kvs1, rfl, wv14, hfr2, hS14, hA14, hop, hwt⟩
          refine ⟨_, rfl, _, rfl, inP (wv14.rel.keep _ _ PpB hPp0) ⟨_, rfl, iteP (fun hin => ?_) fun _ => stay⟩⟩
          refine ⟨_, rfl, _, _, rfl, .inr ⟨_, hS14, rfl⟩, _, _, rfl, rfl, _, rfl, iteP (fun hl1 => ?_) fun _ => stay⟩
          obtain ⟨iv, hiv⟩ := hfr2.get hin
          refine ⟨_, rfl, _, rfl, Fr, .int iv, rfl, ?_, _, _, rfl, rfl, _, rfl, iteP (fun _ => ⟨_, rfl, ?_⟩) fun _ => ⟨_, rfl, nopart ⟨1, rfl, sl_use hS14 fun a3 H15 s15 hS15 => ?_⟩⟩⟩
          · rw [← hiv]
            exact DGet.k (k := .inr hd) wv14.fr
          · refine ⟨_, rfl, _, rfl, Fr, .int iv, rfl, ?_, _, rfl, _, _, rfl, .inr ⟨_, hS14, rfl⟩, _, _, rfl, rfl, .inr ⟨_, rfl, _, _, rfl, rfl, Fr, _, rfl, DPut.k (k := .inr hd) wv14.fr (Nat.lt_of_le_of_lt hfr2.few (small1000 (by decide))), ?_⟩⟩
            · rw [← hiv]
              exact DGet.k (k := .inr hd) wv14.fr
            · exact ⟨a2, zs, es, _, rfl, wv14.setFr hb0 FrG FrFd.symm HgFr _, hfr2.put hin _, sq_fut hS14 (futT_dct wv14.fr), hA14.fut (futT_dct wv14.fr), hop, hwt⟩
          · have wv15 := wv14.same s15
            rw [show (1 : Int) = ((1 : Nat) : Int) from rfl, cutV_upto] at hS15
            have hwt1 : (PyData.weightAll (es.take 1) : Int) ≤ 199 * rl + 52 := by
              have := wtA_take es 1
              omega
            refine ⟨_, rfl, _, rfl, Fr, .int iv, rfl, ?_, _, rfl, _, _, rfl, .inr ⟨_, hS15, rfl⟩, _, _, rfl, rfl, .inr ⟨_, rfl, _, _, rfl, rfl, Fr, _, rfl, DPut.k (k := .inr hd) wv15.fr (Nat.lt_of_le_of_lt hfr2.few (small1000 (by decide))), ?_⟩⟩
            · rw [← hiv]
              exact DGet.k (k := .inr hd) wv15.fr
            · exact ⟨a3, zs.take 1, es.take 1, _, rfl, wv15.setFr hb0 FrG FrFd.symm HgFr _, hfr2.put hin _, sq_fut hS15 (futT_dct wv15.fr), ((hA14.take 1).fut (.of_same s15)).fut (futT_dct wv15.fr), hop.take, hwt1⟩
        · rintro σ' H15 ⟨a3, zs', es', kvs', rfl, wv15, hfr3, hS15, hA15, hop', hwt'⟩
          -- one holding more
          have hyl := wv15.dhs.length
          refine ⟨_, rfl, .inl ⟨rfl, _, .inl (.inl wv15.hg)⟩, _, rfl, _, rfl, _, _, rfl, .inl ⟨_, .inl (.inl wv15.hg), rfl⟩, _, _, rfl, rfl, b, _, rfl, wv15.rel.bag, by omega, by omega, fun c H16 c0' c1' R16' => ⟨_, rfl, _, rfl, sz8 (by simp), fun t4 nt4 => ?_⟩⟩
          have s17 := same_upd (o := .tup [.str hd, .ref a3]) nt4
          have wv16 := wv15.go R16' FrB FdB HgB
          have wv17 := wv16.same s17
          obtain ⟨cn, rfl⟩ : ∃ cn : Nat, c = (cn : Int) := ⟨c.toNat, by omega⟩
          have dt17 : Dt K mT (upd H16 t4 (.tup [.str hd, .ref a3])) (.ref t4) (.tuple [.str hd, .tuple es']) := tup_new nt4 (.cons (.str hd) (.cons ((dt_tupS hS15 hA15).fut (Rel.futT R16' wv15.rel.bag)) .nil))
          obtain ⟨g1, g2, g3, g4⟩ := hold_ok (name := nm) (r := r) hdN hdne hop'
          have w18 := wv17.setHg hb0 HgG HgFd.symm HgFr.symm (((wv17.dhs.take cn).append (.cons dt17 .nil)).append (wv17.dhs.drop cn))
          refine ⟨Hg, ys, _, _, rfl, rfl, wv17.hg, small1000 (by omega), by omega, by omega, ?_⟩
          rw [Int.toNat_natCast]
          refine ⟨p', _, _, _, _, kvs', _, _, rfl, hp0, by omega, w18, hfr3, hHs.insert cn g1 g2 g3, by simp only [List.length_append, List.length_take, List.length_drop, List.length_cons, List.length_nil]; omega, ?_⟩
          rw [wtA_insert]
          omega
    · obtain ⟨p, o13, o14, o15, o16, kvs1, ys, hs, rfl, pq0, pq1, wv, hfr2, hHs, hHl, hHw⟩ := h
      have hyl := wv.dhs.length
      refine ⟨_, rfl, .inl ⟨rfl, _, .inl (.inl wv.fd)⟩, _, rfl, _, rfl, _, rfl, Hg, ys, rfl, .inl ⟨.inl (.inl wv.hg), fun l nl => ⟨sz8 (by simp), fun t5 nt5 => ?_⟩⟩⟩
      have sl := same_upd (o := .tup ys) nl
      have s5 := same_upd (o := .tup [.str nm, .int r, .ref l]) nt5
      have w5 := (wv.same sl).same s5
      have dt5 : Dt K mT (upd (upd Ha l (.tup ys)) t5 (.tup [.str nm, .int r, .ref l])) (.ref t5) (.tuple [.str nm, .int r, .tuple hs]) := tup_new nt5 (.cons (.str nm) (.cons (.int r) (.cons (tup_new nl wv.dhs) .nil)))
      have hxl := w5.dfs.length
      have hfl : fs.length = i := by
        have := congrArg List.length hF1.nm
        rw [List.length_map, List.length_take] at this
        omega
      refine ⟨Fd, xs, _, rfl, rfl, w5.fd, small1000 (by omega), ?_⟩
      have hfw := firm_wt (hs := hs) hnmN r0 r6
      refine ⟨p, _, _, _, _, _, _, _, kvs1, _, _, rfl, pq0, by omega, w5.rel.at hb0 FdG, by rw [upd_ne FrFd]; exact w5.fr, hfr2, upd_same, (w5.dfs.fut (futT_lst w5.fd)).append (.cons (dt5.fut (futT_lst w5.fd)) .nil), ?_, ?_⟩
      · rw [List.take_add_one, hnm]
        exact hF1.snoc hnmN r0 r6 hHs
      · rw [wt_one]
        omega
  · obtain ⟨p, o10, o11, o12, o13, o14, o15, o16, kvs, xs, fs, rfl, q0, q40, R1, hFr1, hfr1, hFd1, hA1, hF1, hW1⟩ := h
    rw [List.length_map] at hF1 hW1
    rw [List.take_length] at hF1
    refine ⟨_, rfl, Fd, xs, rfl, .inl ⟨.inl (.inl hFd1), fun l nl => ?_⟩⟩
    have sl := same_upd (o := .tup xs) nl
    refine k _ _ (.tuple fs) ⟨⟨by simp only [smD]; exact hF1.sm, by simp only [PyData.hasDict]; exact smA_nd hF1.sm, ?_, ?_⟩, ?_, fs, rfl, ?_⟩ ((R0.trans R1).same sl) (Dt.pure (by simp only [smD]; exact hF1.sm) (tup_new (mu := mT) nl hA1))
    · have := dpA_le.mpr hF1.dp
      simp only [PyData.depth]
      omega
    · simp only [PyData.weight]
      omega
    · show (fs.all firmD && ascS (fs.map nmS)) = true
      rw [hF1.all, hF1.nm, hasc]
      rfl
    · have := congrArg List.length hF1.nm
      rw [List.length_map] at this
      omega
end
end K02
namespace K02
open PySem PySem.Spec PyProof.Rows L2 Sw StX RZ
def spLaw (K : PySem.W.Frag) : Sp := fun vs H Q _ => ∃ (a : Addr) (ns : List Int), vs = [.ref a] ∧ SqL K H a (ns.map V.int) ∧ ns.length ≤ 63 ∧ ∀ H', Q (.bl true) H'
abbrev mF (b : Addr) : Addr → Prop := fun a => a = b ∨ a = sysModules
theorem sm_wl : ∀ {d : PyData}, smD d = true → wlD 13 (10 ^ 40) 0 d = true
  | .none, _ | .bool _, _ => rfl
  | .int i, h => by
    simp only [smD, decide_eq_true_eq] at h
    simp only [wlD, decide_eq_true_eq]
    exact Nat.le_of_lt h
  | .str x, h => by
    simp only [smD, Bool.and_eq_true, decide_eq_true_eq] at h
    simp only [wlD, Bool.and_eq_true, decide_eq_true_eq]
    refine ⟨h.1.2.2, ?_⟩
    have h2 := h.2
    rw [← Array.all_toList, List.all_eq_true] at h2 ⊢
    intro c m
    have := of_decide_eq_true (h2 c m)
    exact decide_eq_true (by omega)
  | .list _, h => by simp [smD] at h
  | .dict _, h => by simp [smD] at h
  | .tuple xs, h => by
    simp only [smD] at h
    simp only [wlD]
    rw [wlA_iff]
    intro d hd
    exact sm_wl (smA_iff.mp h d hd)
/-- what is compared -/
structure Th (d : PyData) : Prop where
  ok : Ok d
  len : lenT d < 64
theorem th_sd {p w : Nat} {d : PyData} (h : Sd p w d) (hp : p ≤ 50) (hw : w ≤ 27000) (hl : lenT d < 64) : Th d := ⟨⟨sm_ok h.ok, Nat.le_trans h.dp hp, Nat.le_trans h.wt hw⟩, hl⟩
theorem th_bn {d d' : PyData} (h : Sd 12 12000 d) (hl : lenT d ≤ 3) (hb : Bn 13 (10 ^ 40) 0 d d') : Th d' :=
  ⟨⟨wl_ok (by decide +kernel) hb.wl, by have := hb.dp; have := h.dp; omega, by have := hb.wt; have := h.wt; omega⟩, by have := hb.len; omega⟩
theorem th_om {d : PyData} (h : Om d) : Th d := ⟨⟨wl_ok (by decide +kernel) h.1, by have := h.2.1; omega, by have := h.2.2; omega⟩, Nat.lt_of_le_of_lt (lenT_le d) (by have := h.2.2; omega)⟩
/-- bent i times -/
def Lf : Nat → Nat
  | 0 => 13
  | n + 1 => 7 * Lf n + 1
def Bf : Nat → Nat
  | 0 => 10 ^ 40
  | n + 1 => 2 * Bf n + 1
def Wf : Nat → Nat
  | 0 => 3774
  | n + 1 => 2 * Wf n + (301 + 7 * Lf n)
structure Bt2 (i : Nat) (d : PyData) : Prop where
  wl : wlD (Lf i) (Bf i) i d = true
  dp : d.depth ≤ 8 + 2 * i
  wt : d.weight ≤ Wf i
theorem Bt2.next {i : Nat} {d d' : PyData} (h : Bt2 i d) (hb : Bn (Lf i) (Bf i) i d d') : Bt2 (i + 1) d' := ⟨hb.wl, by have := hb.dp; have := h.dp; omega, by have := hb.wt; have := h.wt; show _ ≤ 2 * Wf i + (301 + 7 * Lf i); omega⟩
theorem lf_tab : ∀ i, i ≤ 2 → Lf i ≤ 645 ∧ Bf i < 10 ^ 500 ∧ Wf i ≤ 27000 ∧ 13 ≤ Lf i ∧ 10 ≤ Bf i ∧ Bf i ≤ 10 ^ 60 ∧ (i ≤ 1 → Lf i ≤ 100) := by
  intro i hi
  match i, hi with
  | 0, _ => decide +kernel
  | 1, _ => decide +kernel
  | 2, _ => decide +kernel
theorem Bt2.isOk {i : Nat} {d : PyData} (h : Bt2 i d) (hi : i ≤ 2) : Ok d := by
  obtain ⟨t1, t2, t3, t4⟩ := lf_tab i hi
  exact ⟨wl_ok t2 h.wl, by have := h.dp; omega, Nat.le_trans h.wt t3⟩
theorem held_sd {r : Int} {dc : PyData} {rs : Str} {j : Nat} (hd : Cl r 3 dc) (h1 : 1 ≤ rs.length) (h2 : rs.length ≤ 13) (h3 : rs.cps.all (fun c => decide (97 ≤ c ∧ c ≤ 122)) = true) (hj : j ≤ 2) : Sd 12 12000 (.tuple [.str rs, .tuple (List.replicate j dc)]) := by
  have hs : smD (.str rs) = true := by
    simp only [smD, Bool.and_eq_true, decide_eq_true_eq]
    refine ⟨⟨?_, h1, h2⟩, h3⟩
    unfold PyData.strOk
    rw [← Array.all_toList, List.all_eq_true] at h3 ⊢
    intro c m
    have := of_decide_eq_true (h3 c m)
    exact decide_eq_true (by omega)
  have ha := (SdA.all (p := 8) (w1 := 3774) (m := 2) (ds := List.replicate j dc) (fun d hd' => by
    rw [List.eq_of_mem_replicate hd']
    exact hd.sd) (by rw [List.length_replicate]; exact hj)).tup
  exact (SdA.cons (p := 9) (w1 := 13) (w2 := 7551) (w := 12000) (sd_str hs h2) (.cons (w1 := 7550) (w2 := 0) ha .nil (by decide)) (by decide)).tup.mono (by decide) (Nat.le_refl _)
theorem firm_shape {e : PyData} (h : firmD e = true) : ∃ n r hs, e = .tuple [.str n, .int r, .tuple hs] := by
  obtain ⟨n, r, hs, rfl, _⟩ := firm_name h
  have h2 : (isNm (.str n) && (isIn 0 6 r && hldsD (.str n) r hs)) = true := h
  simp only [Bool.and_eq_true] at h2
  obtain ⟨_, h3, h4⟩ := h2
  obtain ⟨i, rfl⟩ : ∃ i, r = .int i := by
    cases r <;> first | exact ⟨_, rfl⟩ | (simp [isIn] at h3)
  obtain ⟨ts, rfl⟩ : ∃ ts, hs = .tuple ts := by
    cases hs <;> first | exact ⟨_, rfl⟩ | (simp [hldsD] at h4)
  exact ⟨_, _, _, rfl⟩
theorem seq_asg_lst {ta : TA} {g : TG} {u : TS} {D} {σ : L2.St} {H : Hp} (h : ta σ H fun xs H1 => xs.length ≤ sizeLine ∧ ∀ p, H1 p = none → g (.ref p) σ (upd H1 p (.lst xs)) (u D)) : tSeq (tAsg (tLst ta) g) u D σ H := h
theorem lst_use {ta : TA} {σ : L2.St} {H : Hp} {Q : VK} (h : ta σ H fun xs H1 => xs.length ≤ sizeLine ∧ ∀ p, H1 p = none → Q (.ref p) (upd H1 p (.lst xs))) : tLst ta σ H Q := h
section
variable {K : PySem.W.Frag} {b : Addr} {mu : Addr → Prop} {σ : L2.St} {H0 : Hp} {d : PyData} {v : V}
theorem gn_bent {i j n : Nat} (hm : mu b) (hb : BagAt H0 b) (h1 : σ[j]? = some (some (.ref b))) (h2 : σ[i]? = some (some v)) (h : Dt K mu H0 v d) (sd : Sd 12 12000 d) (hl : lenT d ≤ 3) (hn : n ≤ 5) : Gn K b mu σ H0 (tCall (spBentA K) [] E0 (tCons (tVar j) (tCons (tVar i) (tCons (tC (.int (n : Nat))) tNil)))) Th := fun H r m Q q =>
  ⟨_, h1, _, h2, n, hn, b, mu, v, d, 13, 10 ^ 40, 0, rfl, hm, r.bag, m, h.fut (r.fut hm hb), (th_sd sd (by decide) (by decide) (by omega)).ok, sm_wl sd.ok, by decide, by decide, by decide +kernel, by decide +kernel, by decide, fun v' H' d' hbn R hv => q v' H' d' (th_bn sd hl hbn) R hv⟩
theorem gn_odd {j : Nat} (hm : mu b) (h1 : σ[j]? = some (some (.ref b))) : Gn K b mu σ H0 (tCall (spOdd K) [] E0 (tCons (tVar j) tNil)) Th := fun H r m Q q =>
  ⟨_, h1, b, mu, rfl, hm, r.bag, m, fun v' H' d' ho R hv _ => q v' H' d' (th_om ho) R hv⟩
end
section
variable {P : Program} {w : World} {K : PySem.W.Frag} {mg : Str → Option Value} {base : Heap}
structure Defs (P : Program) (w : World) (K : PySem.W.Frag) (mg : Str → Option Value) (base : Heap) : Prop where
  bag : CalG P w K mg base 1 "_law_bag" (spBag K)
  some : CalG P w K mg base 2 "_law_some" spSome
  alike : CalG P w K mg base 1 "_law_alike" (spAlike K)
  claim : CalG P w K mg base 7 "_law_claim" (spClaimA K)
  web : CalG P w K mg base 22 "_law_web" (spWeb K)
  odd : CalG P w K mg base 3 "_law_odd" (spOdd K)
  bent : CalG P w K mg base 10 "_law_bent" (spBentA K)
  lclaim : CalG P w K mg base 54 "_law_is_claim" (spClmL K 50)
  lhold : CalG P w K mg base 55 "_law_is_holding" (spHold K)
  lfirm : CalG P w K mg base 56 "_law_is_firm" (spP K firmD)
  lweb : CalG P w K mg base 57 "_law_is_web" (spWebL K)
  pclaim : CalG P w K mg base 5 "is_claim" (spClm K)
  phold : CalG P w K mg base 6 "is_holding" (spHold K)
  pfirm : CalG P w K mg base 7 "is_firm" (spP K firmD)
  pweb : CalG P w K mg base 8 "is_web" (spP K webD)
  told : CalG P w K mg base 9 "_law_are_wide_told" spTold
abbrev slaw : Stmt := topS 42
theorem sc_law : FnScope ["script", "bag", "web", "turn", "ranks", "claim", "thing", "bend", "shown", "held", "one", "kept", "firm", "things"] ["script"] (defScope slaw) := ⟨rfl, rfl, rfl, by decide +kernel, rfl, by decide +kernel, by decide +kernel⟩
theorem ok_law {f : Addr} {fd : FuncData} (F : Fun K "law" "law" slaw f fd) (B : Bt mg) (D : Defs P w K mg base) : FnG P w K mg base 60 f fd ["script"] (spLaw K) := by
  refine Fun.okG F sc_law (fun vs H Q E h => ?_) (fun cdv A outer s H vs Q E hg hr h => ?_)
  · obtain ⟨a, ns, rfl, _⟩ := h
    rfl
  obtain ⟨a, ns, rfl, hS, hl, k⟩ := h
  have hu := Room.u64 hr
  have c__law_bag := D.bag
  have c__law_some := D.some
  have c__law_alike := D.alike
  have c__law_claim := D.claim
  have c__law_web := D.web
  have c__law_odd := D.odd
  have c__law_bent := D.bent
  have c__law_is_claim := D.lclaim
  have c__law_is_holding := D.lhold
  have c__law_is_firm := D.lfirm
  have c__law_is_web := D.lweb
  have c_is_claim := D.pclaim
  have c_is_holding := D.phold
  have c_is_firm := D.pfirm
  have c_is_web := D.pweb
  have c__law_are_wide_told := D.told
  refine ⟨_, (pss_cons (ps_set (i := 1) sc_law.nd rfl (Or.inl rfl) (pc c__law_bag hg hr (by omega) (by rfl) (pa_cons (pv 0) pa_nil)))
    (pss_cons (ps_set (i := 2) sc_law.nd rfl (Or.inl rfl) (pc c__law_web hg hr (by omega) (by rfl) (pa_cons (pv 1) (pa_cons (pc c__law_some hg hr (by omega) (by rfl) (pa_cons (pv 1) (pa_cons (pe_lst (pa_cons pe_int (pa_cons pe_int (pa_cons pe_int (pa_cons pe_int pa_nil))))) pa_nil))) (pa_cons pe_int pa_nil)))))
    (pss_cons (ps_for PassesOwn.never rfl (pi_range1 (by rfl) B.range (pa_cons pe_int pa_nil)) (pg_name (i := 3) sc_law.nd rfl (Or.inl rfl))
      (pss_cons (ps_set (i := 4) sc_law.nd rfl (Or.inl rfl) (pc c__law_some hg hr (by omega) (by rfl) (pa_cons (pv 1) (pa_cons (pe_lst (pa_cons pe_int (pa_cons pe_int (pa_cons pe_int (pa_cons pe_int (pa_cons pe_int pa_nil)))))) pa_nil))))
      (pss_cons (ps_set (i := 5) sc_law.nd rfl (Or.inl rfl) (pc c__law_claim hg hr (by omega) (by rfl) (pa_cons (pv 1) (pa_cons (pc c__law_some hg hr (by omega) (by rfl) (pa_cons (pv 1) (pa_cons (pe_lst (pa_cons (pv 4) (pa_cons (pv 4) (pa_cons pe_int pa_nil)))) pa_nil))) (pa_cons pe_int (pa_cons pe_bl pa_nil))))))
      (pss_cons (ps_set (i := 6) sc_law.nd rfl (Or.inl rfl) (pv 5))
      (pss_cons (ps_for PassesOwn.never rfl (pi_range1 (by rfl) B.range (pa_cons (pc c__law_some hg hr (by omega) (by rfl) (pa_cons (pv 1) (pa_cons (pe_lst (pa_cons pe_int (pa_cons pe_int (pa_cons pe_int (pa_cons pe_int pa_nil))))) pa_nil))) pa_nil)) (pg_name (i := 7) sc_law.nd rfl (Or.inl rfl))
        (pss_one (ps_set (i := 6) sc_law.nd rfl (Or.inl rfl) (pc c__law_bent hg hr (by omega) (by rfl) (pa_cons (pv 1) (pa_cons (pv 6) (pa_cons pe_int pa_nil)))))))
      (pss_cons (ps_set (i := 8) sc_law.nd rfl (Or.inl rfl) (pe_callB (call_repr hg hu) (by rfl) B.repr bb_repr (pa_cons (pv 6) pa_nil)))
      (pss_cons (ps_if (PW.pt (pw_or (pt_not (pt_val (pc c__law_alike hg hr (by omega) (by rfl) (pa_cons (pe_lst (pa_cons (pc c_is_claim hg hr (by omega) (by rfl) (pa_cons (pv 4) (pa_cons (pv 6) pa_nil))) (pa_cons (pc c_is_claim hg hr (by omega) (by rfl) (pa_cons pe_int (pa_cons (pv 6) pa_nil))) pa_nil))) (pa_cons (pe_lst (pa_cons (pc c__law_is_claim hg hr (by omega) (by rfl) (pa_cons (pv 4) (pa_cons (pv 6) pa_nil))) (pa_cons (pc c__law_is_claim hg hr (by omega) (by rfl) (pa_cons pe_int (pa_cons (pv 6) pa_nil))) pa_nil))) pa_nil))))) (pw_or1 (pt_cmpR op_ne (pe_callB (call_repr hg hu) (by rfl) B.repr bb_repr (pa_cons (pv 6) pa_nil)) (pv 8) (nomark _)))))
        (pss_one (ps_ret pe_bl))
        pss_nil)
      (pss_cons (ps_set (i := 9) sc_law.nd rfl (Or.inl rfl) (pe_tup (pa_cons (pe_op op_repZ pe_str (pc c__law_some hg hr (by omega) (by rfl) (pa_cons (pv 1) (pa_cons (pe_lst (pa_cons pe_int (pa_cons pe_int (pa_cons pe_int pa_nil)))) pa_nil)))) (pa_cons (pe_op op_repU (pe_tup (pa_cons (pv 5) pa_nil)) (pc c__law_some hg hr (by omega) (by rfl) (pa_cons (pv 1) (pa_cons (pe_lst (pa_cons pe_int (pa_cons pe_int (pa_cons pe_int pa_nil)))) pa_nil)))) pa_nil))))
      (pss_one (ps_for PassesOwn.never rfl (pi_tup (pe_tup (pa_cons (pv 9) (pa_cons (pc c__law_bent hg hr (by omega) (by rfl) (pa_cons (pv 1) (pa_cons (pv 9) (pa_cons pe_int pa_nil)))) pa_nil)))) (pg_name (i := 10) sc_law.nd rfl (Or.inl rfl))
        (pss_cons (ps_set (i := 11) sc_law.nd rfl (Or.inl rfl) (pe_callB (call_repr hg hu) (by rfl) B.repr bb_repr (pa_cons (pv 10) pa_nil)))
        (pss_one (ps_if (PW.pt (pw_or (pt_not (pt_val (pc c__law_alike hg hr (by omega) (by rfl) (pa_cons (pc c_is_holding hg hr (by omega) (by rfl) (pa_cons (pv 4) (pa_cons (pv 10) pa_nil))) (pa_cons (pc c__law_is_holding hg hr (by omega) (by rfl) (pa_cons (pv 4) (pa_cons (pv 10) pa_nil))) pa_nil))))) (pw_or1 (pt_cmpR op_ne (pe_callB (call_repr hg hu) (by rfl) B.repr bb_repr (pa_cons (pv 10) pa_nil)) (pv 11) (nomark _)))))
          (pss_one (ps_ret pe_bl))
          pss_nil)))))))))))))
    (C8.pss_cut (ps_set (i := 12) sc_law.nd rfl (Or.inl rfl) (pe_ifExp (pt_cmpR (op_neNilT (K := K) rfl hu) (pv 2) (pe_tup pa_nil) (nomark _)) (pe_ix ix_tup (pv 2) pe_int (fun _ _ => rfl)) (pe_tup (pa_cons pe_str (pa_cons pe_int (pa_cons (pe_tup pa_nil) pa_nil))))))
    (pss_cons (ps_set (i := 13) sc_law.nd rfl (Or.inl rfl) (pe_lst (pa_cons (pv 12) (pa_cons (pe_tup (pa_cons (pe_ix ix_tup (pv 12) pe_int (fun _ _ => rfl)) (pa_cons (pc c__law_some hg hr (by omega) (by rfl) (pa_cons (pv 1) (pa_cons (pe_lst (pa_cons pe_int (pa_cons pe_int (pa_cons (pe_un un_neg pe_int) (pa_cons pe_bl pa_nil))))) pa_nil))) (pa_cons (pe_ix ix_tup (pv 12) pe_int (fun _ _ => rfl)) pa_nil)))) (pa_cons (pe_tup (pa_cons (pe_ix ix_tup (pv 12) pe_int (fun _ _ => rfl)) (pa_cons (pe_ix ix_tup (pv 12) pe_int (fun _ _ => rfl)) (pa_cons (pe_op op_catA (pe_ix ix_tup (pv 12) pe_int (fun _ _ => rfl)) (pe_tup (pa_cons (pe_tup (pa_cons (pe_ix ix_tup (pv 12) pe_int (fun _ _ => rfl)) (pa_cons (pe_tup (pa_cons (pe_tup (pa_cons pe_str pa_nil)) pa_nil)) pa_nil))) pa_nil))) pa_nil)))) (pa_cons (pc c__law_bent hg hr (by omega) (by rfl) (pa_cons (pv 1) (pa_cons (pv 12) (pa_cons pe_int pa_nil)))) pa_nil))))))
    (pss_cons (ps_for PassesOwn.never rfl (pi_list (pe_op op_cat (pv 13) (pe_lst (pa_cons (pv 2) (pa_cons (pe_revT (pv 2)) (pa_cons (pe_op op_catA (pv 2) (pe_slice sl_tupA (pv 2) po_none (po_some pe_int))) (pa_cons (pe_op op_catA (pv 2) (pe_slice sl_tupA (pv 2) (po_some (pe_un un_neg pe_int)) po_none)) (pa_cons (pc c__law_bent hg hr (by omega) (by rfl) (pa_cons (pv 1) (pa_cons (pv 2) (pa_cons pe_int pa_nil)))) (pa_cons (pc c__law_bent hg hr (by omega) (by rfl) (pa_cons (pv 1) (pa_cons (pv 2) (pa_cons pe_int pa_nil)))) (pa_cons (pc c__law_odd hg hr (by omega) (by rfl) (pa_cons (pv 1) pa_nil)) pa_nil)))))))))) (pg_name (i := 6) sc_law.nd rfl (Or.inl rfl))
      (pss_cons (ps_set (i := 8) sc_law.nd rfl (Or.inl rfl) (pe_callB (call_repr hg hu) (by rfl) B.repr bb_repr (pa_cons (pv 6) pa_nil)))
      (pss_one (ps_if (PW.pt (pw_or (pt_not (pt_val (pc c__law_alike hg hr (by omega) (by rfl) (pa_cons (pe_lst (pa_cons (pc c_is_firm hg hr (by omega) (by rfl) (pa_cons (pv 6) pa_nil)) (pa_cons (pc c_is_web hg hr (by omega) (by rfl) (pa_cons (pv 6) pa_nil)) pa_nil))) (pa_cons (pe_lst (pa_cons (pc c__law_is_firm hg hr (by omega) (by rfl) (pa_cons (pv 6) pa_nil)) (pa_cons (pc c__law_is_web hg hr (by omega) (by rfl) (pa_cons (pv 6) pa_nil)) pa_nil))) pa_nil))))) (pw_or1 (pt_cmpR op_ne (pe_callB (call_repr hg hu) (by rfl) B.repr bb_repr (pa_cons (pv 6) pa_nil)) (pv 8) (nomark _)))))
        (pss_one (ps_ret pe_bl))
        pss_nil))))
    (pss_one (ps_ret (pc0 c__law_are_wide_told hg hr (by omega) (by rfl)))))))))), ?_⟩
  refine ⟨_, rfl, a, ns, rfl, hS, hl, fun b H1 s1 nb hb => ?_⟩
  have hmu : mF b b := .inl rfl
  have M1 := MuOk.bag hb
  refine ⟨_, rfl, Sw.gn_some (K := K) (b := b) (mu := mF b) (H0 := H1) (D := fun d => ∃ j : Nat, d = .int j ∧ j ≤ 3) (n := 4) hmu rfl (gnA_cons hmu (Sw.ge_int.gn ⟨2, rfl, by decide⟩) (gnA_cons hmu (Sw.ge_int.gn ⟨1, rfl, by decide⟩) (gnA_cons hmu (Sw.ge_int.gn ⟨3, rfl, by decide⟩) (gnA_cons hmu (Sw.ge_int.gn ⟨0, rfl, by decide⟩) gnA_nil)))) (by decide) (by decide) H1 (.refl hb) M1 _ fun v2 H2 d2 hd2 R2 hv2 => ?_⟩
  obtain ⟨nf, rfl, hnf⟩ := hd2
  cases hv2
  refine ⟨b, mF b, nf, rfl, hnf, hmu, R2.bag, M1.rel R2, fun W G dW hW RG hdW => ?_⟩
  have hG := RG.bag
  have MG := (M1.rel R2).rel RG
  clear RG R2 M1 hb s1 nb
  have nbp : ∀ {H : Hp} {p : Addr}, BagAt H b → H p = none → p ≠ b := fun {H p} hb np => bag_ne hb np
  refine ⟨3, rfl, by decide, by decide, ?_⟩
  refine for_it (walk_range (lo := 0) (n := 3)) (fun i σ H' => ∃ o3 o4 o5 o6 o7 o8 o9 o10 o11, σ = [some (.ref a), some (.ref b), some W, o3, o4, o5, o6, o7, o8, o9, o10, o11, none, none] ∧ Rel b G H') ⟨_, _, _, _, _, _, _, _, _, rfl, .refl hG⟩ (fun _ _ _ _ _ => trivial) (fun i x σ H2 H3 hi h y => ?_) fun σ H2 h => ?_
  · obtain ⟨o3, o4, o5, o6, o7, o8, o9, o10, o11, rfl, R3⟩ := h
    obtain ⟨rfl, -⟩ := y
    have M3 := MG.rel R3
    refine Sw.gn_some (K := K) (b := b) (mu := mF b) (D := fun d => ∃ j : Int, d = .int j ∧ 0 ≤ j ∧ j ≤ 6) (n := 5) hmu rfl (gnA_cons hmu (Sw.ge_int.gn ⟨1, rfl, by decide, by decide⟩) (gnA_cons hmu (Sw.ge_int.gn ⟨0, rfl, by decide, by decide⟩) (gnA_cons hmu (Sw.ge_int.gn ⟨2, rfl, by decide, by decide⟩) (gnA_cons hmu (Sw.ge_int.gn ⟨3, rfl, by decide, by decide⟩) (gnA_cons hmu (Sw.ge_int.gn ⟨6, rfl, by decide, by decide⟩) gnA_nil))))) (by decide) (by decide) H3 (.refl R3.bag) M3 _ fun v4 H4 d4 hd4 R4 hv4 => ?_
    obtain ⟨r, rfl, r0, r6⟩ := hd4
    cases hv4
    have R34 := R3.trans R4
    refine ⟨_, rfl, Sw.gn_some (K := K) (b := b) (mu := mF b) (H0 := H4) (D := fun d => ∃ j : Int, d = .int j ∧ 0 ≤ j ∧ j ≤ 6) (n := 3) hmu rfl (gnA_cons hmu (gn_var (d := .int r) (v := .int r) hmu R34.bag rfl (.int r) ⟨r, rfl, r0, r6⟩) (gnA_cons hmu (gn_var (d := .int r) (v := .int r) hmu R34.bag rfl (.int r) ⟨r, rfl, r0, r6⟩) (gnA_cons hmu (Sw.ge_int.gn ⟨3, rfl, by decide, by decide⟩) gnA_nil))) (by decide) (by decide) H4 (.refl R34.bag) (MG.rel R34) _ fun v5 H5 d5 hd5 R5 hv5 => ?_⟩
    obtain ⟨r2, rfl, r20, r26⟩ := hd5
    cases hv5
    have R35 := R34.trans R5
    refine ⟨3, by decide, b, mF b, r2, true, rfl, r20, r26, hmu, R35.bag, MG.rel R35, fun vc H6 dc hdc R6 hvc => ?_⟩
    have R36 := R35.trans R6
    refine ⟨_, rfl, Sw.gn_some (K := K) (b := b) (mu := mF b) (H0 := H6) (D := fun d => ∃ j : Nat, d = .int j ∧ j ≤ 2) (n := 4) hmu rfl (gnA_cons hmu (Sw.ge_int.gn ⟨1, rfl, by decide⟩) (gnA_cons hmu (Sw.ge_int.gn ⟨0, rfl, by decide⟩) (gnA_cons hmu (Sw.ge_int.gn ⟨1, rfl, by decide⟩) (gnA_cons hmu (Sw.ge_int.gn ⟨2, rfl, by decide⟩) gnA_nil)))) (by decide) (by decide) H6 (.refl R36.bag) (MG.rel R36) _ fun v7 H7 d7 hd7 R7 hv7 => ?_⟩
    obtain ⟨m, rfl, hm⟩ := hd7
    cases hv7
    have R37 := R36.trans R7
    have hvc7 := hvc.fut (R7.fut (mu := mF b) hmu R36.bag)
    refine ⟨(m : Int), rfl, by omega, by omega, ?_⟩
    refine for_it (walk_range (lo := 0) (n := (m : Int).toNat)) (fun i' σ H' => ∃ v d o7, σ = [some (.ref a), some (.ref b), some W, some x, some (.int r), some vc, some v, o7, o8, o9, o10, o11, none, none] ∧ Rel b H7 H' ∧ Bt2 i' d ∧ Dt K (mF b) H' v d) ⟨vc, dc, _, rfl, .refl R37.bag, ⟨sm_wl hdc.sd.ok, hdc.sd.dp, hdc.sd.wt⟩, hvc7⟩ (fun _ _ _ _ _ => trivial) (fun i' x' σ Ha Hb hi' h y => ?_) fun σ Ha h => ?_
    · obtain ⟨v, d, o7', rfl, Ra, hbt, hv⟩ := h
      obtain ⟨rfl, -⟩ := y
      have hi2 : i' ≤ 1 := by omega
      obtain ⟨_, _, _, t4, t5, t6, t7⟩ := lf_tab i' (by omega)
      refine ⟨_, rfl, _, rfl, 3, by decide, b, mF b, v, d, Lf i', Bf i', i', rfl, hmu, Ra.bag, MG.rel (R37.trans Ra), hv, hbt.isOk (by omega), hbt.wl, t4, t7 hi2, t5, t6, hi2, fun v' H' d' hbn R' hv' => ⟨v', d', _, rfl, Ra.trans R', hbt.next hbn, hv'⟩⟩
    obtain ⟨v, d, o7', rfl, Ra, hbt, hv⟩ := h
    have okv := hbt.isOk (show (m : Int).toNat ≤ 2 by omega)
    refine ⟨_, rfl, v, mF b, d, rfl, hv, okv.show, .inr (.inr rfl), by have := okv.dp; omega, okv.fits, ?_⟩
    refine ⟨_, rfl, _, rfl, r, v, mF b, d, rfl, hv, okv, fun Hx sx => ⟨_, rfl, 0, v, mF b, d, rfl, hv.fut (.of_same sx), okv, fun Hy sy => ⟨sz (by simp), fun p1 n1 => ?_⟩⟩⟩
    have sxy := sx.trans sy
    have t1 := same_upd (o := .lst [.bl (clm r d), .bl (clm 0 d)]) n1
    have e1 := sxy.trans t1
    refine ⟨_, rfl, _, rfl, r, v, mF b, d, rfl, hv.fut (.of_same e1), okv, okv.dp, fun Hz sz' => ⟨_, rfl, 0, v, mF b, d, rfl, hv.fut (.of_same (e1.trans sz')), okv, okv.dp, fun Hu su => ⟨sz (by simp), fun p2 n2 => ?_⟩⟩⟩
    have szu := sz'.trans su
    have t2 := same_upd (o := .lst [.bl (clm r d), .bl (clm 0 d)]) n2
    have Rxy := Ra.same sxy
    have npb := nbp Rxy.bag n1
    have np2b := nbp ((Rxy.same t1).same szu).bag n2
    refine ⟨.ref p1, .ref p2, (fun a => a = b), .list [.bool (clm r d), .bool (clm 0 d)], rfl, .lst npb (.inl (t2 _ _ (szu _ _ upd_same))) (.cons (.bl _) (.cons (.bl _) .nil)), .lst np2b (.inl upd_same) (.cons (.bl _) (.cons (.bl _) .nil)), ⟨rfl, by simp [PyData.depth, PyData.depthAll], by simp [PyData.weight, PyData.weightAll]⟩, .inl rfl, ⟨true, rfl, iteF ?_⟩⟩
    have e2 := e1.trans (szu.trans t2)
    have R2' := Ra.same e2
    have hv2 := hv.fut (.of_same e2)
    have hvc2 := hvc7.fut (R2'.fut (mu := mF b) hmu R37.bag)
    revert R2' hv2 hvc2
    generalize upd Hu p2 (.lst [.bl (clm r d), .bl (clm 0 d)]) = H8
    intro R8 hv8 hvc8
    refine ⟨_, rfl, v, mF b, d, rfl, hv8, okv.show, .inr (.inr rfl), by have := okv.dp; omega, okv.fits, _, rfl, rfl, _, rfl, ?_⟩
    rw [show (!decide (V.str d.shown = V.str d.shown)) = false by rw [decide_eq_true rfl]; rfl]
    refine iteF ?_
    have R38 := R37.trans R8
    clear hv8 e2 np2b npb Rxy t2 szu e1 t1 sxy hv Ra
    -- held
    refine Sw.gn_some (K := K) (b := b) (mu := mF b) (H0 := H8) (D := fun d => ∃ j : Nat, d = .int j ∧ 1 ≤ j ∧ j ≤ 13) (n := 3) hmu rfl (gnA_cons hmu (Sw.ge_int.gn ⟨1, rfl, by decide, by decide⟩) (gnA_cons hmu (Sw.ge_int.gn ⟨12, rfl, by decide, by decide⟩) (gnA_cons hmu (Sw.ge_int.gn ⟨13, rfl, by decide, by decide⟩) gnA_nil))) (by decide) (by decide) H8 (.refl R38.bag) (MG.rel R38) _ fun v9 H9 d9 hd9 R9 hv9 => ?_
    obtain ⟨j1, rfl, j10, j11⟩ := hd9
    cases hv9
    refine ⟨"x", j1, rfl, rfl, by omega, by omega, by decide +kernel, fun rs hrl hrp => ⟨_, rfl, sz (by simp), fun t3 nt3 => ?_⟩⟩
    have R39 := R38.trans R9
    have e3 := same_upd (o := .tup [vc]) nt3
    have hvc9 := (hvc8.fut (R9.fut (mu := mF b) hmu R38.bag))
    refine Sw.gn_some (K := K) (b := b) (mu := mF b) (H0 := upd H9 t3 (.tup [vc])) (D := fun d => ∃ j : Nat, d = .int j ∧ j ≤ 2) (n := 3) hmu rfl (gnA_cons hmu (Sw.ge_int.gn ⟨1, rfl, by decide⟩) (gnA_cons hmu (Sw.ge_int.gn ⟨2, rfl, by decide⟩) (gnA_cons hmu (Sw.ge_int.gn ⟨0, rfl, by decide⟩) gnA_nil))) (by decide) (by decide) _ (.refl (R39.same e3).bag) (MG.rel (R39.same e3)) _ fun v10 H10 d10 hd10 R10 hv10 => ?_
    obtain ⟨j2, rfl, j20⟩ := hd10
    cases hv10
    have f10 := R10.fut (mu := mF b) hmu (R39.same e3).bag
    have ht10 : SqT K H10 t3 [vc] := sq_fut (.of upd_same) f10
    have hvc10 := (hvc9.fut (.of_same e3)).fut f10
    refine ⟨t3, j2, [vc], rfl, rfl, ht10, by simp, by omega, by omega, by simp, fun pt H11 s11 hpt => ⟨sz (by simp), fun hh nhh => ?_⟩⟩
    have R311 := ((R39.same e3).trans R10).same s11
    have t12 := same_upd (o := .tup [.str rs, .ref pt]) nhh
    have hvh : Dt K (mF b) (upd H11 hh (.tup [.str rs, .ref pt])) (.ref hh) (.tuple [.str rs, .tuple (List.replicate j2 dc)]) := tup_new nhh (.cons (.str rs) (.cons (dt_tupS hpt (dtA_rep (hvc10.fut (.of_same s11)) j2)) .nil))
    have R312 := R311.same t12
    have sdh : Sd 12 12000 (.tuple [.str rs, .tuple (List.replicate j2 dc)]) := held_sd hdc (by rw [hrl]; show 1 ≤ 1 * _; omega) (by rw [hrl]; show 1 * _ ≤ 13; omega) (hrp _ (by decide +kernel)) j20
    revert hvh R312
    generalize upd H11 hh (.tup [.str rs, .ref pt]) = H12
    intro hvh R312
    clear t12 R311 hpt hvc10 ht10 f10 R10 hvc9 e3 R39 R9
    refine ⟨_, rfl, _, rfl, _, rfl, 2, by decide, b, mF b, _, _, 13, 10 ^ 40, 0, rfl, hmu, R312.bag, MG.rel R312, hvh, (th_sd sdh (by decide) (by decide) (by show 2 < 64; decide)).ok, sm_wl sdh.ok, by decide, by decide, by decide +kernel, by decide +kernel, by decide, fun vb H13 db hdb R13 hvb => ⟨sz (by simp), fun T nT => ?_⟩⟩
    have okb := th_bn sdh (by show 2 ≤ 3; decide) hdb
    have sT := same_upd (o := .tup [.ref hh, vb]) nT
    have R14 := (R312.trans R13).same sT
    have hTT : SqT K (upd H13 T (.tup [.ref hh, vb])) T [.ref hh, vb] := .of upd_same
    have hX : DtA K (mF b) (upd H13 T (.tup [.ref hh, vb])) [.ref hh, vb] [.tuple [.str rs, .tuple (List.replicate j2 dc)], db] := .cons ((hvh.fut (R13.fut (mu := mF b) hmu R312.bag)).fut (.of_same sT)) (.cons (hvb.fut (.of_same sT)) .nil)
    have hTh : ∀ d ∈ [.tuple [.str rs, .tuple (List.replicate j2 dc)], db], Ok d := fun d hd => by
      simp only [List.mem_cons, List.not_mem_nil, or_false] at hd
      rcases hd with rfl | rfl
      · exact (th_sd sdh (by decide) (by decide) (by show 2 < 64; decide)).ok
      · exact okb.ok
    refine ⟨T, rfl, ⟨_, hTT⟩, ?_⟩
    revert R14 hTT hX
    generalize upd H13 T (.tup [.ref hh, vb]) = H14
    intro R14 hTT hX
    refine for_it (walk_tup (K := K) (a := T) (xs := [.ref hh, vb])) (fun i' σ H' => ∃ o6 o7 o8 o9 o10 o11, σ = [some (.ref a), some (.ref b), some W, some x, some (.int r), some vc, o6, o7, o8, o9, o10, o11, none, none] ∧ Rel b H14 H') ⟨_, _, _, _, _, _, rfl, .refl R14.bag⟩ (fun i' σ H' _ h => ?_) (fun i' xt σ Hp Hq hi' h y => ?_) fun σ Hp h => ?_
    · obtain ⟨_, _, _, _, _, _, _, R⟩ := h
      exact sq_fut hTT (R.fut (mu := mF b) hmu R14.bag)
    · obtain ⟨o6, o7, o8, o9, o10, o11, rfl, Rp⟩ := h
      obtain ⟨rfl, hxt⟩ := y
      obtain ⟨dt, hdt, hvt⟩ := hX.get hxt
      have okt := hTh dt (List.mem_of_getElem? hdt)
      have hvp := hvt.fut (Rp.fut (mu := mF b) hmu R14.bag)
      refine ⟨_, rfl, xt, mF b, dt, rfl, hvp, okt.show, .inr (.inr rfl), by have := okt.dp; omega, okt.fits, ?_⟩
      refine ⟨_, rfl, _, rfl, r, xt, mF b, dt, rfl, hvp, okt, fun Hx sx => ⟨_, rfl, _, rfl, r, xt, mF b, dt, rfl, hvp.fut (.of_same sx), okt, fun Hy sy => ?_⟩⟩
      refine ⟨_, _, (fun _ => False), .bool (holdD r dt), rfl, .bl _, .bl _, ⟨rfl, by simp [PyData.depth], by simp [PyData.weight]⟩, .inl rfl, ⟨true, rfl, iteF ?_⟩⟩
      refine ⟨_, rfl, xt, mF b, dt, rfl, hvp.fut (.of_same (sx.trans sy)), okt.show, .inr (.inr rfl), by have := okt.dp; omega, okt.fits, _, rfl, rfl, _, rfl, ?_⟩
      rw [show (!decide (V.str dt.shown = V.str dt.shown)) = false by rw [decide_eq_true rfl]; rfl]
      exact iteF ⟨_, _, _, _, _, _, rfl, Rp.same (sx.trans sy)⟩
    · obtain ⟨o6, o7, o8, o9, o10, o11, rfl, Rp⟩ := h
      exact ⟨_, _, _, _, _, _, _, _, _, rfl, R14.trans Rp⟩
  · obtain ⟨o3, o4, o5, o6, o7, o8, o9, o10, o11, rfl, R2⟩ := h
    obtain ⟨fs, rfl, hfl⟩ := hW.len
    obtain ⟨aw, xw, rfl, hSw, hAw⟩ := hdW.tupAt
    have hxl := hAw.length
    have hsm : smA fs = true := by simpa only [smD] using hW.sd.ok
    have hwt : PyData.weightAll fs ≤ 9600 := by simpa only [PyData.weight] using hW.sd.wt
    have hdp : PyData.depthAll fs ≤ 10 := by
      have := hW.sd.dp
      simp only [PyData.depth] at this
      omega
    have hwb : fs.all firmD = true := by
      have h2 : (fs.all firmD && ascS (fs.map nmS)) = true := hW.web
      rw [Bool.and_eq_true] at h2
      exact h2.1
    have swt : ∀ {H' : Hp}, Rel b G H' → SqT K H' aw xw := fun R => sq_fut hSw (R.fut (mu := mF b) hmu hG)
    have dwt : ∀ {H' : Hp}, Rel b G H' → DtA K (mF b) H' xw fs := fun R => hAw.fut (R.fut (mu := mF b) hmu hG)
    refine ⟨fun σ' H' => ∃ (af a3 : Addr) (nm : Str) (rk : Int) (zs : List V) (hs : List PyData), σ' = [some (.ref a), some (.ref b), some (.ref aw), o3, o4, o5, o6, o7, o8, o9, o10, o11, some (.ref af), none] ∧ Rel b G H' ∧ SqT K H' af [.str nm, .int rk, .ref a3] ∧ SqT K H' a3 zs ∧ DtA K (mF b) H' zs hs ∧ Sd 11 9600 (.tuple [.str nm, .int rk, .tuple hs]), ?_, ?_⟩
    · refine ⟨_, rfl, Nat.zero_le _, fun q nq => ⟨aw, q, xw, rfl, rfl, (same_upd nq).seqT (swt R2), .of upd_same, _, rfl, iteB (fun hx => ?_) fun hx => ?_⟩⟩
      · have Rq := R2.same (same_upd (o := .tup []) nq)
        obtain ⟨e, es, rfl⟩ : ∃ e es, fs = e :: es := by
          cases fs with
          | nil =>
            have : xw = [] := List.eq_nil_of_length_eq_zero hxl
            rw [this] at hx
            exact absurd hx (by decide)
          | cons e es => exact ⟨_, _, rfl⟩
        obtain ⟨ve, hve, hde⟩ := (dwt Rq).getD (i := 0) (d := e) rfl
        obtain ⟨nm, rk, hs, rfl⟩ := firm_shape (List.all_eq_true.mp hwb e List.mem_cons_self)
        obtain ⟨af, x3, rfl, hSf, hAf⟩ := hde.tupAt
        obtain ⟨y1, y2, y3, _, _, _, rfl, ee, z1, z2, z3⟩ := hAf.three rfl
        cases ee
        cases z1
        cases z2
        obtain ⟨a3, zs, rfl, hS3, hA3⟩ := z3.tupAt
        refine ⟨_, rfl, aw, xw, 0, _, rfl, rfl, swt Rq, atI_nat (j := 0) hve, af, a3, nm, rk, zs, hs, rfl, Rq, hSf, hS3, hA3, ?_⟩
        simp only [smA, Bool.and_eq_true] at hsm
        have hm := dpA_le.mp hdp _ List.mem_cons_self
        refine ⟨hsm.1, ?_, by omega, ?_⟩
        · have := smA_nd (ds := [.tuple [.str nm, .int rk, .tuple hs]]) (by simp only [smA, hsm.1, Bool.and_self])
          simpa only [PyData.hasDictAll, Bool.or_false] using this
        · simp only [PyData.weightAll] at hwt
          omega
      · have Rq := R2.same (same_upd (o := .tup []) nq)
        refine ⟨Nat.zero_le _, fun t1 n1 => ⟨sz (by simp), fun t2 n2 => ?_⟩⟩
        have s1 := same_upd (o := .tup []) n1
        have s2 := same_upd (o := .tup [.str "a", .int 0, .ref t1]) n2
        refine ⟨t2, t1, "a", 0, [], [], rfl, (Rq.same s1).same s2, .of upd_same, s2.seqT (.of upd_same), .nil, ?_⟩
        exact ⟨by decide +kernel, by decide +kernel, by decide +kernel, by decide +kernel⟩
    · rintro σ' H3 ⟨af, a3, nm, rk, zs, hs, rfl, R3, hSf, hS3, hA3, sdf⟩
      have hb3 := R3.bag
      have M3 := MG.rel R3
      have hdf : Dt K (mF b) H3 (.ref af) (.tuple [.str nm, .int rk, .tuple hs]) := dt_tupS hSf (.cons (.str nm) (.cons (.int rk) (.cons (dt_tupS hS3 hA3) .nil)))
      have sf : ∀ {H' : Hp}, Rel b H3 H' → SqT K H' af [.str nm, .int rk, .ref a3] := fun R => sq_fut hSf (R.fut (mu := mF b) hmu hb3)
      have s3 : ∀ {H' : Hp}, Rel b H3 H' → SqT K H' a3 zs := fun R => sq_fut hS3 (R.fut (mu := mF b) hmu hb3)
      have d3 : ∀ {H' : Hp}, Rel b H3 H' → DtA K (mF b) H' zs hs := fun R => hA3.fut (R.fut (mu := mF b) hmu hb3)
      have hzl := hA3.length
      have sdp : smD (.str nm) = true ∧ smD (.int rk) = true ∧ smA hs = true := by
        have := sdf.ok
        simp only [smD, smA, Bool.and_true, Bool.and_eq_true] at this ⊢
        exact this
      have swt2 : (PyData.str nm).weight + 1 + ((PyData.int rk).weight + 1) + (PyData.weightAll hs + 1) ≤ 9600 := by
        have := sdf.wt
        simp only [PyData.weight, PyData.weightAll] at this ⊢
        omega
      have sdd : PyData.depthAll hs ≤ 9 := by
        have := sdf.dp
        simp only [PyData.depth, PyData.depthAll] at this
        omega
      have hhl : hs.length ≤ 9600 := by
        have := weight_len hs
        omega
      have thf : Th (.tuple [.str nm, .int rk, .tuple hs]) := th_sd sdf (by decide) (by decide) (by show 3 < 64; decide)
      refine seq_asg_lst (gnA_cons (K := K) (mu := mF b) (D := Th) hmu (gn_var hmu hb3 rfl hdf thf) (gnA_cons hmu ?g2 (gnA_cons hmu ?g3 (gnA_cons hmu (gn_bent (n := 4) hmu hb3 rfl rfl hdf (sdf.mono (by decide) (by decide)) (by show 3 ≤ 3; decide) (by decide)) gnA_nil))) H3 (.refl hb3) M3 _ fun vs4 H4 ds4 hl4 hT4 R4 hA4 => ⟨Nat.le_of_lt (small1000 (by rw [hA4.length, hl4]; decide)), fun Tg nTg => ?_⟩)
      case g2 =>
        intro H r m Q q
        refine ⟨_, rfl, af, _, 0, _, rfl, rfl, sf r, atI_nat (j := 0) rfl, ?_⟩
        refine Sw.gn_some (K := K) (b := b) (mu := mF b) (H0 := H) (D := fun d => smD d = true ∧ d.weight ≤ 5 ∧ d.depth = 0 ∧ d.hasDict = false) (n := 4) hmu rfl (gnA_cons hmu (Sw.ge_int.gn (by decide +kernel)) (gnA_cons hmu (Sw.ge_int.gn (by decide +kernel)) (gnA_cons hmu (ge_neg.gn (by decide +kernel)) (gnA_cons hmu (ge_bl.gn (by decide +kernel)) gnA_nil)))) (by decide) (by decide) H (.refl r.bag) m _ fun v5 H5 d5 hd5 R5 hv5 => ?_
        refine ⟨_, rfl, af, _, 2, _, rfl, rfl, sf (r.trans R5), atI_nat (j := 2) rfl, sz (by simp), fun p np => ?_⟩
        obtain ⟨h1, h2, h3, h4⟩ := hd5
        refine q _ _ (.tuple [.str nm, d5, .tuple hs]) (th_sd (p := 11) (w := 9700) ⟨?_, ?_, ?_, ?_⟩ (by decide) (by decide) (by show 3 < 64; decide)) (R5.same (same_upd np)) (tup_new np (.cons (.str nm) (.cons hv5 (.cons (dt_tupS (s3 (r.trans R5)) (d3 (r.trans R5))) .nil))))
        · have := sdp.1
          simp only [smD, smA, Bool.and_true, Bool.and_eq_true] at this h1 ⊢
          exact ⟨this, h1, sdp.2.2⟩
        · simp only [PyData.hasDict, PyData.hasDictAll, h4, smA_nd sdp.2.2, Bool.or_self]
        · simp only [PyData.depth, PyData.depthAll, h3]
          omega
        · simp only [PyData.weight, PyData.weightAll] at swt2 ⊢
          omega
      case g3 =>
        intro H r m Q q
        refine ⟨_, rfl, af, _, 0, _, rfl, rfl, sf r, atI_nat (j := 0) rfl, _, rfl, af, _, 1, _, rfl, rfl, sf r, atI_nat (j := 1) rfl, _, rfl, af, _, 2, _, rfl, rfl, sf r, atI_nat (j := 2) rfl, ?_⟩
        refine ⟨_, rfl, af, _, 0, _, rfl, rfl, sf r, atI_nat (j := 0) rfl, sz (by simp), fun t1 n1 => ⟨sz (by simp), fun t2 n2 => ⟨sz (by simp), fun t3 n3 => ⟨sz (by simp), fun t4 n4 => ?_⟩⟩⟩⟩
        have e1 := same_upd (o := .tup [.str "none"]) n1
        have e2 := same_upd (o := .tup [.ref t1]) n2
        have e3 := same_upd (o := .tup [.str nm, .ref t2]) n3
        have e4 := same_upd (o := .tup [.ref t3]) n4
        have e14 := ((e1.trans e2).trans e3).trans e4
        have dh : DtA K (mF b) (upd (upd (upd (upd H t1 (.tup [.str "none"])) t2 (.tup [.ref t1])) t3 (.tup [.str nm, .ref t2])) t4 (.tup [.ref t3])) [.ref t3] [.tuple [.str nm, .tuple [.tuple [.str "none"]]]] :=
          (DtA.cons (tup_new n3 (.cons (.str nm) (.cons (tup_new n2 (.cons (tup_new n1 (.cons (.str "none") .nil)) .nil)) .nil))) .nil).fut (.of_same e4)
        refine cat_use (e14.seqT (s3 r)) (.of upd_same) (by rw [sizeLine_eq]; show _ + 1 ≤ _; omega) fun p5 H5 s5 hp5 => ⟨sz (by simp), fun p6 n6 => ?_⟩
        have e5 := e14.trans s5
        refine q _ _ (.tuple [.str nm, .int rk, .tuple (hs ++ [.tuple [.str nm, .tuple [.tuple [.str "none"]]]])]) (th_sd (p := 12) (w := 19300) ⟨?_, ?_, ?_, ?_⟩ (by decide) (by decide) (by show 3 < 64; decide)) ((Rel.of_same r.bag e5).same (same_upd n6)) (tup_new n6 (.cons (.str nm) (.cons (.int rk) (.cons (dt_tupS hp5 (((d3 r).fut (.of_same e5)).append (dh.fut (.of_same s5)))) .nil))))
        · have h1 := sdp.1
          have h2 := sdp.2.1
          have h4 : smD (.str "none") = true := by decide +kernel
          simp only [smD, smA, smA_app, Bool.and_true, Bool.and_eq_true] at h1 h2 h4 ⊢
          exact ⟨h1, h2, sdp.2.2, h1, h4⟩
        · have : smA (hs ++ [.tuple [.str nm, .tuple [.tuple [.str "none"]]]]) = true := by
            have h1 := sdp.1
            have h4 : smD (.str "none") = true := by decide +kernel
            simp only [smD, smA, smA_app, Bool.and_true, Bool.and_eq_true] at h1 h4 ⊢
            exact ⟨sdp.2.2, h1, h4⟩
          simp only [PyData.hasDict, PyData.hasDictAll, smA_nd this, Bool.or_self]
        · have : PyData.depthAll (hs ++ [.tuple [.str nm, .tuple [.tuple [.str "none"]]]]) ≤ 9 := by
            rw [dpA_le]
            intro d hd
            rcases List.mem_append.mp hd with hd | hd
            · exact dpA_le.mp sdd d hd
            · rw [List.mem_singleton.mp hd]
              simp [PyData.depth, PyData.depthAll]
          simp only [PyData.depth, PyData.depthAll]
          omega
        · have h4 : ("none" : Str).cps.size = 4 := by decide +kernel
          simp only [PyData.weight, PyData.weightAll, wt_one, h4] at swt2 ⊢
          omega
      have R5 := (R3.trans R4).same (same_upd (o := .lst vs4) nTg)
      have TgB := bag_ne R4.bag nTg
      have hT5 : (upd H4 Tg (.lst vs4)) Tg = some (.lst vs4) := upd_same
      have hA5 := hA4.fut (K := K) (mu := mF b) (.of_same (same_upd (o := .lst vs4) nTg))
      revert R5 hT5 hA5
      generalize upd H4 Tg (.lst vs4) = H5
      intro R5 hT5 hA5
      have hb5 := R5.bag
      have hw5 : Dt K (mF b) H5 (.ref aw) (.tuple fs) := dt_tupS (swt R5) (dwt R5)
      have sdw := hW.sd
      have thw : ∀ {es : List PyData}, (∀ e ∈ es, e ∈ fs) → PyData.weightAll es ≤ 19200 → es.length ≤ 6 → Th (.tuple es) := fun {es} h1 h2 h3 => by
        have q1 : smA es = true := smA_iff.mpr fun e he => smA_iff.mp hsm e (h1 e he)
        have q2 : PyData.depthAll es ≤ 10 := dpA_le.mpr fun e he => dpA_le.mp hdp e (h1 e he)
        exact th_sd (p := 11) (w := 19200) ⟨by simp only [smD]; exact q1, by simp only [PyData.hasDict]; exact smA_nd q1, by simp only [PyData.depth]; omega, by simp only [PyData.weight]; exact h2⟩ (by decide) (by decide) (by show es.length < 64; omega)
      have gv : ∀ {σ : L2.St}, σ[2]? = some (some (.ref aw)) → Gs K b σ H5 (tVar 2) xw := fun hσ => gs_var hb5 hσ (swt R5)
      have dA := dwt R5
      have c1 := cutV_length xw none (some 1)
      have c2 := cutV_length xw (some (-1)) none
      have lt : lenT (.tuple fs) ≤ 3 := by show fs.length ≤ 3; omega
      refine ⟨_, rfl, lst_use (gnA_cons (K := K) (mu := mF b) (D := Th) hmu (gn_var hmu hb5 rfl hw5 (thw (fun _ h => h) (by omega) (by omega)))
        (gnA_cons hmu ((gs_rev (gv rfl)).gn hmu hb5 (dtA_revS dA) (thw (fun e h => List.mem_reverse.mp h) (by rw [wtA_rev]; omega) (by rw [List.length_reverse]; omega)))
        (gnA_cons hmu ((gs_cat (gv rfl) (gs_sl (gv rfl) gp_none gp_int) (by omega)).gn hmu hb5 (dA.append (dtA_cut dA)) (thw (fun e h => (List.mem_append.mp h).elim id sliD_mem) (by rw [wtA_app]; have := sliD_wt fs none (some 1); omega) (by rw [List.length_append]; have := sliD_len fs none (some 1); omega)))
        (gnA_cons hmu ((gs_cat (gv rfl) (gs_sl (gv rfl) gp_neg gp_none) (by omega)).gn hmu hb5 (dA.append (dtA_cut dA)) (thw (fun e h => (List.mem_append.mp h).elim id sliD_mem) (by rw [wtA_app]; have := sliD_wt fs (some (-1)) none; omega) (by rw [List.length_append]; have := sliD_len fs (some (-1)) none; omega)))
        (gnA_cons hmu (gn_bent (n := 1) hmu hb5 rfl rfl hw5 (sdw.mono (by decide) (by decide)) lt (by decide))
        (gnA_cons hmu (gn_bent (n := 5) hmu hb5 rfl rfl hw5 (sdw.mono (by decide) (by decide)) lt (by decide))
        (gnA_cons hmu (gn_odd hmu rfl) gnA_nil)))))) H5 (.refl hb5) (MG.rel R5) _ fun vs6 H6 ds6 hl6 hT6 R6 hA6 => ⟨Nat.le_of_lt (small1000 (by rw [hA6.length, hl6]; decide)), fun Tp nTp => ?_⟩)⟩
      have s7 := same_upd (o := .lst vs6) nTp
      have hT7 := s7 _ _ (R6.keep _ _ TgB hT5)
      refine ⟨Tg, Tp, vs4, vs6, rfl, rfl, hT7, upd_same, Nat.le_of_lt (small1000 (by rw [hA5.length, hA6.length, hl4, hl6]; decide)), fun Lp nLp => ?_⟩
      have s8 := same_upd (o := .lst (vs4 ++ vs6)) nLp
      have LpB := bag_ne ((R6.same s7).bag) nLp
      have R8 := (R6.same s7).same s8
      have hX : DtA K (mF b) (upd (upd H6 Tp (.lst vs6)) Lp (.lst (vs4 ++ vs6))) (vs4 ++ vs6) (ds4 ++ ds6) := (hA5.fut (R8.fut (mu := mF b) hmu hb5)).append (hA6.fut (.of_same (s7.trans s8)))
      have hL : (upd (upd H6 Tp (.lst vs6)) Lp (.lst (vs4 ++ vs6))) Lp = some (.lst (vs4 ++ vs6)) := upd_same
      have hTh : ∀ d ∈ ds4 ++ ds6, Th d := fun d hd => (List.mem_append.mp hd).elim (hT4 d) (hT6 d)
      have RL := R5.trans R8
      refine ⟨Lp, rfl, ⟨_, .inl (.inl hL)⟩, ?_⟩
      revert hX hL RL
      generalize upd (upd H6 Tp (.lst vs6)) Lp (.lst (vs4 ++ vs6)) = H9
      generalize vs4 ++ vs6 = xs at *
      generalize ds4 ++ ds6 = ds at *
      intro hX hL RL
      refine for_it (walk_list (K := K) (a := Lp) (xs := xs)) (fun i' σ H' => ∃ o6 o8, σ = [some (.ref a), some (.ref b), some (.ref aw), o3, o4, o5, o6, o7, o8, o9, o10, o11, some (.ref af), some (.ref Tg)] ∧ Rel b H9 H') ⟨_, _, rfl, .refl RL.bag⟩ (fun i' σ H' _ h => ?_) (fun i' xt σ Hp Hq hi' h y => ?_) fun σ Hp h => ?_
      · obtain ⟨_, _, _, R⟩ := h
        exact .inl (.inl (R.keep _ _ LpB hL))
      · obtain ⟨o6', o8', rfl, Rp⟩ := h
        obtain ⟨rfl, hxt⟩ := y
        obtain ⟨dt, hdt, hvt⟩ := hX.get hxt
        have tht := hTh dt (List.mem_of_getElem? hdt)
        have okt := tht.ok
        have hvp := hvt.fut (Rp.fut (mu := mF b) hmu RL.bag)
        have h64 : ∀ fs', dt = .tuple fs' → fs'.length < 64 := fun fs' e => by
          have := tht.len
          rw [e] at this
          exact this
        refine ⟨_, rfl, xt, mF b, dt, rfl, hvp, okt.show, .inr (.inr rfl), by have := okt.dp; omega, okt.fits, ?_⟩
        refine ⟨_, rfl, xt, mF b, dt, rfl, hvp, okt, fun Hx sx => ⟨_, rfl, xt, mF b, dt, rfl, hvp.fut (.of_same sx), okt, fun Hy sy => ⟨sz (by simp), fun p1 n1 => ?_⟩⟩⟩
        have sxy := sx.trans sy
        have t1 := same_upd (o := .lst [.bl (firmD dt), .bl (webD dt)]) n1
        have e1 := sxy.trans t1
        refine ⟨_, rfl, xt, mF b, dt, rfl, hvp.fut (.of_same e1), okt, fun Hz sz' => ⟨_, rfl, xt, mF b, dt, rfl, hvp.fut (.of_same (e1.trans sz')), okt, h64, fun Hu su => ⟨sz (by simp), fun p2 n2 => ?_⟩⟩⟩
        have szu := sz'.trans su
        have t2 := same_upd (o := .lst [.bl (firmD dt), .bl (webD dt)]) n2
        have Rxy := Rp.same sxy
        have npb := nbp Rxy.bag n1
        have np2b := nbp ((Rxy.same t1).same szu).bag n2
        refine ⟨.ref p1, .ref p2, (fun a => a = b), .list [.bool (firmD dt), .bool (webD dt)], rfl, .lst npb (.inl (t2 _ _ (szu _ _ upd_same))) (.cons (.bl _) (.cons (.bl _) .nil)), .lst np2b (.inl upd_same) (.cons (.bl _) (.cons (.bl _) .nil)), ⟨rfl, by simp [PyData.depth, PyData.depthAll], by simp [PyData.weight, PyData.weightAll]⟩, .inl rfl, ⟨true, rfl, iteF ?_⟩⟩
        have e2 := e1.trans (szu.trans t2)
        refine ⟨_, rfl, xt, mF b, dt, rfl, hvp.fut (.of_same e2), okt.show, .inr (.inr rfl), by have := okt.dp; omega, okt.fits, _, rfl, rfl, _, rfl, ?_⟩
        rw [show (!decide (V.str dt.shown = V.str dt.shown)) = false by rw [decide_eq_true rfl]; rfl]
        exact iteF ⟨_, _, rfl, Rp.same e2⟩
      · obtain ⟨o6', o8', rfl, Rp⟩ := h
        exact ⟨rfl, fun H' _ => k H'⟩
end
end K02
namespace K02
open PySem PySem.Spec PyProof.Rows L2 Sw StX RZ
theorem intE_u {K : PySem.W.Frag} {h : Heap} {mg : Str → Option Value} {x : Str} {n : Int} (X : K.In h) (G : h.Ns mainGlobals mg) (e : ∃ t : Tok, PySem.W.nsIn K mainGlobals x = some (some (.int n t))) : ∃ u, mg x = some u ∧ RelV (.int n) u := by
  obtain ⟨t, a⟩ := e
  exact ⟨_, PySem.W.mg_of X G a, ⟨t, rfl⟩⟩
section
variable {P : Program} {w : World} {K : PySem.W.Frag} {mg : Str → Option Value} {base : Heap}
theorem isclaim_chain {f : Addr} {fd : FuncData} (F : Fun K "_law_is_claim" "_law_is_claim" s_law_is_claim f fd) (B : Bt mg) (c1 : CalG P w K mg base 1 "_law_is_int" (spP K isInt)) (c2 : CalG P w K mg base 3 "_law_is_above" (spP K isAb))
    (mk : ∀ j sp, FnG P w K mg base j f fd ["ranks", "thing"] sp → CalG P w K mg base j "_law_is_claim" sp) : ∀ n, CalG P w K mg base (4 + n) "_law_is_claim" (spClmL K n)
  | 0 => mk _ _ (ok__law_is_claim (sp := fun _ _ _ _ => False) (by decide) (.inl rfl) F B c1 c2 (mk 3 _ ⟨fun _ _ _ _ h => h.elim, fun _ _ _ _ _ h => h.elim⟩))
  | n + 1 => mk _ _ (ok__law_is_claim (show 3 ≤ 4 + n by omega) (.inr ⟨n, rfl, rfl⟩) F B c1 c2 (isclaim_chain F B c1 c2 mk n))
theorem leaves_chain {f : Addr} {fd : FuncData} (F : Fun K "_law_leaves" "_law_leaves" s_law_leaves f fd) (B : Bt mg) (TS : mg "sum" = none)
    (mk : ∀ j sp, FnG P w K mg base j f fd ["claim"] sp → CalG P w K mg base j "_law_leaves" sp) : ∀ n, FnG P w K mg base (1 + n) f fd ["claim"] (spLeaves K n)
  | 0 => ok__law_leaves (j := 0) (sp := fun _ _ _ _ => False) (.inl rfl) F B TS (mk 0 _ ⟨fun _ _ _ _ h => h.elim, fun _ _ _ _ _ h => h.elim⟩)
  | n + 1 => ok__law_leaves (.inr ⟨n, rfl, rfl⟩) F B TS (mk _ _ (leaves_chain F B TS mk n))
theorem claim_chain {f : Addr} {fd : FuncData} (F : Fun K "_law_claim" "_law_claim" s_law_claim f fd) (B : Bt mg) (c1 : CalG P w K mg base 1 "_law_take" spTake) (c2 : CalG P w K mg base 3 "_law_number" (spNumE K))
    (mk : ∀ j sp, FnG P w K mg base j f fd ["bag", "ranks", "deep", "may_due"] sp → CalG P w K mg base j "_law_claim" sp) : ∀ n, FnG P w K mg base (4 + n) f fd ["bag", "ranks", "deep", "may_due"] (spClaim K n)
  | 0 => ok__law_claim (sp := fun _ _ _ _ => False) (by decide) (.inl rfl) F B c1 c2 (mk 3 _ ⟨fun _ _ _ _ h => h.elim, fun _ _ _ _ _ h => h.elim⟩)
  | n + 1 => ok__law_claim (show 3 ≤ 4 + n by omega) (.inr ⟨n, rfl, rfl⟩) F B c1 c2 (mk _ _ (claim_chain F B c1 c2 mk n))
end
end K02
namespace K02
open PySem PySem.Spec PyProof.Rows L2 Sw
section
variable {K : PySem.W.Frag} {h : Heap} {mg : Str → Option Value}
/-- the top has written the def x -/
def DefE (K : PySem.W.Frag) (mg : Str → Option Value) (x : Str) (st : Stmt) : Prop := ∃ (f : Addr) (fd : FuncData), Fun K x x st f fd ∧ mg x = some (.ref f) ∧ PySem.W.keepIn K (.ref f) = true
theorem def_mk {x : Str} {st : Stmt} {f : Addr} {oc : Value} {od an : Option Addr} {osl : Array (Option Value)} {kV doc pm cdv ct : Value} (X : K.In h) (G : h.Ns mainGlobals mg) (a : PySem.W.nsIn K mainGlobals x = some (some (.ref f)))
    (l : K.lookup f = some ⟨oc, od, .func (PySem.W.fnOf x x (defArgs st) (defBody st) (defScope st) .none kV doc pm an cdv ct), osl⟩) (c : PySem.W.codeIn K cdv x = true) (k : PySem.W.keepIn K (.ref f) = true) : DefE K mg x st :=
  ⟨f, _, fun_mk l c k, PySem.W.mg_of X G a, k⟩
def DefL (K : PySem.W.Frag) (mg : Str → Option Value) : Prop := ∃ (f : Addr) (fd : FuncData), Fun K "law" "law" slaw f fd ∧ mg "law" = some (.ref f) ∧ ∀ (s : Shared) (v : Value), BindsTo s fd ⟨[v], []⟩ [("script", v)]
theorem law_mk {f : Addr} {oc : Value} {od an : Option Addr} {osl : Array (Option Value)} {kV doc pm cdv ct : Value} (X : K.In h) (G : h.Ns mainGlobals mg) (a : PySem.W.nsIn K mainGlobals "law" = some (some (.ref f)))
    (l : K.lookup f = some ⟨oc, od, .func (PySem.W.fnOf "law" "law" (defArgs slaw) (defBody slaw) (defScope slaw) .none kV doc pm an cdv ct), osl⟩) (c : PySem.W.codeIn K cdv "law" = true) (k : PySem.W.keepIn K (.ref f) = true) : DefL K mg :=
  ⟨f, _, fun_mk l c k, PySem.W.mg_of X G a, fun s v => .of_eq rfl⟩
def BtE (K : PySem.W.Frag) : Prop := ∀ x ∈ (["len", "int", "bool", "str", "tuple", "list", "dict", "isinstance", "repr", "abs", "max", "min", "range", "enumerate", "zip", "all", "sum", "sorted", "set"] : List Str), PySem.W.nsIn K mainGlobals x = some none
theorem BtE.get (b : BtE K) (X : K.In h) (G : h.Ns mainGlobals mg) {x : Str} (hx : x ∈ (["len", "int", "bool", "str", "tuple", "list", "dict", "isinstance", "repr", "abs", "max", "min", "range", "enumerate", "zip", "all", "sum", "sorted", "set"] : List Str)) : mg x = none := PySem.W.mg_none_of X G (b x hx)
theorem bte_mk (z0 : PySem.W.nsIn K mainGlobals "len" = some none) (z1 : PySem.W.nsIn K mainGlobals "int" = some none) (z2 : PySem.W.nsIn K mainGlobals "bool" = some none) (z3 : PySem.W.nsIn K mainGlobals "str" = some none) (z4 : PySem.W.nsIn K mainGlobals "tuple" = some none) (z5 : PySem.W.nsIn K mainGlobals "list" = some none) (z6 : PySem.W.nsIn K mainGlobals "dict" = some none) (z7 : PySem.W.nsIn K mainGlobals "isinstance" = some none) (z8 : PySem.W.nsIn K mainGlobals "repr" = some none) (z9 : PySem.W.nsIn K mainGlobals "abs" = some none) (z10 : PySem.W.nsIn K mainGlobals "max" = some none) (z11 : PySem.W.nsIn K mainGlobals "min" = some none) (z12 : PySem.W.nsIn K mainGlobals "range" = some none) (z13 : PySem.W.nsIn K mainGlobals "enumerate" = some none) (z14 : PySem.W.nsIn K mainGlobals "zip" = some none) (z15 : PySem.W.nsIn K mainGlobals "all" = some none) (z16 : PySem.W.nsIn K mainGlobals "sum" = some none) (z17 : PySem.W.nsIn K mainGlobals "sorted" = some none) (z18 : PySem.W.nsIn K mainGlobals "set" = some none) : BtE K := by
  intro x hx
  simp only [List.mem_cons, List.not_mem_nil, or_false] at hx
  rcases hx with rfl | rfl | rfl | rfl | rfl | rfl | rfl | rfl | rfl | rfl | rfl | rfl | rfl | rfl | rfl | rfl | rfl | rfl | rfl <;> assumption
/-- .. a tuple of two integers -/
def TupE (K : PySem.W.Frag) (mg : Str → Option Value) (x : Str) (n d : Int) : Prop := ∃ z, mg x = some (.ref z) ∧ KTup K z [.int n, .int d]
theorem tup_mk {x : Str} {n d : Int} {z : Addr} {od : Option Addr} {t t' : Tok} {k : Nat} {osl : Array (Option Value)} (X : K.In h) (G : h.Ns mainGlobals mg) (a : PySem.W.nsIn K mainGlobals x = some (some (.ref z)))
    (l : K.lookup z = some ⟨.type "tuple", od, .seq #[.int n t, .int d t'] k, osl⟩) : TupE K mg x n d :=
  ⟨z, PySem.W.mg_of X G a, _, _, _, l, rfl, rfl, (show 2 ≤ sizeLine by decide), .cons ⟨_, rfl⟩ (.cons ⟨_, rfl⟩ .nil)⟩
def GcE (K : PySem.W.Frag) (x : Str) (b : String) : Prop := PySem.W.nsIn K mainGlobals x = some (some (.builtin b))
theorem gc_mk {x : Str} {b : String} (a : PySem.W.nsIn K mainGlobals x = some (some (.builtin b))) : GcE K x b := a
def IntE (K : PySem.W.Frag) (x : Str) (n : Int) : Prop := ∃ t : Tok, PySem.W.nsIn K mainGlobals x = some (some (.int n t))
theorem int_mk {x : Str} {n : Int} {t : Tok} (a : PySem.W.nsIn K mainGlobals x = some (some (.int n t))) : IntE K x n := ⟨t, a⟩
/-- all that the top has written, put together -/
theorem all_mk {P : Program} {w : World} {fa : Addr} (X : K.In h) (G : h.Ns mainGlobals mg) (hfa : mg "law" = some (.ref fa))
    (D0 : DefE K mg "is_integer" sis_integer)
    (D1 : DefE K mg "is_fraction" sis_fraction)
    (D2 : DefE K mg "is_above_zero" sis_above_zero)
    (D3 : DefE K mg "is_name" sis_name)
    (D4 : DefE K mg "is_ranks" sis_ranks)
    (D5 : DefE K mg "claims_below" sclaims_below)
    (D6 : DefE K mg "is_claim" sis_claim)
    (D7 : DefE K mg "is_claim_but_within" sis_claim_but_within)
    (D8 : DefE K mg "is_holding" sis_holding)
    (D9 : DefE K mg "is_firm" sis_firm)
    (D10 : DefE K mg "is_web" sis_web)
    (D11 : DefE K mg "_law_alike" s_law_alike)
    (D12 : DefE K mg "_law_bag" s_law_bag)
    (D13 : DefE K mg "_law_take" s_law_take)
    (D14 : DefE K mg "_law_mixed" s_law_mixed)
    (D15 : DefE K mg "_law_some" s_law_some)
    (D16 : DefE K mg "_law_common" s_law_common)
    (D17 : DefE K mg "_law_reduced" s_law_reduced)
    (D18 : DefE K mg "_law_number" s_law_number)
    (D19 : DefE K mg "_law_claim" s_law_claim)
    (D20 : DefE K mg "_law_options" s_law_options)
    (D21 : DefE K mg "_law_firm_options" s_law_firm_options)
    (D22 : DefE K mg "_law_leaves" s_law_leaves)
    (D23 : DefE K mg "_law_within" s_law_within)
    (D24 : DefE K mg "_law_web" s_law_web)
    (D25 : DefE K mg "_law_is_int" s_law_is_int)
    (D26 : DefE K mg "_law_odd" s_law_odd)
    (D27 : DefE K mg "_law_near" s_law_near)
    (D28 : DefE K mg "_law_bent" s_law_bent)
    (D29 : DefE K mg "_law_is_fraction" s_law_is_fraction)
    (D30 : DefE K mg "_law_is_above" s_law_is_above)
    (D31 : DefE K mg "_law_is_claim" s_law_is_claim)
    (D32 : DefE K mg "_law_is_name" s_law_is_name)
    (D33 : DefE K mg "_law_is_holding" s_law_is_holding)
    (D34 : DefE K mg "_law_is_firm" s_law_is_firm)
    (D35 : DefE K mg "_law_is_web" s_law_is_web)
    (D36 : DefE K mg "_law_are_wide_told" s_law_are_wide_told)
    (DL : DefL K mg)
    (GC : GcE K "gcd" "math.gcd")
    (LN : IntE K "LONGEST_NAME" 12)
    (MR : IntE K "MOST_RANKS" 6)
    (Z : BtE K) :
    ∃ fd : FuncData, (∀ (s : Shared) (v : Value), BindsTo s fd ⟨[v], []⟩ [("script", v)]) ∧ ∀ base : Heap, K.In base → base.Ns mainGlobals mg → FnG P w K mg base 60 fa fd ["script"] (spLaw K) := by
  obtain ⟨fL, fdL, FL, mL, bL⟩ := DL
  have e := hfa.symm.trans mL
  cases e
  obtain ⟨f0, fd0, F0, m0, k0⟩ := D0
  have b0 := F0.binds (ps := ["thing"]) fun _ _ _ _ _ _ us hl => match us, hl with | [_], _ => rfl
  obtain ⟨f1, fd1, F1, m1, k1⟩ := D1
  have b1 := F1.binds (ps := ["thing"]) fun _ _ _ _ _ _ us hl => match us, hl with | [_], _ => rfl
  obtain ⟨f2, fd2, F2, m2, k2⟩ := D2
  have b2 := F2.binds (ps := ["thing"]) fun _ _ _ _ _ _ us hl => match us, hl with | [_], _ => rfl
  obtain ⟨f3, fd3, F3, m3, k3⟩ := D3
  have b3 := F3.binds (ps := ["thing"]) fun _ _ _ _ _ _ us hl => match us, hl with | [_], _ => rfl
  obtain ⟨f4, fd4, F4, m4, k4⟩ := D4
  have b4 := F4.binds (ps := ["thing"]) fun _ _ _ _ _ _ us hl => match us, hl with | [_], _ => rfl
  obtain ⟨f5, fd5, F5, m5, k5⟩ := D5
  have b5 := F5.binds (ps := ["claim"]) fun _ _ _ _ _ _ us hl => match us, hl with | [_], _ => rfl
  obtain ⟨f6, fd6, F6, m6, k6⟩ := D6
  have b6 := F6.binds (ps := ["ranks", "thing"]) fun _ _ _ _ _ _ us hl => match us, hl with | [_, _], _ => rfl
  obtain ⟨f7, fd7, F7, m7, k7⟩ := D7
  have b7 := F7.binds (ps := ["ranks", "thing"]) fun _ _ _ _ _ _ us hl => match us, hl with | [_, _], _ => rfl
  obtain ⟨f8, fd8, F8, m8, k8⟩ := D8
  have b8 := F8.binds (ps := ["ranks", "thing"]) fun _ _ _ _ _ _ us hl => match us, hl with | [_, _], _ => rfl
  obtain ⟨f9, fd9, F9, m9, k9⟩ := D9
  have b9 := F9.binds (ps := ["thing"]) fun _ _ _ _ _ _ us hl => match us, hl with | [_], _ => rfl
  obtain ⟨f10, fd10, F10, m10, k10⟩ := D10
  have b10 := F10.binds (ps := ["thing"]) fun _ _ _ _ _ _ us hl => match us, hl with | [_], _ => rfl
  obtain ⟨f11, fd11, F11, m11, k11⟩ := D11
  have b11 := F11.binds (ps := ["found", "due"]) fun _ _ _ _ _ _ us hl => match us, hl with | [_, _], _ => rfl
  obtain ⟨f12, fd12, F12, m12, k12⟩ := D12
  have b12 := F12.binds (ps := ["script"]) fun _ _ _ _ _ _ us hl => match us, hl with | [_], _ => rfl
  obtain ⟨f13, fd13, F13, m13, k13⟩ := D13
  have b13 := F13.binds (ps := ["bag", "many"]) fun _ _ _ _ _ _ us hl => match us, hl with | [_, _], _ => rfl
  obtain ⟨f14, fd14, F14, m14, k14⟩ := D14
  have b14 := F14.binds (ps := ["bag", "things"]) fun _ _ _ _ _ _ us hl => match us, hl with | [_, _], _ => rfl
  obtain ⟨f15, fd15, F15, m15, k15⟩ := D15
  have b15 := F15.binds (ps := ["bag", "things"]) fun _ _ _ _ _ _ us hl => match us, hl with | [_, _], _ => rfl
  obtain ⟨f16, fd16, F16, m16, k16⟩ := D16
  have b16 := F16.binds (ps := ["one", "other"]) fun _ _ _ _ _ _ us hl => match us, hl with | [_, _], _ => rfl
  obtain ⟨f17, fd17, F17, m17, k17⟩ := D17
  have b17 := F17.binds (ps := ["n", "d"]) fun _ _ _ _ _ _ us hl => match us, hl with | [_, _], _ => rfl
  obtain ⟨f18, fd18, F18, m18, k18⟩ := D18
  have b18 := F18.binds (ps := ["bag", "most"]) fun _ _ _ _ _ _ us hl => match us, hl with | [_, _], _ => rfl
  obtain ⟨f19, fd19, F19, m19, k19⟩ := D19
  have b19 := F19.binds (ps := ["bag", "ranks", "deep", "may_due"]) fun _ _ _ _ _ _ us hl => match us, hl with | [_, _, _, _], _ => rfl
  obtain ⟨f20, fd20, F20, m20, k20⟩ := D20
  have b20 := F20.binds (ps := ["bag", "ranks", "may_due"]) fun _ _ _ _ _ _ us hl => match us, hl with | [_, _, _], _ => rfl
  obtain ⟨f21, fd21, F21, m21, k21⟩ := D21
  have b21 := F21.binds (ps := ["bag", "ranks", "may_due"]) fun _ _ _ _ _ _ us hl => match us, hl with | [_, _, _], _ => rfl
  obtain ⟨f22, fd22, F22, m22, k22⟩ := D22
  have b22 := F22.binds (ps := ["claim"]) fun _ _ _ _ _ _ us hl => match us, hl with | [_], _ => rfl
  obtain ⟨f23, fd23, F23, m23, k23⟩ := D23
  have b23 := F23.binds (ps := ["options", "left"]) fun _ _ _ _ _ _ us hl => match us, hl with | [_, _], _ => rfl
  obtain ⟨f24, fd24, F24, m24, k24⟩ := D24
  have b24 := F24.binds (ps := ["bag", "firms", "more"]) fun _ _ _ _ _ _ us hl => match us, hl with | [_, _, _], _ => rfl
  obtain ⟨f25, fd25, F25, m25, k25⟩ := D25
  have b25 := F25.binds (ps := ["thing"]) fun _ _ _ _ _ _ us hl => match us, hl with | [_], _ => rfl
  obtain ⟨f26, fd26, F26, m26, k26⟩ := D26
  have b26 := F26.binds (ps := ["bag"]) fun _ _ _ _ _ _ us hl => match us, hl with | [_], _ => rfl
  obtain ⟨f27, fd27, F27, m27, k27⟩ := D27
  have b27 := F27.binds (ps := ["bag", "thing"]) fun _ _ _ _ _ _ us hl => match us, hl with | [_, _], _ => rfl
  obtain ⟨f28, fd28, F28, m28, k28⟩ := D28
  have b28 := F28.binds (ps := ["bag", "thing", "deep"]) fun _ _ _ _ _ _ us hl => match us, hl with | [_, _, _], _ => rfl
  obtain ⟨f29, fd29, F29, m29, k29⟩ := D29
  have b29 := F29.binds (ps := ["thing"]) fun _ _ _ _ _ _ us hl => match us, hl with | [_], _ => rfl
  obtain ⟨f30, fd30, F30, m30, k30⟩ := D30
  have b30 := F30.binds (ps := ["thing"]) fun _ _ _ _ _ _ us hl => match us, hl with | [_], _ => rfl
  obtain ⟨f31, fd31, F31, m31, k31⟩ := D31
  have b31 := F31.binds (ps := ["ranks", "thing"]) fun _ _ _ _ _ _ us hl => match us, hl with | [_, _], _ => rfl
  obtain ⟨f32, fd32, F32, m32, k32⟩ := D32
  have b32 := F32.binds (ps := ["thing"]) fun _ _ _ _ _ _ us hl => match us, hl with | [_], _ => rfl
  obtain ⟨f33, fd33, F33, m33, k33⟩ := D33
  have b33 := F33.binds (ps := ["ranks", "thing"]) fun _ _ _ _ _ _ us hl => match us, hl with | [_, _], _ => rfl
  obtain ⟨f34, fd34, F34, m34, k34⟩ := D34
  have b34 := F34.binds (ps := ["thing"]) fun _ _ _ _ _ _ us hl => match us, hl with | [_], _ => rfl
  obtain ⟨f35, fd35, F35, m35, k35⟩ := D35
  have b35 := F35.binds (ps := ["thing"]) fun _ _ _ _ _ _ us hl => match us, hl with | [_], _ => rfl
  obtain ⟨f36, fd36, F36, m36, k36⟩ := D36
  have b36 := F36.binds (ps := []) fun _ _ _ _ _ _ us hl => match us, hl with | [], _ => rfl
  have B : Bt mg := ⟨Z.get X G (by decide +kernel), Z.get X G (by decide +kernel), Z.get X G (by decide +kernel), Z.get X G (by decide +kernel), Z.get X G (by decide +kernel), Z.get X G (by decide +kernel), Z.get X G (by decide +kernel), Z.get X G (by decide +kernel), Z.get X G (by decide +kernel), Z.get X G (by decide +kernel), Z.get X G (by decide +kernel), Z.get X G (by decide +kernel), Z.get X G (by decide +kernel), Z.get X G (by decide +kernel), Z.get X G (by decide +kernel)⟩
  have T_all : mg "all" = none := Z.get X G (by decide +kernel)
  have T_sum : mg "sum" = none := Z.get X G (by decide +kernel)
  have T_sorted : mg "sorted" = none := Z.get X G (by decide +kernel)
  have T_set : mg "set" = none := Z.get X G (by decide +kernel)
  have T : Tx mg := ⟨PySem.W.mg_of X G GC, intE_u X G LN⟩
  have T2 : Tx2 mg := ⟨intE_u X G MR⟩
  refine ⟨fdL, bL, fun base hKb _ => ?_⟩
  have C_is_integer : CalG P w K mg base 1 "is_integer" (spP K isInt) := ⟨f0, fd0, _, ok_is_integer F0 B, m0, k0, b0⟩
  have C_is_fraction : CalG P w K mg base 2 "is_fraction" (spP K isFrac) := ⟨f1, fd1, _, ok_is_fraction F1 B T C_is_integer, m1, k1, b1⟩
  have C_is_above_zero : CalG P w K mg base 3 "is_above_zero" (spP K isAb) := ⟨f2, fd2, _, ok_is_above_zero F2 B C_is_fraction, m2, k2, b2⟩
  have C_is_name : CalG P w K mg base 1 "is_name" (spP K isNm) := ⟨f3, fd3, _, ok_is_name F3 B T, m3, k3, b3⟩
  have C_is_ranks : CalG P w K mg base 2 "is_ranks" (spP K (isIn 0 6)) := ⟨f4, fd4, _, ok_is_ranks F4 B T2 C_is_integer, m4, k4, b4⟩
  have C_claims_below : CalG P w K mg base 1 "claims_below" (spBelow K) := ⟨f5, fd5, _, ok_claims_below F5 B, m5, k5, b5⟩
  have C_is_claim_but_within : CalG P w K mg base 4 "is_claim_but_within" (spLoc K) := ⟨f7, fd7, _, ok_is_claim_but_within F7 B C_is_integer C_is_above_zero, m7, k7, b7⟩
  have C__law_alike : CalG P w K mg base 1 "_law_alike" (spAlike K) := ⟨f11, fd11, _, ok__law_alike F11 B, m11, k11, b11⟩
  have C__law_bag : CalG P w K mg base 1 "_law_bag" (spBag K) := ⟨f12, fd12, _, ok__law_bag F12 B, m12, k12, b12⟩
  have C__law_take : CalG P w K mg base 1 "_law_take" (spTake) := ⟨f13, fd13, _, ok__law_take F13 B, m13, k13, b13⟩
  have C__law_mixed : CalG P w K mg base 2 "_law_mixed" (spMixed) := ⟨f14, fd14, _, ok__law_mixed F14 B C__law_take, m14, k14, b14⟩
  have C__law_some : CalG P w K mg base 2 "_law_some" (spSome) := ⟨f15, fd15, _, ok__law_some F15 B C__law_take, m15, k15, b15⟩
  have C__law_common : CalG P w K mg base 1 "_law_common" (spCommon) := ⟨f16, fd16, _, ok__law_common F16 B, m16, k16, b16⟩
  have C__law_reduced : CalG P w K mg base 2 "_law_reduced" (spRed) := ⟨f17, fd17, _, ok__law_reduced F17 B C__law_common, m17, k17, b17⟩
  have C__law_number : CalG P w K mg base 3 "_law_number" (spNumE K) := ⟨f18, fd18, _, ok__law_number F18 B C__law_take C__law_some C__law_reduced, m18, k18, b18⟩
  have C__law_claim : CalG P w K mg base 7 "_law_claim" (spClaimA K) := ⟨f19, fd19, _, claim_any (fun n hn => (claim_chain F19 B C__law_take C__law_number (fun j sp h => ⟨f19, fd19, _, h, m19, k19, b19⟩) n).mono (by omega)), m19, k19, b19⟩
  have C__law_options : CalG P w K mg base 8 "_law_options" (spOptions K) := ⟨f20, fd20, _, ok__law_options F20 B C__law_take C__law_some C__law_claim, m20, k20, b20⟩
  have C__law_firm_options : CalG P w K mg base 8 "_law_firm_options" (spOptions K) := ⟨f21, fd21, _, ok__law_firm_options F21 B C__law_take C__law_claim, m21, k21, b21⟩
  have C__law_leaves : CalG P w K mg base 20 "_law_leaves" (spLeaves K 10) := ⟨f22, fd22, _, (leaves_chain F22 B T_sum (fun j sp h => ⟨f22, fd22, _, h, m22, k22, b22⟩) 10).mono (by decide), m22, k22, b22⟩
  have C__law_within : CalG P w K mg base 21 "_law_within" (spWithin K) := ⟨f23, fd23, _, ok__law_within F23 B C__law_leaves, m23, k23, b23⟩
  have C__law_web : CalG P w K mg base 22 "_law_web" (spWeb K) := ⟨f24, fd24, _, ok__law_web F24 B T_sum T_sorted C__law_take C__law_some C__law_mixed C__law_number C__law_options C__law_firm_options C__law_leaves C__law_within, m24, k24, b24⟩
  have C__law_is_int : CalG P w K mg base 1 "_law_is_int" (spP K isInt) := ⟨f25, fd25, _, ok__law_is_int F25 B, m25, k25, b25⟩
  have C__law_odd : CalG P w K mg base 3 "_law_odd" (spOdd K) := ⟨f26, fd26, _, ok__law_odd F26 B C__law_some, m26, k26, b26⟩
  have C__law_near : CalG P w K mg base 4 "_law_near" (spNear K) := ⟨f27, fd27, _, ok__law_near F27 B C__law_some C__law_is_int C__law_odd, m27, k27, b27⟩
  have C__law_bent : CalG P w K mg base 10 "_law_bent" (spBentA K) := ⟨f28, fd28, _, bent_any (bent_chain F28 B C__law_take C__law_some C__law_near (fun j sp h => ⟨f28, fd28, _, h, m28, k28, b28⟩)), m28, k28, b28⟩
  have C__law_is_fraction : CalG P w K mg base 2 "_law_is_fraction" (spP K isFrac) := ⟨f29, fd29, _, ok__law_is_fraction F29 B C__law_is_int C__law_common, m29, k29, b29⟩
  have C__law_is_above : CalG P w K mg base 3 "_law_is_above" (spP K isAb) := ⟨f30, fd30, _, ok__law_is_above F30 B C__law_is_fraction, m30, k30, b30⟩
  have C__law_is_claim : CalG P w K mg base 54 "_law_is_claim" (spClmL K 50) := isclaim_chain F31 B C__law_is_int C__law_is_above (fun j sp h => ⟨f31, fd31, _, h, m31, k31, b31⟩) 50
  have C__law_is_name : CalG P w K mg base 1 "_law_is_name" (spP K isNm) := ⟨f32, fd32, _, ok__law_is_name F32 B, m32, k32, b32⟩
  have C__law_is_holding : CalG P w K mg base 55 "_law_is_holding" (spHold K) := ⟨f33, fd33, _, ok__law_is_holding F33 B C__law_is_name C__law_is_claim, m33, k33, b33⟩
  have C__law_is_firm : CalG P w K mg base 56 "_law_is_firm" (spP K firmD) := ⟨f34, fd34, _, ok__law_is_firm F34 B C__law_is_name C__law_is_int C__law_is_holding, m34, k34, b34⟩
  have C__law_is_web : CalG P w K mg base 57 "_law_is_web" (spWebL K) := ⟨f35, fd35, _, ok__law_is_web F35 B T_sorted T_set C__law_is_firm, m35, k35, b35⟩
  have C_is_claim : CalG P w K mg base 5 "is_claim" (spClm K) := ⟨f6, fd6, _, ok_is_claim F6 B C_is_claim_but_within C_claims_below, m6, k6, b6⟩
  have C_is_holding : CalG P w K mg base 6 "is_holding" (spHold K) := ⟨f8, fd8, _, ok_is_holding F8 B T_all C_is_name C_is_claim, m8, k8, b8⟩
  have C_is_firm : CalG P w K mg base 7 "is_firm" (spP K firmD) := ⟨f9, fd9, _, ok_is_firm F9 B T_all C_is_name C_is_ranks C_is_holding, m9, k9, b9⟩
  have C_is_web : CalG P w K mg base 8 "is_web" (spP K webD) := ⟨f10, fd10, _, ok_is_web F10 B T_all C_is_firm, m10, k10, b10⟩
  have C__law_are_wide_told : CalG P w K mg base 9 "_law_are_wide_told" (spTold) := ⟨f36, fd36, _, ok__law_are_wide_told F36 B C__law_alike C_is_claim C_is_holding C_is_firm C_is_web, m36, k36, b36⟩
  exact ok_law FL B ⟨C__law_bag, C__law_some, C__law_alike, C__law_claim, C__law_web, C__law_odd, C__law_bent, C__law_is_claim, C__law_is_holding, C__law_is_firm, C__law_is_web, C_is_claim, C_is_holding, C_is_firm, C_is_web, C__law_are_wide_told⟩
end
end K02
open PySem PySem.W PyProof.Rows
set_option maxRecDepth 100000 in
set_option maxHeartbeats 0 in
theorem PySem.Challenge.cw_soldwhole_k02_claims_and_webs_of_any_val_holds : PySem.Challenge.rw_soldwhole_k02_claims_and_webs_of_any_val.Holds := by
  w_on; o_law; k_head; (case hw => w_witness2)
  k_fill
  refine Sw.walkG (l := PySem.Challenge.rw_soldwhole_k02_claims_and_webs_of_any_val) (n := 63) (k := 60) (x := "script") (sp := fun w => K02.spLaw _) rfl (by decide) rfl ⟨rfl, by decide, by decide⟩ (fun w h Y => PySem.W.kIn_of Y) ?F (fun _ _ a ns hl _ _ hS => ⟨a, ns, rfl, hS, hl, fun _ => rfl⟩)
  case F =>
    intro w mg fa h KX G hmg
    refine' K02.all_mk KX G hmg ?D0 ?D1 ?D2 ?D3 ?D4 ?D5 ?D6 ?D7 ?D8 ?D9 ?D10 ?D11 ?D12 ?D13 ?D14 ?D15 ?D16 ?D17 ?D18 ?D19 ?D20 ?D21 ?D22 ?D23 ?D24 ?D25 ?D26 ?D27 ?D28 ?D29 ?D30 ?D31 ?D32 ?D33 ?D34 ?D35 ?D36 ?DL ?GC ?LN ?MR ?Z
    (case D0 => (refine' K02.def_mk KX G ?a ?l ?c ?k; (case a => k_is); (case l => k_is); (case c => k_is); (case k => k_is)))
    (case D1 => (refine' K02.def_mk KX G ?a ?l ?c ?k; (case a => k_is); (case l => k_is); (case c => k_is); (case k => k_is)))
    (case D2 => (refine' K02.def_mk KX G ?a ?l ?c ?k; (case a => k_is); (case l => k_is); (case c => k_is); (case k => k_is)))
    (case D3 => (refine' K02.def_mk KX G ?a ?l ?c ?k; (case a => k_is); (case l => k_is); (case c => k_is); (case k => k_is)))
    (case D4 => (refine' K02.def_mk KX G ?a ?l ?c ?k; (case a => k_is); (case l => k_is); (case c => k_is); (case k => k_is)))
    (case D5 => (refine' K02.def_mk KX G ?a ?l ?c ?k; (case a => k_is); (case l => k_is); (case c => k_is); (case k => k_is)))
    (case D6 => (refine' K02.def_mk KX G ?a ?l ?c ?k; (case a => k_is); (case l => k_is); (case c => k_is); (case k => k_is)))
    (case D7 => (refine' K02.def_mk KX G ?a ?l ?c ?k; (case a => k_is); (case l => k_is); (case c => k_is); (case k => k_is)))
    (case D8 => (refine' K02.def_mk KX G ?a ?l ?c ?k; (case a => k_is); (case l => k_is); (case c => k_is); (case k => k_is)))
    (case D9 => (refine' K02.def_mk KX G ?a ?l ?c ?k; (case a => k_is); (case l => k_is); (case c => k_is); (case k => k_is)))
    (case D10 => (refine' K02.def_mk KX G ?a ?l ?c ?k; (case a => k_is); (case l => k_is); (case c => k_is); (case k => k_is)))
    (case D11 => (refine' K02.def_mk KX G ?a ?l ?c ?k; (case a => k_is); (case l => k_is); (case c => k_is); (case k => k_is)))
    (case D12 => (refine' K02.def_mk KX G ?a ?l ?c ?k; (case a => k_is); (case l => k_is); (case c => k_is); (case k => k_is)))
    (case D13 => (refine' K02.def_mk KX G ?a ?l ?c ?k; (case a => k_is); (case l => k_is); (case c => k_is); (case k => k_is)))
    (case D14 => (refine' K02.def_mk KX G ?a ?l ?c ?k; (case a => k_is); (case l => k_is); (case c => k_is); (case k => k_is)))
    (case D15 => (refine' K02.def_mk KX G ?a ?l ?c ?k; (case a => k_is); (case l => k_is); (case c => k_is); (case k => k_is)))
    (case D16 => (refine' K02.def_mk KX G ?a ?l ?c ?k; (case a => k_is); (case l => k_is); (case c => k_is); (case k => k_is)))
    (case D17 => (refine' K02.def_mk KX G ?a ?l ?c ?k; (case a => k_is); (case l => k_is); (case c => k_is); (case k => k_is)))
    (case D18 => (refine' K02.def_mk KX G ?a ?l ?c ?k; (case a => k_is); (case l => k_is); (case c => k_is); (case k => k_is)))
    (case D19 => (refine' K02.def_mk KX G ?a ?l ?c ?k; (case a => k_is); (case l => k_is); (case c => k_is); (case k => k_is)))
    (case D20 => (refine' K02.def_mk KX G ?a ?l ?c ?k; (case a => k_is); (case l => k_is); (case c => k_is); (case k => k_is)))
    (case D21 => (refine' K02.def_mk KX G ?a ?l ?c ?k; (case a => k_is); (case l => k_is); (case c => k_is); (case k => k_is)))
    (case D22 => (refine' K02.def_mk KX G ?a ?l ?c ?k; (case a => k_is); (case l => k_is); (case c => k_is); (case k => k_is)))
    (case D23 => (refine' K02.def_mk KX G ?a ?l ?c ?k; (case a => k_is); (case l => k_is); (case c => k_is); (case k => k_is)))
    (case D24 => (refine' K02.def_mk KX G ?a ?l ?c ?k; (case a => k_is); (case l => k_is); (case c => k_is); (case k => k_is)))
    (case D25 => (refine' K02.def_mk KX G ?a ?l ?c ?k; (case a => k_is); (case l => k_is); (case c => k_is); (case k => k_is)))
    (case D26 => (refine' K02.def_mk KX G ?a ?l ?c ?k; (case a => k_is); (case l => k_is); (case c => k_is); (case k => k_is)))
    (case D27 => (refine' K02.def_mk KX G ?a ?l ?c ?k; (case a => k_is); (case l => k_is); (case c => k_is); (case k => k_is)))
    (case D28 => (refine' K02.def_mk KX G ?a ?l ?c ?k; (case a => k_is); (case l => k_is); (case c => k_is); (case k => k_is)))
    (case D29 => (refine' K02.def_mk KX G ?a ?l ?c ?k; (case a => k_is); (case l => k_is); (case c => k_is); (case k => k_is)))
    (case D30 => (refine' K02.def_mk KX G ?a ?l ?c ?k; (case a => k_is); (case l => k_is); (case c => k_is); (case k => k_is)))
    (case D31 => (refine' K02.def_mk KX G ?a ?l ?c ?k; (case a => k_is); (case l => k_is); (case c => k_is); (case k => k_is)))
    (case D32 => (refine' K02.def_mk KX G ?a ?l ?c ?k; (case a => k_is); (case l => k_is); (case c => k_is); (case k => k_is)))
    (case D33 => (refine' K02.def_mk KX G ?a ?l ?c ?k; (case a => k_is); (case l => k_is); (case c => k_is); (case k => k_is)))
    (case D34 => (refine' K02.def_mk KX G ?a ?l ?c ?k; (case a => k_is); (case l => k_is); (case c => k_is); (case k => k_is)))
    (case D35 => (refine' K02.def_mk KX G ?a ?l ?c ?k; (case a => k_is); (case l => k_is); (case c => k_is); (case k => k_is)))
    (case D36 => (refine' K02.def_mk KX G ?a ?l ?c ?k; (case a => k_is); (case l => k_is); (case c => k_is); (case k => k_is)))
    (case DL => (refine' K02.law_mk KX G ?a ?l ?c ?k; (case a => k_is); (case l => k_is); (case c => k_is); (case k => k_is)))
    (case GC => (refine' K02.gc_mk ?a; (case a => k_is)))
    (case LN => (refine' K02.int_mk ?a; (case a => k_is)))
    (case MR => (refine' K02.int_mk ?a; (case a => k_is)))
    (case Z => (refine' K02.bte_mk ?z0 ?z1 ?z2 ?z3 ?z4 ?z5 ?z6 ?z7 ?z8 ?z9 ?z10 ?z11 ?z12 ?z13 ?z14 ?z15 ?z16 ?z17 ?z18; (case z0 => k_is); (case z1 => k_is); (case z2 => k_is); (case z3 => k_is); (case z4 => k_is); (case z5 => k_is); (case z6 => k_is); (case z7 => k_is); (case z8 => k_is); (case z9 => k_is); (case z10 => k_is); (case z11 => k_is); (case z12 => k_is); (case z13 => k_is); (case z14 => k_is); (case z15 => k_is); (case z16 => k_is); (case z17 => k_is); (case z18 => k_is)))
