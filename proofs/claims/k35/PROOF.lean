import PyProof.Rows.All
import Wide.All
import OpenK.AllK
import Wide.FinOn
import HandS.ForMost
import HandS.IsInst
import HandS.Gcd
import HandS.Wide
import HandS.WideBits
import HandS.Flow
import HandS.TupAny
import HandS.StrMore
import HandS.Conv
import HandS.RaiseMore
import HandS.ExcInit
import HandS.ExcIs
import HandS.ExcField
import HandS.ExcValue
import HandS.EndBits
import HandS.DeepEq
import HandS.Walk
import HandS.Codes
import KE.KExcIs
import HandS.Rev
import HandS.MapJoin
import HandS.Text
import PyProof.Rows.StrAscii
import PyProof.Rows.StrDigitsNeg
import PyProof.StrLawsAffix
import KE.IntTextLaws
import HandS.ReplaceLit
import HandS.Zip
import HandS.Star
import KE.GoesMore
import PyProof.EqKinds
import PyProof.FactsAll.dict
import KE.GoesZip
import HandS.Style
import PySem.Challenge.RW_soldwhole_k35_linear_rows
import HandS.RevRange
set_option Elab.async false
set_option linter.all false
set_option maxRecDepth 100000
set_option maxHeartbeats 8000000
/-! The guarded layer: a def's promise where no repr is under way (guards = []), so that repr of data may be asked. -/
namespace Sw
open PySem PySem.Spec PyProof.Rows L2

/-- no repr is under way -/
def Gd (A : Around) : Prop := A.guards = some []
theorem Gd.deeper {A : Around} (g : Gd A) (env : Env) : Gd (A.deeper env) := by
  unfold Gd at *
  first
    | exact g
    | (simp [Around.deeper, g])
theorem Gd.make {A : Around} (g : Gd A) (C : Addr) (us : List Value) (kw : List (Str × Value)) : Gd (A.under (.builtin "type.__call__" ⟨.ref C :: us, kw⟩)) := by
  unfold Gd at *
  first
    | exact g
    | (simp [Around.under, Code.guards, Code.isGuard, guardIds, pushGuards, g])
theorem gd_caller : Gd callerA := rfl

/-- the def at f keeps the promise sp, where no repr is under way -/
structure FnG (P : Program) (w : World) (K : PySem.W.Frag) (mg : Str → Option Value) (base : Heap) (k : Nat) (f : Addr) (fd : FuncData) (ps : List Str) (sp : Sp) : Prop where
  len : ∀ vs H Q E, sp vs H Q E → vs.length = ps.length
  go : ∀ {A : Around} {outer : List Env} {s : Shared} {H : Hp} {args : Args} {us : List Value} {vs : List V} {Q : VK} {E : XK},
    Gd A → Room k A → Env0 P w K mg base A outer s H → BindsTo s fd args (ps.zip us) → Vals vs us → sp vs H Q E →
    codeAny (model P w) A (.call (.ref f) args) (CR CX0 outer P w H s Q E) s
section
variable {P : Program} {w : World} {K : PySem.W.Frag} {mg : Str → Option Value} {base : Heap}
theorem FnG.of {k : Nat} {f : Addr} {fd : FuncData} {ps : List Str} {sp : Sp} (F : FnOk P w K mg base CX0 k f fd ps sp) : FnG P w K mg base k f fd ps sp :=
  ⟨F.len, fun _ hr e0 hb hv hs => F.run _ _ _ _ _ _ _ _ _ hr e0 hb hv hs⟩
theorem FnG.mono {j k : Nat} {f : Addr} {fd : FuncData} {ps : List Str} {sp : Sp} (F : FnG P w K mg base j f fd ps sp) (h : j ≤ k) : FnG P w K mg base k f fd ps sp :=
  ⟨F.len, fun g hr => F.go g (hr.mono h)⟩
end
section
variable {X : Cx} {k : Nat} {f : Addr} {fd : FuncData} {ps : List Str} {sp : Sp} {ds : List Value} {dvs : List V} {x : Str} {e : Expr} {es : List Expr} {t : TA} {p pos : Pos}
theorem runG {pins : List (Addr × Obj)} {σ : L2.St} {H : Hp} {s : Shared} {Q : VK} {us : List Value} {vs : List V} (F : FnG X.prog X.w X.K X.mg X.base k f fd ps sp) (g : Gd X.A) (hr : Room k X.A)
    (hb : Binds X.K fd ps ds) (hd : Vals dvs ds) (I : Inv X pins σ H s) (r : Vals vs us) (h : sp (vs ++ dvs) H Q E0) : wpAny (model X.prog X.w) X.A (call (.ref f) us) (EP X pins σ Q) X.xe s := by
  have rr : Vals (vs ++ dvs) (us ++ ds) := r.append hd
  have hz : (us ++ ds).length = ps.length := rr.length.symm.trans (F.len _ _ _ _ h)
  refine wpAny_call (codeAny_mono (F.go g hr I.env0 (hb s us I.kIn hz) rr h) fun res s' z => ?_)
  match res, z with
  | .ok (.ret u), z => exact I.after z
/-- f(e, ..), f a def of the text -/
theorem peG (F : FnG X.prog X.w X.K X.mg X.base k f fd ps sp) (g : Gd X.A) (hr : Room k X.A) (hg : Gl X x) (hm : X.mg x = some (.ref f)) (hk : PySem.W.keepIn X.K (.ref f) = true) (hb : Binds X.K fd ps ds) (hd : Vals dvs ds) (ha : PA X (e :: es) t)
    (hdb : (x == ("__debug__" : Str)) = false := by decide) (he : starEach (e :: es) X.env = (false, eval e X.env) :: starEach es X.env := by rfl) (hpl : (backTo pos (starEach es X.env)).any (·.1) = false := by rfl) :
    PE X (.Call (.Name x p) (e :: es) [] pos) (tCall sp dvs E0 t) :=
  ⟨fun pins s σ H Q I h => wpAny_Call_Name_kw (ld_glob I hg hm (PySem.W.callWith_K (h₀ := X.base) I.ok.mod.kin hk
    (thn (ha.run pos pins s σ H _ I h) fun us s1 z => by obtain ⟨vs, H1, I1, r, q⟩ := z; exact ⟨I1.kIn, runG F g hr hb hd I1 r q⟩) he hpl) hdb)⟩
theorem peG0 (F : FnG X.prog X.w X.K X.mg X.base k f fd ps sp) (g : Gd X.A) (hr : Room k X.A) (hg : Gl X x) (hm : X.mg x = some (.ref f)) (hk : PySem.W.keepIn X.K (.ref f) = true) (hb : Binds X.K fd ps ds) (hd : Vals dvs ds)
    (hdb : (x == ("__debug__" : Str)) = false := by decide) : PE X (.Call (.Name x p) [] [] pos) (tCall sp dvs E0 tNil) :=
  ⟨fun pins s σ H Q I h => wpAny_Call_Name_kw (ld_glob I hg hm (PySem.W.callWith_K0 I.kIn hk (runG (us := []) F g hr hb hd I .nil h)) hdb)⟩
end
section
variable {P : Program} {w : World} {K : PySem.W.Frag} {mg : Str → Option Value} {base : Heap}
/-- a def by its body, where no repr is under way -/
theorem Fun.okG {x qual : Str} {st : Stmt} {f : Addr} {fd : FuncData} {N ps : List Str} {k : Nat} {sp : Sp} (F : Fun K x qual st f fd) (S : FnScope N ps (defScope st)) (len : ∀ vs H Q E, sp vs H Q E → vs.length = ps.length)
    (hbody : ∀ (cdv : Value) (A : Around) (outer : List Env) (s : Shared) (H : Hp) (vs : List V) (Q : VK) (E : XK), Gd (A.deeper (envOfC qual (defScope st) s.heap.objs.size f cdv)) → Room k (A.deeper (envOfC qual (defScope st) s.heap.objs.size f cdv)) → sp vs H Q E →
      ∃ t, PSs (cxOf CX0 P w K mg base N qual (defScope st) f cdv A outer s H E).nox (defBody st) t ∧ t { nx := fun _ H' => Q .non H', rt := Q } (start N vs) H) : FnG P w K mg base (k + 1) f fd ps sp := by
  obtain ⟨oc, od, kV, doc, pm, an, cdv, ct, osl, rfl, lk, hcd⟩ := F.ex
  refine ⟨len, ?_⟩
  intro A outer s H args us vs Q E g hr e0 hb r hs
  have hz := len _ _ _ _ hs
  have up : ∀ b o, base.get? b = some o → s.heap.get? b = some o := fun b o z => (e0.bs b o z).1
  refine codeAny_call_function hr.depth ((e0.mod.kin.keeps up) _ _ lk) rfl S.co S.gen rfl (PySem.W.codeRec_of (e0.mod.kin.keeps up) hcd) (hb _ _ _ _ (wpAny_newFunctionEnv_cells S.kind (fun y hy => ?_) fun env he s1 x1 => ?_))
  · rcases S.par y.1 (List.of_mem_zip (show (y.1, y.2) ∈ ps.zip us from hy)).1 with q | q
    · exact .inl q
    · exact .inr ⟨q, PySem.W.cellsFrom_some _ _ _ (.inl q)⟩
  · subst he
    obtain ⟨t, ht, hq⟩ := hbody cdv A outer s H vs Q E (g.deeper _) (hr.deeper _) hs
    refine ⟨(e0.mod.nolimit.keeps up).keeps x1.toInCall.keep, codeAny_func (wpAny_mono (ht.nox.run [] s1 (start N vs) H _ (inv_start S hr.hd e0 hz r x1) hq) ?_ fun _ _ z => z)⟩
    intro fl s' z
    match fl, z with
    | .ret u, ⟨v, σ', H', J, rv, q⟩ => exact ⟨v, H', J.os, J.bare, J.base, J.hok, rv, q⟩
    | .next, ⟨σ', H', J, q⟩ => exact ⟨.non, H', J.os, J.bare, J.base, J.hok, rfl, q⟩
    | .brk, ⟨_, _, _, q⟩ => exact q.elim
    | .cont, ⟨_, _, _, q⟩ => exact q.elim
end
/-! ### the law's own call -/
section
variable {P : Program} {w : World} {K : PySem.W.Frag} {mg mb : Str → Option Value} {k : Nat} {fa a : Addr} {fd : FuncData} {x : Str} {sp : Sp} {s₁ : Shared} {vs : List Value} {ns : List Int}
/-- the abstract heap in which the script alone is known -/
def scr (a : Addr) (ob : Obj) (ns : List Int) : Hp := fun b => if b = a then some (.frz ob (.lst (ns.map V.int))) else none
theorem scr_at {ob : Obj} : scr a ob ns a = some (.frz ob (.lst (ns.map V.int))) := if_pos rfl
theorem scr_ne {ob : Obj} {b : Addr} (h : b ≠ a) : scr a ob ns b = none := if_neg h
theorem lawFrom (H : Hp) (hO : Only H) (KX : K.In s₁.heap) (hns : s₁.heap.Ns mainGlobals mg) (hb : s₁.heap.Ns builtinsNs mb) (hbb : ∀ y : Str, y ≠ "__name__" → mb y = bootBuiltins y) (hlim : s₁.heap.NoLimit) (hg : s₁.gens = #[])
    (ok : HOk P w H s₁.heap) (nk : ∀ b o, K.lookup b = some o → H b = none) (nd : ∀ b o es ep, s₁.heap.get? b = some o → o.data = .dict es ep → H b = none) (hr : Room k callerA)
    (F : ∀ base : Heap, K.In base → base.Ns mainGlobals mg → FnG P w K mg base k fa fd [x] sp) (hbind : ∀ (s : Shared) (u : Value), BindsTo s fd ⟨[u], []⟩ [(x, u)])
    (hs : sp [.ref a] H (fun v _ => v = .bl true) fun _ _ _ => False) :
    codeAny (model P w) callerA (.call (.ref fa) ⟨[.ref a], []⟩) (fun r s' => r = .ok (.ret (.bool true)) ∧ OldK s₁.heap s'.heap ∧ s'.os = s₁.os ∧ AllBare s'.gens) s₁ := by
  have kIn : K.In (hidT s₁.heap H) := fun b o z => hidT_get (KX b o z) (nk b o z)
  have nsIn : ∀ {b : Addr} {m : Str → Option Value}, s₁.heap.Ns b m → (hidT s₁.heap H).Ns b m := fun {b m} z => by
    obtain ⟨o, es, ep, z1, z2, z3⟩ := z
    exact ⟨o, es, ep, hidT_get z1 (nd b o es ep z1 z2), z2, z3⟩
  have lim : (hidT s₁.heap H).NoLimit := by
    obtain ⟨mc, z1, z2⟩ := hlim
    exact ⟨mc, nsIn z1, z2⟩
  have e0 : Env0 P w K mg (hidT s₁.heap H) callerA [] s₁ H :=
    { frames := rfl, mod := ⟨kIn, nsIn hns, ⟨mb, nsIn hb, hbb⟩, lim⟩, bs := fun _ _ z => of_hidT z, bsz := Nat.le_of_eq (hidT_size _ _), funs := trivial, frf := (fun b z => nomatch z), hok := ok, bare := .of_eq hg }
  refine codeAny_mono ((F _ kIn (nsIn hns)).go (us := [.ref a]) (vs := [.ref a]) gd_caller hr e0 (hbind s₁ (.ref a)) (.cons rfl .nil) hs) fun r s' z => ?_
  match r, z with
  | .ok (.ret u), z =>
    obtain ⟨v, H', zo, zb, un, ok', rv, q⟩ := z
    have q : v = .bl true := q
    subst q
    have eu : u = Value.bool true := rv
    subst eu
    refine ⟨rfl, .of_keep fun b o e => ?_, zo, zb⟩
    rcases hO b with n | ⟨ob, xs, n⟩
    · exact un.keep b o e n (fun z => nomatch z) (fun z => nomatch z)
    · have e1 := (ok b _ n).1
      have e2 := (ok' b _ (un.frzs b ob _ n)).1
      have e3 : o = ob := Option.some.inj (e.symm.trans e1)
      rw [e3]
      exact e2
theorem lawG (KX : K.In s₁.heap) (hns : s₁.heap.Ns mainGlobals mg) (hb : s₁.heap.Ns builtinsNs mb) (hbb : ∀ y : Str, y ≠ "__name__" → mb y = bootBuiltins y) (hlim : s₁.heap.NoLimit) (hg : s₁.gens = #[])
    (ha : s₁.heap.get? a = some { cls := .type "list", data := .seq vs.toArray }) (hi : IntsAre vs ns) (hl : ns.length ≤ sizeLine) (hr : Room k callerA)
    (F : ∀ base : Heap, K.In base → base.Ns mainGlobals mg → FnG P w K mg base k fa fd [x] sp) (hbind : ∀ (s : Shared) (u : Value), BindsTo s fd ⟨[u], []⟩ [(x, u)])
    (hsp : ∀ H : Hp, Only H → SqL K H a (ns.map V.int) → sp [.ref a] H (fun v _ => v = .bl true) fun _ _ _ => False) :
    codeAny (model P w) callerA (.call (.ref fa) ⟨[.ref a], []⟩) (fun r s' => r = .ok (.ret (.bool true)) ∧ OldK s₁.heap s'.heap ∧ s'.os = s₁.os ∧ AllBare s'.gens) s₁ := by
  have rv := vals_ints hi
  have hln := hi.length
  rcases hk : K.lookup a with _ | o
  · refine lawFrom (scr a { cls := .type "list", data := .seq vs.toArray } ns) ?_ KX hns hb hbb hlim hg ?_ ?_ ?_ hr F hbind (hsp _ ?_ (.inl (.inr ⟨_, scr_at⟩)))
    rotate_left
    · intro b u z
      by_cases e : b = a
      · rw [e, scr_at] at z
        cases z
        rw [e]
        exact ⟨ha, by rw [List.length_map]; exact hl, vs, _, rv, ha⟩
      · rw [scr_ne e] at z
        cases z
    · intro b o z
      refine scr_ne fun e => ?_
      rw [e, hk] at z
      cases z
    · intro b o es ep z1 z2
      refine scr_ne fun e => ?_
      rw [e, ha] at z1
      cases z1
      cases z2
    all_goals
      intro b
      by_cases e : b = a
      · exact .inr ⟨_, _, by rw [e]; exact scr_at⟩
      · exact .inl (scr_ne e)
  · have z := KX a o hk
    rw [ha] at z
    cases z
    exact lawFrom (fun _ => none) (fun _ => .inl rfl) KX hns hb hbb hlim hg (fun _ _ z => nomatch z) (fun _ _ _ => rfl) (fun _ _ _ _ _ _ => rfl) hr F hbind
      (hsp _ (fun _ => .inl rfl) (.inr ⟨_, vs.toArray, _, hk, rfl, rfl, rfl, by rw [List.size_toArray, hln]; exact hl, by simpa using rv⟩))
end
theorem walkG {l : PySem.W.OpenLaw} {n k : Nat} {q : Program} {loose : List Str} {XP : (Str → Option Value) → Heap → Prop} {YP : World → Heap → Prop} {d : DefRec} {K : Params → PySem.W.Frag} {sp : World → Sp} {x : Str}
    (hn : l.most = some n) (hn2 : n ≤ sizeLine) (hdf : d.params.defaults = []) (hr : Room k callerA) (hY : ∀ (w : World) (h : Heap), YP w h → (K w.params).In h)
    (F : ∀ (w : World) (mg : Str → Option Value) (fa : Addr) (h : Heap), (K w.params).In h → h.Ns mainGlobals mg → mg d.name = some (.ref fa) →
      ∃ fd : FuncData, (∀ (s : Shared) (u : Value), BindsTo s fd ⟨[u], []⟩ [(x, u)]) ∧
        ∀ base : Heap, (K w.params).In base → base.Ns mainGlobals mg → FnG l.prog w (K w.params) mg base k fa fd [x] (sp w))
    (hsp : ∀ (w : World) (H : Hp) (a : Addr) (ns : List Int), ns.length ≤ n → (∀ z ∈ ns, Builtin.Int.intBits z ≤ 1048576) → Only H → SqL (K w.params) H a (ns.map V.int) → sp w [.ref a] H (fun v _ => v = .bl true) fun _ _ _ => False) :
    PySem.W.WalkO q loose XP YP l.row.toRowW d [] (fun f vs => PySem.call f vs) :=
  Att.attach_callB hn hdf fun w s₀ s₁ mg mb fa o pm cd doc a vs ns G Y ho hd hcd hmg hobj hints hlen hbits hg => by
    obtain ⟨fd, hb, hF⟩ := F w mg fa _ (hY w _ Y) G.T.g hmg
    exact lawG (hY w _ Y) G.T.g G.T.b G.T.builtins G.T.nolimit hg hobj hints (Nat.le_trans hlen hn2) hr hF hb fun H hO hS => hsp w H a ns hlen hbits hO hS
end Sw
/-! Data as a whole over the abstract heap (Dt), what stays (Fut), == and repr of data. -/
namespace Sw
open PySem PySem.Spec PyProof.Rows L2

/-- a tuple of the written part -/
def KTup (K : PySem.W.Frag) (a : Addr) (xs : List V) : Prop :=
  ∃ (o : Obj) (its : Array Value) (n : Nat), K.lookup a = some o ∧ o.cls = .type "tuple" ∧ o.data = .seq its n ∧ its.size ≤ sizeLine ∧ Vals xs its.toList
def keyD : Key → PyData
  | .inl i => .int i
  | .inr x => .str x
mutual
/-- v is the datum d; mu: the lists and dicts that are about to change (none of them is part of d) -/
inductive Dt (K : PySem.W.Frag) (mu : Addr → Prop) (H : Hp) : V → PyData → Prop
  | non : Dt K mu H .non .none
  | bl (b : Bool) : Dt K mu H (.bl b) (.bool b)
  | int (i : Int) : Dt K mu H (.int i) (.int i)
  | str (x : Str) : Dt K mu H (.str x) (.str x)
  | lst {a : Addr} {xs : List V} {ds : List PyData} : ¬ mu a → Rd H a (.lst xs) → DtA K mu H xs ds → Dt K mu H (.ref a) (.list ds)
  | tup {a : Addr} {xs : List V} {ds : List PyData} : Rd H a (.tup xs) → DtA K mu H xs ds → Dt K mu H (.ref a) (.tuple ds)
  | tupK {a : Addr} {xs : List V} {ds : List PyData} : KTup K a xs → DtA K mu H xs ds → Dt K mu H (.ref a) (.tuple ds)
  | dct {a : Addr} {kvs : List (Key × V)} {ds : List (PyData × PyData)} : ¬ mu a → Rd H a (.dK kvs) → DtK K mu H kvs ds → Dt K mu H (.ref a) (.dict ds)
inductive DtA (K : PySem.W.Frag) (mu : Addr → Prop) (H : Hp) : List V → List PyData → Prop
  | nil : DtA K mu H [] []
  | cons {v : V} {vs : List V} {d : PyData} {ds : List PyData} : Dt K mu H v d → DtA K mu H vs ds → DtA K mu H (v :: vs) (d :: ds)
inductive DtK (K : PySem.W.Frag) (mu : Addr → Prop) (H : Hp) : List (Key × V) → List (PyData × PyData) → Prop
  | nil : DtK K mu H [] []
  | cons {k : Key} {v : V} {kvs : List (Key × V)} {d : PyData} {ds : List (PyData × PyData)} : Dt K mu H v d → DtK K mu H kvs ds → DtK K mu H ((k, v) :: kvs) ((keyD k, d) :: ds)
end

/-- what is not about to change stays, and tuples do -/
def Fut (mu : Addr → Prop) (H H' : Hp) : Prop := ∀ a o, H a = some o → (¬ mu a ∨ (∃ xs, o = .tup xs) ∨ ∃ ob u, o = .frz ob u) → H' a = some o
theorem Fut.refl {mu : Addr → Prop} (H : Hp) : Fut mu H H := fun _ _ e _ => e
theorem Fut.trans {mu : Addr → Prop} {H H1 H2 : Hp} (a : Fut mu H H1) (b : Fut mu H1 H2) : Fut mu H H2 := fun x o e h => b x o (a x o e h) h
theorem Fut.of_same {mu : Addr → Prop} {H H' : Hp} (s : Same H H') : Fut mu H H' := fun a o e _ => s a o e
theorem Fut.mono {mu mv : Addr → Prop} {H H' : Hp} (f : Fut mu H H') (h : ∀ a, mu a → mv a) : Fut mv H H' := fun a o e z => f a o e (z.imp (fun n m => n (h a m)) id)
theorem Fut.rd {mu : Addr → Prop} {H H' : Hp} (f : Fut mu H H') {a : Addr} {o : HO} (hm : ¬ mu a) (r : Rd H a o) : Rd H' a o := by
  rcases r with r | ⟨ob, r⟩
  · exact .inl (f a _ r (.inl hm))
  · exact .inr ⟨ob, f a _ r (.inl hm)⟩
theorem Fut.rdT {mu : Addr → Prop} {H H' : Hp} (f : Fut mu H H') {a : Addr} {xs : List V} (r : Rd H a (.tup xs)) : Rd H' a (.tup xs) := by
  rcases r with r | ⟨ob, r⟩
  · exact .inl (f a _ r (.inr (.inl ⟨xs, rfl⟩)))
  · exact .inr ⟨ob, f a _ r (.inr (.inr ⟨ob, _, rfl⟩))⟩
section
variable {K : PySem.W.Frag} {mu mv : Addr → Prop} {H H' : Hp}
mutual
theorem Dt.fut (f : Fut mu H H') : ∀ {v : V} {d : PyData}, Dt K mu H v d → Dt K mu H' v d
  | _, _, .non => .non
  | _, _, .bl b => .bl b
  | _, _, .int i => .int i
  | _, _, .str x => .str x
  | _, _, .lst n r h => .lst n (f.rd n r) (DtA.fut f h)
  | _, _, .tup r h => .tup (f.rdT r) (DtA.fut f h)
  | _, _, .tupK r h => .tupK r (DtA.fut f h)
  | _, _, .dct n r h => .dct n (f.rd n r) (DtK.fut f h)
theorem DtA.fut (f : Fut mu H H') : ∀ {vs : List V} {ds : List PyData}, DtA K mu H vs ds → DtA K mu H' vs ds
  | _, _, .nil => .nil
  | _, _, .cons h t => .cons (Dt.fut f h) (DtA.fut f t)
theorem DtK.fut (f : Fut mu H H') : ∀ {vs : List (Key × V)} {ds : List (PyData × PyData)}, DtK K mu H vs ds → DtK K mu H' vs ds
  | _, _, .nil => .nil
  | _, _, .cons h t => .cons (Dt.fut f h) (DtK.fut f t)
end
mutual
/-- fewer that change -/
theorem Dt.less (f : ∀ a, mv a → mu a) : ∀ {v : V} {d : PyData}, Dt K mu H v d → Dt K mv H v d
  | _, _, .non => .non
  | _, _, .bl b => .bl b
  | _, _, .int i => .int i
  | _, _, .str x => .str x
  | _, _, .lst n r h => .lst (fun z => n (f _ z)) r (DtA.less f h)
  | _, _, .tup r h => .tup r (DtA.less f h)
  | _, _, .tupK r h => .tupK r (DtA.less f h)
  | _, _, .dct n r h => .dct (fun z => n (f _ z)) r (DtK.less f h)
theorem DtA.less (f : ∀ a, mv a → mu a) : ∀ {vs : List V} {ds : List PyData}, DtA K mu H vs ds → DtA K mv H vs ds
  | _, _, .nil => .nil
  | _, _, .cons h t => .cons (Dt.less f h) (DtA.less f t)
theorem DtK.less (f : ∀ a, mv a → mu a) : ∀ {vs : List (Key × V)} {ds : List (PyData × PyData)}, DtK K mu H vs ds → DtK K mv H vs ds
  | _, _, .nil => .nil
  | _, _, .cons h t => .cons (Dt.less f h) (DtK.less f t)
end
mutual
/-- one more that changes, not tracked as yet -/
theorem Dt.more {l : Addr} (n : H l = Option.none) : ∀ {v : V} {d : PyData}, Dt K mu H v d → Dt K (fun a => mu a ∨ a = l) H v d
  | _, _, .non => .non
  | _, _, .bl b => .bl b
  | _, _, .int i => .int i
  | _, _, .str x => .str x
  | _, _, .lst m r h => .lst (fun z => z.elim m fun e => by
      rw [e] at r
      rcases r with r | ⟨_, r⟩ <;> (rw [n] at r; cases r)) r (DtA.more n h)
  | _, _, .tup r h => .tup r (DtA.more n h)
  | _, _, .tupK r h => .tupK r (DtA.more n h)
  | _, _, .dct m r h => .dct (fun z => z.elim m fun e => by
      rw [e] at r
      rcases r with r | ⟨_, r⟩ <;> (rw [n] at r; cases r)) r (DtK.more n h)
theorem DtA.more {l : Addr} (n : H l = Option.none) : ∀ {vs : List V} {ds : List PyData}, DtA K mu H vs ds → DtA K (fun a => mu a ∨ a = l) H vs ds
  | _, _, .nil => .nil
  | _, _, .cons h t => .cons (Dt.more n h) (DtA.more n t)
theorem DtK.more {l : Addr} (n : H l = Option.none) : ∀ {vs : List (Key × V)} {ds : List (PyData × PyData)}, DtK K mu H vs ds → DtK K (fun a => mu a ∨ a = l) H vs ds
  | _, _, .nil => .nil
  | _, _, .cons h t => .cons (Dt.more n h) (DtK.more n t)
end
theorem DtA.length : ∀ {vs : List V} {ds : List PyData}, DtA K mu H vs ds → vs.length = ds.length
  | _, _, .nil => rfl
  | _, _, .cons _ t => by rw [List.length_cons, List.length_cons, DtA.length t]
theorem DtA.get : ∀ {vs : List V} {ds : List PyData} {i : Nat} {v : V}, DtA K mu H vs ds → vs[i]? = some v → ∃ d, ds[i]? = some d ∧ Dt K mu H v d
  | _, _, _, _, .nil, e => by simp at e
  | _, _, 0, _, .cons h _, e => by
    simp at e
    subst e
    exact ⟨_, rfl, h⟩
  | _, _, i + 1, v, .cons _ t, e => by
    obtain ⟨d, h1, h2⟩ := DtA.get (i := i) (v := v) t (by simpa using e)
    exact ⟨d, by simpa using h1, h2⟩
theorem DtA.getD : ∀ {vs : List V} {ds : List PyData} {i : Nat} {d : PyData}, DtA K mu H vs ds → ds[i]? = some d → ∃ v, vs[i]? = some v ∧ Dt K mu H v d
  | _, _, _, _, .nil, e => by simp at e
  | _, _, 0, _, .cons h _, e => by
    simp at e
    subst e
    exact ⟨_, rfl, h⟩
  | _, _, i + 1, v, .cons _ t, e => by
    obtain ⟨d, h1, h2⟩ := DtA.getD (i := i) (d := v) t (by simpa using e)
    exact ⟨d, by simpa using h1, h2⟩
theorem DtA.append : ∀ {vs ws : List V} {ds es : List PyData}, DtA K mu H vs ds → DtA K mu H ws es → DtA K mu H (vs ++ ws) (ds ++ es)
  | _, _, _, _, .nil, s => s
  | _, _, _, _, .cons h t, s => .cons h (DtA.append t s)
theorem DtA.drop : ∀ {vs : List V} {ds : List PyData} (n : Nat), DtA K mu H vs ds → DtA K mu H (vs.drop n) (ds.drop n)
  | _, _, 0, r => r
  | _, _, _ + 1, .nil => .nil
  | _, _, n + 1, .cons _ t => DtA.drop n t
theorem DtA.take : ∀ {vs : List V} {ds : List PyData} (n : Nat), DtA K mu H vs ds → DtA K mu H (vs.take n) (ds.take n)
  | _, _, 0, _ => .nil
  | _, _, _ + 1, .nil => .nil
  | _, _, n + 1, .cons h t => .cons h (DtA.take n t)
theorem DtA.one {vs : List V} {ds : List PyData} (h : DtA K mu H vs ds) (e : ds.length = 1) : ∃ x d, vs = [x] ∧ ds = [d] ∧ Dt K mu H x d := by
  cases h with
  | nil => simp at e
  | cons r1 t =>
    cases t with
    | nil => exact ⟨_, _, rfl, rfl, r1⟩
    | cons _ _ => simp at e
theorem DtA.two {vs : List V} {ds : List PyData} (h : DtA K mu H vs ds) (e : ds.length = 2) : ∃ x y d f, vs = [x, y] ∧ ds = [d, f] ∧ Dt K mu H x d ∧ Dt K mu H y f := by
  cases h with
  | nil => simp at e
  | cons r1 t =>
    obtain ⟨y, f, rfl, rfl, r2⟩ := t.one (by simpa using e)
    exact ⟨_, _, _, _, rfl, rfl, r1, r2⟩
theorem DtA.three {vs : List V} {ds : List PyData} (h : DtA K mu H vs ds) (e : ds.length = 3) : ∃ x y z d f g, vs = [x, y, z] ∧ ds = [d, f, g] ∧ Dt K mu H x d ∧ Dt K mu H y f ∧ Dt K mu H z g := by
  cases h with
  | nil => simp at e
  | cons r1 t =>
    obtain ⟨y, z, f, g, rfl, rfl, r2, r3⟩ := t.two (by simpa using e)
    exact ⟨_, _, _, _, _, _, rfl, rfl, r1, r2, r3⟩
theorem DtA.ints : ∀ (ns : List Int), DtA K mu H (ns.map V.int) (ns.map PyData.int)
  | [] => .nil
  | n :: ns => .cons (.int n) (DtA.ints ns)
theorem DtA.strs : ∀ (ns : List Str), DtA K mu H (ns.map V.str) (ns.map PyData.str)
  | [] => .nil
  | n :: ns => .cons (.str n) (DtA.strs ns)
theorem _root_.L2.Same.seqT {H1 H2 : Hp} (e : Same H1 H2) {a : Addr} {xs : List V} (h : SqT K H1 a xs) : SqT K H2 a xs := by
  rcases h with (h | ⟨o, h⟩) | h
  · exact .inl (.inl (e _ _ h))
  · exact .inl (.inr ⟨o, e _ _ h⟩)
  · exact .inr h
theorem DtA.bls : ∀ (bs : List Bool), DtA K mu H (bs.map V.bl) (bs.map PyData.bool)
  | [] => .nil
  | n :: ns => .cons (.bl n) (DtA.bls ns)
end

/-! ### what the library reads -/
theorem nmem_app {p : Addr → Prop} {as bs : List Addr} (ha : ∀ a ∈ as, ¬ p a) (hb : ∀ a ∈ bs, ¬ p a) : ∀ a ∈ as ++ bs, ¬ p a := fun a h => (List.mem_append.mp h).elim (ha a) (hb a)
theorem nmem_cons {p : Addr → Prop} {b : Addr} {as : List Addr} (hb : ¬ p b) (ha : ∀ a ∈ as, ¬ p a) : ∀ a ∈ b :: as, ¬ p a := fun a h => (List.mem_cons.mp h).elim (fun e => by rw [e]; exact hb) (ha a)
section
variable {X : Cx} {pins : List (Addr × Obj)} {σ : L2.St} {H : Hp} {s : Shared} {mu : Addr → Prop}
theorem Rd.sqL {K : PySem.W.Frag} {a : Addr} {xs : List V} (r : Rd H a (.lst xs)) : SqL K H a xs := .inl r
theorem Rd.sqT {K : PySem.W.Frag} {a : Addr} {xs : List V} (r : Rd H a (.tup xs)) : SqT K H a xs := .inl r
theorem KTup.sqT {K : PySem.W.Frag} {a : Addr} {xs : List V} (r : KTup K a xs) : SqT K H a xs := .inr r
mutual
theorem Dt.reads (I : Inv X pins σ H s) : ∀ (d : PyData) (v : V) (u : Value), Dt X.K mu H v d → RelV v u → ∃ as, Reads s.heap u d as ∧ ∀ a ∈ as, ¬ mu a
  | .none, _, _, h, r => by
    cases h
    cases r
    exact ⟨_, Reads.none, fun _ z => nomatch z⟩
  | .bool b, _, _, h, r => by
    cases h
    cases r
    exact ⟨_, Reads.bool b, fun _ z => nomatch z⟩
  | .int i, _, _, h, r => by
    cases h
    obtain ⟨t, rfl⟩ := r
    exact ⟨_, Reads.int i t, fun _ z => nomatch z⟩
  | .str x, _, _, h, r => by
    cases h
    obtain ⟨t, rfl⟩ := r
    exact ⟨_, Reads.str x t, fun _ z => nomatch z⟩
  | .list ds, _, _, h, r => by
    cases h with
    | lst n rd ha =>
      cases r
      obtain ⟨its, rv, ⟨o, m, ho, hc, _, hd⟩, _⟩ := I.list (Rd.sqL rd)
      obtain ⟨as, hr, hn⟩ := DtA.reads I ds _ its ha rv
      exact ⟨_, Reads.list ho hc hd hr, nmem_cons n hn⟩
  | .tuple ds, _, _, h, r => by
    have key : ∀ {a : Addr} {xs : List V} {u : Value}, SqT X.K H a xs → DtA X.K mu H xs ds → RelV (.ref a) u → ∃ as, Reads s.heap u (.tuple ds) as ∧ ∀ a ∈ as, ¬ mu a := fun {a xs u} hs ha r => by
      cases r
      obtain ⟨its, rv, ⟨o, ho, hc, n, hd⟩, _⟩ := I.tuple hs
      obtain ⟨as, hr, hn⟩ := DtA.reads I ds _ its ha rv
      exact ⟨_, Reads.tuple ho hc hd hr, hn⟩
    cases h with
    | tup rd ha => exact key (Rd.sqT rd) ha r
    | tupK rd ha => exact key (KTup.sqT rd) ha r
  | .dict ds, _, _, h, r => by
    cases h with
    | @dct a kvs _ n rd ha =>
      cases r
      have z : ObjOk X.prog X.w H s.heap a (.dK kvs) := rd.ok I.hok
      obtain ⟨_, _, vs, rel, o, es, ep, ho, hx, hd, _, hp, _⟩ := z
      obtain ⟨as, bs, h1, h2, m1, m2⟩ := DtK.reads I ds kvs vs es.toList ha rel hp
      exact ⟨_, Reads.dict ho hx.1 hd h1 h2, nmem_cons n (nmem_app m1 m2)⟩
theorem DtA.reads (I : Inv X pins σ H s) : ∀ (ds : List PyData) (vs : List V) (us : List Value), DtA X.K mu H vs ds → Vals vs us → ∃ as, ReadsAll s.heap us ds as ∧ ∀ a ∈ as, ¬ mu a
  | [], _, _, h, r => by
    cases h
    cases r
    exact ⟨_, ReadsAll.nil, fun _ z => nomatch z⟩
  | d :: ds, _, _, h, r => by
    cases h with
    | cons h1 h2 =>
      cases r with
      | cons r1 r2 =>
        obtain ⟨as, q1, m1⟩ := Dt.reads I d _ _ h1 r1
        obtain ⟨bs, q2, m2⟩ := DtA.reads I ds _ _ h2 r2
        exact ⟨_, ReadsAll.cons q1 q2, nmem_app m1 m2⟩
theorem DtK.reads (I : Inv X pins σ H s) : ∀ (ds : List (PyData × PyData)) (kvs : List (Key × V)) (vs : List (Key × Value)) (es : List DictEntry), DtK X.K mu H kvs ds → KV kvs vs → Pairs (mixKind X.prog X.w) es vs →
    ∃ as bs, ReadsAll s.heap (es.map (·.key)) (ds.map (·.1)) as ∧ ReadsAll s.heap (es.map (·.val)) (ds.map (·.2)) bs ∧ (∀ a ∈ as, ¬ mu a) ∧ ∀ a ∈ bs, ¬ mu a
  | [], _, _, _, h, r, p => by
    cases h
    cases r
    cases p
    exact ⟨_, _, ReadsAll.nil, ReadsAll.nil, (fun _ z => nomatch z), (fun _ z => nomatch z)⟩
  | (dk, d) :: ds, _, _, _, h, r, p => by
    cases h with
    | @cons k v kvs _ _ h1 h2 =>
      cases r with
      | @cons _ q _ vs r1 r2 =>
        cases p with
        | @cons e _ es _ p1 p2 p3 =>
          obtain ⟨as, q1, m1⟩ := Dt.reads I d _ q.2 h1 r1.2
          obtain ⟨cs, bs, q2, q3, m2, m3⟩ := DtK.reads I ds _ _ _ h2 r2 p3
          have ek : keyIs k e.key = true := by
            have z : keyIs q.1 e.key = true := p1
            rw [← r1.1] at z
            exact z
          have q4 : ∃ as, Reads s.heap e.key (keyD k) as ∧ ∀ a ∈ as, ¬ mu a := by
            rcases keyIs_shape ek with ⟨i, t, z1, z2⟩ | ⟨x, t, z1, z2⟩
            · rw [z1, z2]
              exact ⟨_, Reads.int i t, fun _ z => nomatch z⟩
            · rw [z1, z2]
              exact ⟨_, Reads.str x t, fun _ z => nomatch z⟩
          obtain ⟨a0, q4, m4⟩ := q4
          refine ⟨_, _, ReadsAll.cons q4 q2, ReadsAll.cons (as := as) (by show Reads s.heap e.val d as; rw [p2]; exact q1) q3, nmem_app m4 m2, nmem_app m1 m3⟩
end
end
/-! ### == and repr of data -/
section
variable {X : Cx}
def rEqW (K : PySem.W.Frag) : R2 := fun x y H Q => ∃ mu d e, Dt K mu H x d ∧ Dt K mu H y e ∧ SeqAt.shaped d = true ∧ SeqAt.shaped e = true ∧ Q (.bl (PyData.eqv d e)) H
def rNeW (K : PySem.W.Frag) : R2 := fun x y H Q => ∃ mu d e, Dt K mu H x d ∧ Dt K mu H y e ∧ SeqAt.shaped d = true ∧ SeqAt.shaped e = true ∧ Q (.bl (!PyData.eqv d e)) H
theorem op_eqW (hu : X.A.units + 64 < cLine) : OpR X (compareOp .Eq) (rEqW X.K) := by
  intro pins s σ H x y v u Q I rx ry h
  obtain ⟨mu, d, e, hd, he, sd, se, q⟩ := h
  obtain ⟨as, r1, _⟩ := Dt.reads I d x v hd rx
  obtain ⟨bs, r2, _⟩ := Dt.reads I e y u he ry
  exact SeqAt.compareEq_shaped r1 r2 sd se hu ⟨.bl _, H, I, rfl, q⟩
theorem op_neW (hu : X.A.units + 64 < cLine) : OpR X (compareOp .NotEq) (rNeW X.K) := by
  intro pins s σ H x y v u Q I rx ry h
  obtain ⟨mu, d, e, hd, he, sd, se, q⟩ := h
  obtain ⟨as, r1, _⟩ := Dt.reads I d x v hd rx
  obtain ⟨bs, r2, _⟩ := Dt.reads I e y u he ry
  exact SeqAt.compareNe_shaped r1 r2 sd se hu ⟨.bl _, H, I, rfl, q⟩
/-- == of data, or of one thing with itself -/
def rEqA (K : PySem.W.Frag) : R2 := fun x y H Q => rEqW K x y H Q ∨ (rEqV K x y H Q ∨ rEq x y H Q)
theorem op_eqA (hu : X.A.units + 64 < cLine) : OpR X (compareOp .Eq) (rEqA X.K) := OpR.or (op_eqW hu) (OpR.or (op_eqV hu) op_eq)
def rRepr (K : PySem.W.Frag) : List V → Hp → VK → Prop := fun xs H Q => ∃ (x : V) (mu : Addr → Prop) (d : PyData), xs = [x] ∧ Dt K mu H x d ∧ d.showable = true ∧ (d.hasDict = false ∨ mu sysModules) ∧ d.depth ≤ 60 ∧ d.shown.length ≤ sizeLine ∧ Q (.str d.shown) H
theorem call_repr (hg : Gd X.A) (hu : X.A.units + 64 < cLine) : CallR X (.builtin "repr") (rRepr X.K) := by
  intro pins s σ H xs us Q I r h
  obtain ⟨x, mu, d, rfl, hd, hs, hm, hdp, hl, q⟩ := h
  cases r with
  | @cons _ u _ _ r1 r2 =>
    cases r2
    have fin : ∀ {t : Tok} {tk : Nat}, EP X pins σ Q (.str d.shown t) { s with toks := tk } := fun {t tk} => ⟨.str _, H, I.tok tk, ⟨t, rfl⟩, q⟩
    cases d with
    | none =>
      cases hd
      cases r1
      exact P.repr_of_none fin
    | bool b =>
      cases hd
      cases r1
      exact P.repr_of_bool fin
    | int i =>
      cases hd
      obtain ⟨t, rfl⟩ := r1
      exact P.repr_of_int (of_decide_eq_true hs) fin
    | str y =>
      cases hd
      obtain ⟨t, rfl⟩ := r1
      exact P.repr_of_str fin hl
    | _ =>
      obtain ⟨as, hr, hn⟩ := Dt.reads I _ x u hd r1
      have hu' : ∃ a, u = .ref a := by
        cases hd <;> exact ⟨_, r1⟩
      obtain ⟨a, rfl⟩ := hu'
      exact repr_of_reads' hr hs (fun hz => hm.elim (fun z => by rw [z] at hz; cases hz) fun z y => hn _ y z) hg (by omega) (fun _ _ e => e) (fun h' t tk hk => ⟨.str _, H, (I.kept (h' := h') (t' := tk) hk), ⟨t, rfl⟩, q⟩) hl
end
end Sw
/-! Calls of defs by what they promise; isinstance, len, items of data; the built-ins' names. -/
namespace Sw
open PySem PySem.Spec PyProof.Rows L2

/-- the module's name x is a def that keeps sp -/
structure CalG (P : Program) (w : World) (K : PySem.W.Frag) (mg : Str → Option Value) (base : Heap) (k : Nat) (x : Str) (sp : Sp) : Prop where
  ex : ∃ (f : Addr) (fd : FuncData) (ps : List Str), FnG P w K mg base k f fd ps sp ∧ mg x = some (.ref f) ∧ PySem.W.keepIn K (.ref f) = true ∧ Binds K fd ps []
section
variable {X : Cx} {k j : Nat} {sp : Sp} {x : Str} {e : Expr} {es : List Expr} {t : TA} {p pos : Pos}
theorem pc (c : CalG X.prog X.w X.K X.mg X.base k x sp) (g : Gd X.A) (hr : Room j X.A) (hk : k ≤ j) (hg : Gl X x) (ha : PA X (e :: es) t)
    (hdb : (x == ("__debug__" : Str)) = false := by decide) (he : starEach (e :: es) X.env = (false, eval e X.env) :: starEach es X.env := by rfl) (hpl : (backTo pos (starEach es X.env)).any (·.1) = false := by rfl) :
    PE X (.Call (.Name x p) (e :: es) [] pos) (tCall sp [] E0 t) := by
  obtain ⟨f, fd, ps, F, hm, kp, b⟩ := c.ex
  exact peG F g (hr.mono hk) hg hm kp b .nil ha hdb he hpl
theorem pc0 (c : CalG X.prog X.w X.K X.mg X.base k x sp) (g : Gd X.A) (hr : Room j X.A) (hk : k ≤ j) (hg : Gl X x) (hdb : (x == ("__debug__" : Str)) = false := by decide) :
    PE X (.Call (.Name x p) [] [] pos) (tCall sp [] E0 tNil) := by
  obtain ⟨f, fd, ps, F, hm, kp, b⟩ := c.ex
  exact peG0 F g (hr.mono hk) hg hm kp b .nil hdb
end
theorem Room.u64 {k : Nat} {A : Around} (r : Room k A) : A.units + 64 < cLine := by
  have := r.un
  omega

/-! ### isinstance of data -/
def tyName : PyData → String
  | .none => "NoneType" | .bool _ => "bool" | .int _ => "int" | .str _ => "str" | .list _ => "list" | .tuple _ => "tuple" | .dict _ => "dict"
def isT (T : String) (d : PyData) : Bool := tyName d == T || (tyName d == "bool" && T == "int")
section
variable {K : PySem.W.Frag} {mu : Addr → Prop} {H : Hp}
theorem Dt.tyx {v : V} {d : PyData} (h : Dt K mu H v d) : TyX K H v (.type (tyName d)) := by
  cases h with
  | non => exact .base .non
  | bl b => exact .base (.bl b)
  | int i => exact .base (.int i)
  | str x => exact .base (.str x)
  | lst n r _ =>
    rcases r with r | ⟨o, r⟩
    · exact .base (.lst r)
    · exact .base (.frz r)
  | tup r _ =>
    rcases r with r | ⟨o, r⟩
    · exact .base (.tup r)
    · exact .fTuple r
  | tupK r _ =>
    obtain ⟨o, its, n, h1, h2, _⟩ := r
    exact .kTuple h1 h2
  | dct n r _ =>
    rcases r with r | ⟨o, r⟩
    · exact .base (.dK r)
    · exact .fDict r
end
def tyAsk (T : String) : Bool := ["int", "bool", "str", "list", "tuple", "dict"].contains T
theorem kit_tab : ∀ T ∈ ["int", "bool", "str", "list", "tuple", "dict"], ∀ S ∈ ["NoneType", "bool", "int", "str", "list", "tuple", "dict"], kitB S T = some (S == T || (S == "bool" && T == "int")) := by decide +kernel
theorem tyName_mem (d : PyData) : tyName d ∈ ["NoneType", "bool", "int", "str", "list", "tuple", "dict"] := by
  cases d <;> simp [tyName]
def rIsD (K : PySem.W.Frag) : List V → Hp → VK → Prop := fun xs H Q => ∃ (x : V) (T : String) (mu : Addr → Prop) (d : PyData), xs = [x, .ty T] ∧ T ∈ ["int", "bool", "str", "list", "tuple", "dict"] ∧ Dt K mu H x d ∧ Q (.bl (isT T d)) H
section
variable {X : Cx}
theorem call_isD : CallR X (.builtin "isinstance") (rIsD X.K) := by
  intro pins s σ H xs us Q I r h
  obtain ⟨x, T, mu, d, rfl, hT, hd, q⟩ := h
  exact call_isi pins s σ H _ us Q I r ⟨x, .ty T, _, .type T, _, rfl, .ty T, hd.tyx, kit_ty (kit_tab T hT _ (tyName_mem d)), q⟩

/-! ### len, items -/
def lenD : PyData → Option Nat
  | .str x => some x.length | .list ds => some ds.length | .tuple ds => some ds.length | _ => none
theorem call_lenA : CallR X (.builtin "len") (fun xs H Q => ∃ (x : V) (n : Nat), xs = [x] ∧ LenV X.K x H n ∧ Q (.int n) H) := call_len
theorem lenV_of {K : PySem.W.Frag} {mu : Addr → Prop} {H : Hp} {v : V} {d : PyData} {n : Nat} (h : Dt K mu H v d) (hn : lenD d = some n) (hs : n ≤ sizeLine) : LenV K v H n := by
  cases h with
  | str x =>
    cases hn
    exact ⟨hs, rfl⟩
  | lst m r ha =>
    cases hn
    exact .inl ⟨_, Rd.sqL r, ha.length.symm⟩
  | tup r ha =>
    cases hn
    exact .inr ⟨_, Rd.sqT r, ha.length.symm⟩
  | tupK r ha =>
    cases hn
    exact .inr ⟨_, KTup.sqT r, ha.length.symm⟩
  | _ => cases hn
/-- an item of a tuple, of a list -/
theorem Dt.tupAt {K : PySem.W.Frag} {mu : Addr → Prop} {H : Hp} {v : V} {ds : List PyData} (h : Dt K mu H v (.tuple ds)) : ∃ a xs, v = .ref a ∧ SqT K H a xs ∧ DtA K mu H xs ds := by
  cases h with
  | tup r ha => exact ⟨_, _, rfl, Rd.sqT r, ha⟩
  | tupK r ha => exact ⟨_, _, rfl, KTup.sqT r, ha⟩
theorem Dt.lstAt {K : PySem.W.Frag} {mu : Addr → Prop} {H : Hp} {v : V} {ds : List PyData} (h : Dt K mu H v (.list ds)) : ∃ a xs, v = .ref a ∧ ¬ mu a ∧ Rd H a (.lst xs) ∧ DtA K mu H xs ds := by
  cases h with
  | lst n r ha => exact ⟨_, _, rfl, n, r, ha⟩
/-- o[i] of a list by values (in o[i] op= e), i from 0 on -/
def rGetL (K : PySem.W.Frag) : R2 := fun o i H Q => ∃ (p : Addr) (xs : List V) (j : Nat) (v : V), o = .ref p ∧ i = .int j ∧ SqL K H p xs ∧ xs[j]? = some v ∧ Q v H
theorem get_list : PGet X (rGetL X.K) := by
  intro pins s σ H o i ov iv Q I ro ri h
  obtain ⟨p, xs, j, v, rfl, rfl, hq, he, q⟩ := h
  cases ro
  obtain ⟨t, rfl⟩ := ri
  obtain ⟨its, r, pl, hz⟩ := I.list hq
  obtain ⟨u, eu, ru⟩ := r.get he
  have hn := line63
  have hl := (List.getElem?_eq_some_iff.mp he).1
  exact wpAny_getItem_list pl.isList (by omega) (by omega) (by simpa using eu) ⟨v, H, I, ru, q⟩
end

/-! ### the built-ins' names, not taken by the module -/
structure Bt (mg : Str → Option Value) : Prop where
  len : mg "len" = none
  int : mg "int" = none
  bool : mg "bool" = none
  str : mg "str" = none
  tuple : mg "tuple" = none
  list : mg "list" = none
  dict : mg "dict" = none
  isin : mg "isinstance" = none
  repr : mg "repr" = none
  abs : mg "abs" = none
  max : mg "max" = none
  min : mg "min" = none
  range : mg "range" = none
  enum : mg "enumerate" = none
  zip : mg "zip" = none
theorem bb_abs : bootBuiltins "abs" = some (.builtin "abs") := by decide +kernel
theorem bb_isin : bootBuiltins "isinstance" = some (.builtin "isinstance") := by decide +kernel
theorem bb_repr : bootBuiltins "repr" = some (.builtin "repr") := by decide +kernel
theorem bb_max : bootBuiltins "max" = some (.builtin "max") := by decide +kernel
theorem bb_min : bootBuiltins "min" = some (.builtin "min") := by decide +kernel
theorem bb_len : bootBuiltins "len" = some (.builtin "len") := PySem.boot_len
theorem bb_sum : bootBuiltins "sum" = some (.builtin "sum") := by decide +kernel
theorem bb_all : bootBuiltins "all" = some (.builtin "all") := by decide +kernel
theorem bb_any : bootBuiltins "any" = some (.builtin "any") := by decide +kernel
theorem bb_sorted : bootBuiltins "sorted" = some (.builtin "sorted") := by decide +kernel
theorem bb_divmod : bootBuiltins "divmod" = some (.builtin "divmod") := by decide +kernel
theorem bb_int : bootBuiltins "int" = some (.type "int") := by decide +kernel
theorem bb_bool : bootBuiltins "bool" = some (.type "bool") := by decide +kernel
theorem bb_str : bootBuiltins "str" = some (.type "str") := by decide +kernel
theorem bb_tuple : bootBuiltins "tuple" = some (.type "tuple") := by decide +kernel
theorem bb_list : bootBuiltins "list" = some (.type "list") := by decide +kernel
theorem bb_dict : bootBuiltins "dict" = some (.type "dict") := by decide +kernel
theorem bb_set : bootBuiltins "set" = some (.type "set") := by decide +kernel
theorem bb_VE : bootBuiltins "ValueError" = some (.type "ValueError") := by decide +kernel

/-! ### data of a size that may be shown and compared -/
mutual
def okD : PyData → Bool
  | .none | .bool _ => true
  | .int i => decide (i.natAbs < 10 ^ 500)
  | .str x => PyData.strOk x
  | .list xs | .tuple xs => okA xs
  | .dict kvs => okK kvs
def okA : List PyData → Bool
  | [] => true
  | x :: xs => okD x && okA xs
def okK : List (PyData × PyData) → Bool
  | [] => true
  | (k, v) :: r => okD k && okD v && okK r
end
structure Ok (d : PyData) : Prop where
  ok : okD d = true
  dp : d.depth ≤ 50
  wt : d.weight ≤ 27000
instance (d : PyData) : Decidable (Ok d) := decidable_of_iff (okD d = true ∧ d.depth ≤ 50 ∧ d.weight ≤ 27000) ⟨fun h => ⟨h.1, h.2.1, h.2.2⟩, fun h => ⟨h.ok, h.dp, h.wt⟩⟩
theorem int_short {i : Int} (h : i.natAbs < 10 ^ 500) : (PyData.shown (.int i)).length ≤ 600 := by
  have e := int_text_length_le10 (k := 500) (by decide) h
  show (Str.ofString (toString i)).length ≤ 600
  rw [PySem.ofString_length]
  omega
theorem int_log {i : Int} (h : i.natAbs < 10 ^ 500) : i.natAbs.log2 < 1920 := by
  have e : (10 : Nat) ^ 500 ≤ 2 ^ 1900 := by decide +kernel
  by_cases z : i.natAbs = 0
  · rw [z]
    decide
  · exact Nat.lt_trans ((Nat.log2_lt z).mpr (Nat.lt_of_lt_of_le h e)) (by decide)
mutual
theorem ok_show : ∀ d : PyData, okD d = true → d.showable = true ∧ d.leavesShort 600 = true
  | .none, _ => ⟨rfl, rfl⟩
  | .bool _, _ => ⟨rfl, rfl⟩
  | .int i, h => by
    have h1 : i.natAbs < 10 ^ 500 := by simpa only [okD, decide_eq_true_eq] using h
    exact ⟨by simp only [PyData.showable, decide_eq_true_eq]; exact int_log h1, by simp only [PyData.leavesShort, decide_eq_true_eq]; exact int_short h1⟩
  | .str x, h => ⟨rfl, PyData.leavesShort_of_canLay0 600 (.str x) (by simpa only [okD, PyData.canLay0] using h) rfl⟩
  | .list xs, h => by simpa only [PyData.showable, PyData.leavesShort] using ok_showA xs (by simpa only [okD] using h)
  | .tuple xs, h => by simpa only [PyData.showable, PyData.leavesShort] using ok_showA xs (by simpa only [okD] using h)
  | .dict kvs, h => by simpa only [PyData.showable, PyData.leavesShort] using ok_showK kvs (by simpa only [okD] using h)
theorem ok_showA : ∀ xs : List PyData, okA xs = true → PyData.showableAll xs = true ∧ PyData.leavesShortAll 600 xs = true
  | [], _ => ⟨rfl, rfl⟩
  | x :: xs, h => by
    have h' : okD x = true ∧ okA xs = true := by simpa only [okA, Bool.and_eq_true] using h
    have a := ok_show x h'.1
    have b := ok_showA xs h'.2
    simp only [PyData.showableAll, PyData.leavesShortAll, a.1, a.2, b.1, b.2, Bool.and_self, and_self]
theorem ok_showK : ∀ xs : List (PyData × PyData), okK xs = true → PyData.showableKv xs = true ∧ PyData.leavesShortKv 600 xs = true
  | [], _ => ⟨rfl, rfl⟩
  | (k, v) :: xs, h => by
    have h' : (okD k = true ∧ okD v = true) ∧ okK xs = true := by simpa only [okK, Bool.and_eq_true] using h
    have a := ok_show k h'.1.1
    have c := ok_show v h'.1.2
    have b := ok_showK xs h'.2
    simp only [PyData.showableKv, PyData.leavesShortKv, a.1, a.2, b.1, b.2, c.1, c.2, Bool.and_self, and_self]
end
mutual
theorem ok_lay : ∀ d : PyData, okD d = true → d.hasDict = false → d.canLay0 = true
  | .none, _, _ => rfl
  | .bool _, _, _ => rfl
  | .int i, _, _ => rfl
  | .str x, h, _ => by simpa only [okD, PyData.canLay0] using h
  | .list xs, h, n => by simpa only [PyData.canLay0] using ok_layA xs (by simpa only [okD] using h) (by simpa only [PyData.hasDict] using n)
  | .tuple xs, h, n => by simpa only [PyData.canLay0] using ok_layA xs (by simpa only [okD] using h) (by simpa only [PyData.hasDict] using n)
  | .dict kvs, _, n => by simp [PyData.hasDict] at n
theorem ok_layA : ∀ xs : List PyData, okA xs = true → PyData.hasDictAll xs = false → PyData.canLayAll0 xs = true
  | [], _, _ => rfl
  | x :: xs, h, n => by
    have h' : okD x = true ∧ okA xs = true := by simpa only [okA, Bool.and_eq_true] using h
    have n' : x.hasDict = false ∧ PyData.hasDictAll xs = false := by simpa only [PyData.hasDictAll, Bool.or_eq_false_iff] using n
    simp only [PyData.canLayAll0, ok_lay x h'.1 n'.1, ok_layA xs h'.2 n'.2, Bool.and_self]
end
theorem Ok.show {d : PyData} (h : Ok d) : d.showable = true := (ok_show d h.ok).1
theorem Ok.fits {d : PyData} (h : Ok d) : d.shown.length ≤ sizeLine := by
  have e := PyData.shown_le 600 (by decide) d (ok_show d h.ok).2
  have w := h.wt
  rw [sizeLine_eq]
  omega
theorem Ok.shaped {d : PyData} (h : Ok d) (n : d.hasDict = false) : SeqAt.shaped d = true := by
  have := h.dp
  unfold SeqAt.shaped
  rw [ok_lay d h.ok n, decide_eq_true (by omega)]
  rfl
theorem Ok.repr {K : PySem.W.Frag} {mu : Addr → Prop} {H : Hp} {v : V} {d : PyData} {Q : VK} (h : Ok d) (r : Dt K mu H v d) (n : d.hasDict = false ∨ mu sysModules) (q : Q (.str d.shown) H) : rRepr K [v] H Q :=
  ⟨v, mu, d, rfl, r, h.show, n, by have := h.dp; omega, h.fits, q⟩
theorem eqv_same {d : PyData} (h : d.canLay0 = true) : PyData.eqv d d = true := SeqAt.eqv_refl d h
theorem lay_strs : ∀ {xs : List Str}, (∀ z ∈ xs, PyData.strOk z = true) → PyData.canLayAll0 (xs.map PyData.str) = true ∧ PyData.depthAll (xs.map PyData.str) = 0
  | [], _ => ⟨rfl, rfl⟩
  | x :: xs, h => by
    have e1 : PyData.canLay0 (.str x) = true := by simpa only [PyData.canLay0] using h x List.mem_cons_self
    have e2 := lay_strs fun z hz => h z (List.mem_cons_of_mem _ hz)
    simp only [List.map_cons, PyData.canLayAll0, PyData.depthAll, e1, e2.1, e2.2, PyData.depth, Bool.and_self, Nat.max_self, and_self]
theorem shaped_strs {xs : List Str} (h : ∀ z ∈ xs, PyData.strOk z = true) : SeqAt.shaped (.list (xs.map PyData.str)) = true := by
  have e := lay_strs h
  unfold SeqAt.shaped
  simp only [PyData.canLay0, PyData.depth, e.1, e.2, Bool.true_and]
  decide
/-! ### short words for tests -/
theorem iteNe {A B : Prop} {i j : Int} (h1 : i ≠ j → A) (h2 : i = j → B) : if (!decide (V.int i = V.int j)) = true then A else B := by
  by_cases e : i = j
  · have z : (!decide (V.int i = V.int j)) = false := by rw [e, decide_eq_true rfl]; rfl
    rw [z]
    exact iteF (h2 e)
  · have z : (!decide (V.int i = V.int j)) = true := by rw [decide_eq_false fun q => e (V.int.inj q)]; rfl
    rw [z]
    exact iteT (h1 e)
theorem iteEq {A B : Prop} {i j : Int} (h1 : i = j → A) (h2 : i ≠ j → B) : if decide (V.int i = V.int j) = true then A else B := by
  by_cases e : i = j
  · rw [e, decide_eq_true rfl]
    exact iteT (h1 e)
  · rw [decide_eq_false fun q => e (V.int.inj q)]
    exact iteF (h2 e)
theorem iteP {A B : Prop} {p : Prop} [Decidable p] (h1 : p → A) (h2 : ¬ p → B) : if decide p = true then A else B := by
  by_cases e : p
  · rw [decide_eq_true e]
    exact iteT (h1 e)
  · rw [decide_eq_false e]
    exact iteF (h2 e)
theorem iteB {A B : Prop} {b : Bool} (h1 : b = true → A) (h2 : b = false → B) : if b = true then A else B := by
  cases b with
  | true => exact iteT (h1 rfl)
  | false => exact iteF (h2 rfl)
theorem iteN {A B : Prop} {b : Bool} (h1 : b = false → A) (h2 : b = true → B) : if (!b) = true then A else B := by
  cases b with
  | true => exact iteF (h2 rfl)
  | false => exact iteT (h1 rfl)
theorem dec_int (i j : Int) : decide (V.int i = V.int j) = decide (i = j) := by
  rw [decide_eq_decide]
  exact ⟨V.int.inj, fun e => by rw [e]⟩
theorem okA_mem : ∀ {ds : List PyData} {d : PyData}, okA ds = true → d ∈ ds → okD d = true
  | x :: xs, d, h, m => by
    have h' : okD x = true ∧ okA xs = true := by simpa only [okA, Bool.and_eq_true] using h
    rcases List.mem_cons.mp m with rfl | m
    · exact h'.1
    · exact okA_mem h'.2 m
theorem depthAll_mem : ∀ {ds : List PyData} {d : PyData}, d ∈ ds → d.depth ≤ PyData.depthAll ds
  | x :: xs, d, m => by
    simp only [PyData.depthAll]
    rcases List.mem_cons.mp m with rfl | m
    · omega
    · have := depthAll_mem m
      omega
theorem weightAll_mem : ∀ {ds : List PyData} {d : PyData}, d ∈ ds → d.weight + 1 ≤ PyData.weightAll ds
  | x :: xs, d, m => by
    simp only [PyData.weightAll]
    rcases List.mem_cons.mp m with rfl | m
    · omega
    · have := weightAll_mem m
      omega
theorem Ok.inT {ds : List PyData} {d : PyData} (h : Ok (.tuple ds)) (m : d ∈ ds) : Ok d := by
  have z1 := h.dp
  have z2 := h.wt
  have z3 := h.ok
  simp only [PyData.depth] at z1
  simp only [PyData.weight] at z2
  simp only [okD] at z3
  have y1 := depthAll_mem m
  have y2 := weightAll_mem m
  exact ⟨okA_mem z3 m, by omega, by omega⟩
theorem Ok.inL {ds : List PyData} {d : PyData} (h : Ok (.list ds)) (m : d ∈ ds) : Ok d := by
  have z1 := h.dp
  have z2 := h.wt
  have z3 := h.ok
  simp only [PyData.depth] at z1
  simp only [PyData.weight] at z2
  simp only [okD] at z3
  have y1 := depthAll_mem m
  have y2 := weightAll_mem m
  exact ⟨okA_mem z3 m, by omega, by omega⟩
theorem weight_len : ∀ ds : List PyData, ds.length ≤ PyData.weightAll ds
  | [] => Nat.le_refl _
  | x :: xs => by
    have := weight_len xs
    simp only [PyData.weightAll, List.length_cons]
    omega
theorem Ok.strLen {x : Str} (h : Ok (.str x)) : x.length ≤ 27000 := by
  have := h.wt
  simp only [PyData.weight] at this
  exact this
theorem isTup (d : PyData) : isT "tuple" d = true ↔ ∃ ds, d = .tuple ds := by
  cases d <;> simp [isT, tyName]
theorem isStr (d : PyData) : isT "str" d = true ↔ ∃ x, d = .str x := by
  cases d <;> simp [isT, tyName]
theorem isLst (d : PyData) : isT "list" d = true ↔ ∃ ds, d = .list ds := by
  cases d <;> simp [isT, tyName]
theorem isIntD (d : PyData) : (isT "int" d && !isT "bool" d) = true ↔ ∃ i, d = .int i := by
  cases d <;> simp [isT, tyName]
end Sw
/-! Mathematics of names and common divisors. -/
namespace Sw
open PySem PySem.Spec PyProof.Rows L2

def low (c : Nat) : Bool := decide (97 ≤ c ∧ c ≤ 122)
theorem low_tab : ∀ c, c < 128 → (Unicode.isAlpha c && !(Unicode.isUpper c || Unicode.isTitle c)) = low c ∧ (low c = true → Unicode.isLower c = true) := by decide +kernel
theorem low_lt {c : Nat} (h : low c = true) : c < 128 := by
  have z := of_decide_eq_true h
  omega
/-- what is_name asks of a text's signs, both ways -/
theorem name_two (cs : List Nat) (h : cs ≠ []) : (cs.all (· < 128) && (cs.all Unicode.isAlpha && (cs.any Unicode.isLower && !cs.any fun c => Unicode.isUpper c || Unicode.isTitle c))) = cs.all low := by
  rw [Bool.eq_iff_iff]
  constructor
  · intro z
    simp only [Bool.and_eq_true, List.all_eq_true, decide_eq_true_eq, Bool.not_eq_true', List.any_eq_false] at z
    obtain ⟨z1, z2, z3, z4⟩ := z
    rw [List.all_eq_true]
    intro c hc
    have e := (low_tab c (z1 c hc)).1
    rw [← e, z2 c hc]
    simpa using z4 c hc
  · intro z
    rw [List.all_eq_true] at z
    have key : ∀ c ∈ cs, c < 128 ∧ Unicode.isAlpha c = true ∧ (Unicode.isUpper c || Unicode.isTitle c) = false ∧ Unicode.isLower c = true := fun c hc => by
      have l := low_lt (z c hc)
      have e := low_tab c l
      rw [z c hc] at e
      have e1 := e.1
      rw [Bool.and_eq_true, Bool.not_eq_true'] at e1
      exact ⟨l, e1.1, e1.2, e.2 rfl⟩
    simp only [Bool.and_eq_true, List.all_eq_true, decide_eq_true_eq, Bool.not_eq_true', List.any_eq_false, List.any_eq_true]
    obtain ⟨c, hc⟩ := List.exists_mem_of_ne_nil cs h
    exact ⟨fun c hc => (key c hc).1, fun c hc => (key c hc).2.1, ⟨c, hc, (key c hc).2.2.2⟩, fun c hc => by simpa using (key c hc).2.2.1⟩
/-- a NAME's text -/
def nameS (x : Str) : Bool := decide (1 ≤ x.length) && decide (x.length ≤ 12) && x.cps.toList.all low
theorem name_txt (x : Str) (h : 1 ≤ x.length) : (Txt.isascii x && (Txt.isalpha x && Txt.islower x)) = x.cps.toList.all low := by
  have hl : x.cps.toList ≠ [] := fun z => by
    have e : x.length = x.cps.toList.length := rfl
    rw [z] at e
    simp at e
    omega
  have e := name_two x.cps.toList hl
  rw [← e]
  unfold Txt.isascii Txt.isalpha Txt.islower
  have h2 : decide (x.length > 0) = true := decide_eq_true h
  rw [h2, Bool.true_and, ← Array.all_toList, ← Array.all_toList, ← Array.any_toList, ← Array.any_toList]
def az : Str := "abcdefghijklmnopqrstuvwxyz"
theorem az_mem (c : Nat) : decide (c ∈ az.cps.toList) = low c := by
  have h : az.cps.toList = (List.range 26).map (· + 97) := by decide +kernel
  rw [h]
  unfold low
  rw [decide_eq_decide]
  simp only [List.mem_map, List.mem_range]
  constructor
  · rintro ⟨i, hi, rfl⟩
    omega
  · intro z
    exact ⟨c - 97, by omega, by omega⟩

/-! ### the common divisor by rests -/
theorem gcd_step (a b : Nat) : Nat.gcd b (a % b) = Nat.gcd a b := by
  rw [Nat.gcd_comm a b, Nat.gcd_rec b a, Nat.gcd_comm]
/-- the size of the common divisor -/
def gI (n d : Int) : Int := ((Nat.gcd n.natAbs d.natAbs : Nat) : Int)
def sh (n d : Int) : Int := if gI n d > 1 then gI n d else 1
def redI (n d : Int) : Int × Int := if d < 0 then ((-n) / sh n d, (-d) / sh n d) else (n / sh n d, d / sh n d)
theorem sh_pos (n d : Int) : 0 < sh n d := by
  unfold sh
  split <;> omega
theorem sh_eq {n d : Int} (h : d ≠ 0) : sh n d = gI n d := by
  have : 0 < Nat.gcd n.natAbs d.natAbs := Nat.gcd_pos_of_pos_right _ (by omega)
  unfold sh gI
  split <;> omega
theorem sh_le {n d : Int} (h : d ≠ 0) : (sh n d).natAbs ≤ d.natAbs := by
  rw [sh_eq h]
  unfold gI
  rw [Int.natAbs_natCast]
  exact Nat.le_of_dvd (by omega) (Nat.gcd_dvd_right _ _)
/-- small positive ones, reduced -/
theorem redI_pos {n d : Int} (hn : 0 < n) (hd : 0 < d) : 1 ≤ (redI n d).1 ∧ (redI n d).1 ≤ n ∧ 1 ≤ (redI n d).2 ∧ (redI n d).2 ≤ d ∧ gI (redI n d).1 (redI n d).2 = 1 := by
  obtain ⟨a, rfl⟩ : ∃ a : Nat, n = (a : Int) := ⟨n.toNat, by omega⟩
  obtain ⟨c, rfl⟩ : ∃ c : Nat, d = (c : Int) := ⟨d.toNat, by omega⟩
  have ha : 0 < a := by omega
  have hc : 0 < c := by omega
  have hg : 0 < Nat.gcd a c := Nat.gcd_pos_of_pos_right _ hc
  have e : redI (a : Int) (c : Int) = (((a / Nat.gcd a c : Nat) : Int), ((c / Nat.gcd a c : Nat) : Int)) := by
    unfold redI
    rw [if_neg (by omega), sh_eq (by omega)]
    unfold gI
    rw [Int.natAbs_natCast, Int.natAbs_natCast, Int.natCast_ediv, Int.natCast_ediv]
  rw [e]
  have d1 : Nat.gcd a c ≤ a := Nat.le_of_dvd ha (Nat.gcd_dvd_left a c)
  have d2 : Nat.gcd a c ≤ c := Nat.le_of_dvd hc (Nat.gcd_dvd_right a c)
  have p1 : 0 < a / Nat.gcd a c := Nat.div_pos d1 hg
  have p2 : 0 < c / Nat.gcd a c := Nat.div_pos d2 hg
  have p3 : a / Nat.gcd a c ≤ a := Nat.div_le_self _ _
  have p4 : c / Nat.gcd a c ≤ c := Nat.div_le_self _ _
  have p5 : Nat.gcd (a / Nat.gcd a c) (c / Nat.gcd a c) = 1 := Nat.coprime_div_gcd_div_gcd hg
  refine ⟨by show (1 : Int) ≤ ((a / Nat.gcd a c : Nat) : Int); omega, by show ((a / Nat.gcd a c : Nat) : Int) ≤ _; omega, by show (1 : Int) ≤ ((c / Nat.gcd a c : Nat) : Int); omega, by show ((c / Nat.gcd a c : Nat) : Int) ≤ _; omega, ?_⟩
  unfold gI
  show ((Nat.gcd (((a / Nat.gcd a c : Nat) : Int)).natAbs (((c / Nat.gcd a c : Nat) : Int)).natAbs : Nat) : Int) = 1
  rw [Int.natAbs_natCast, Int.natAbs_natCast, p5]
  rfl

/-! ### the bag of draws -/
/-- the bag at b: what is left of a great cell, the stirred number, how many cells were taken, the cells -/
def BagAt (H : Hp) (b : Addr) : Prop := ∃ (x y z : Int) (l : Addr) (cs : List Int), H b = some (.lst [.int x, .int y, .int z, .ref l]) ∧ H l = some (.lst (cs.map V.int)) ∧ l ≠ b ∧ 0 ≤ x ∧ 0 ≤ y ∧ y < 2147483647 ∧ 0 ≤ z ∧ cs.length ≤ 63 ∧ ∀ c ∈ cs, 0 ≤ c
/-- its cells lie at l -/
def BagL (H : Hp) (b l : Addr) : Prop := ∃ x y z : Int, H b = some (.lst [.int x, .int y, .int z, .ref l])
theorem BagL.eq {H : Hp} {b l k : Addr} {x y z : Int} (h : BagL H b l) (e : H b = some (.lst [.int x, .int y, .int z, .ref k])) : l = k := by
  obtain ⟨x', y', z', e'⟩ := h
  rw [e] at e'
  cases e'
  rfl
/-- the bag alone has changed -/
structure Rel (b : Addr) (H H' : Hp) : Prop where
  keep : ∀ a o, a ≠ b → H a = some o → H' a = some o
  cell : ∀ l, BagL H b l → BagL H' b l
  bag : BagAt H' b
theorem Rel.refl {b : Addr} {H : Hp} (h : BagAt H b) : Rel b H H := ⟨fun _ _ _ e => e, fun _ h => h, h⟩
theorem Rel.trans {b : Addr} {H H1 H2 : Hp} (r : Rel b H H1) (s : Rel b H1 H2) : Rel b H H2 := ⟨fun a o n e => s.keep a o n (r.keep a o n e), fun l h => s.cell l (r.cell l h), s.bag⟩
theorem BagAt.same {b : Addr} {H H' : Hp} (h : BagAt H b) (s : Same H H') : BagAt H' b := by
  obtain ⟨x, y, z, l, cs, h1, h2, r⟩ := h
  exact ⟨x, y, z, l, cs, s _ _ h1, s _ _ h2, r⟩
theorem BagL.same {b l : Addr} {H H' : Hp} (h : BagL H b l) (s : Same H H') : BagL H' b l := by
  obtain ⟨x, y, z, e⟩ := h
  exact ⟨x, y, z, s _ _ e⟩
theorem Rel.same {b : Addr} {H H1 H2 : Hp} (r : Rel b H H1) (s : Same H1 H2) : Rel b H H2 := ⟨fun a o n e => s a o (r.keep a o n e), fun l h => (r.cell l h).same s, r.bag.same s⟩
theorem Rel.of_same {b : Addr} {H H1 : Hp} (h : BagAt H b) (s : Same H H1) : Rel b H H1 := ⟨fun a o n e => s a o e, fun l h => h.same s, h.same s⟩
theorem Rel.fut {b : Addr} {mu : Addr → Prop} {H H' : Hp} (r : Rel b H H') (h : mu b) (hb : BagAt H b) : Fut mu H H' := fun a o e z => r.keep a o (fun q => by
  rcases z with z | z | z
  · exact z (by rw [q]; exact h)
  · obtain ⟨x, y, z', l, cs, h1, _⟩ := hb
    obtain ⟨xs, rfl⟩ := z
    rw [q, h1] at e
    cases e
  · obtain ⟨x, y, z', l, cs, h1, _⟩ := hb
    obtain ⟨ob, u, rfl⟩ := z
    rw [q, h1] at e
    cases e) e
theorem Rel.some {b : Addr} {H H' : Hp} (r : Rel b H H') {a : Addr} (h : H' a = Option.none) : H a = Option.none := by
  by_cases e : a = b
  · obtain ⟨x, y, z', l, cs, h1, _⟩ := r.bag
    rw [e, h1] at h
    cases h
  · cases q : H a with
    | none => rfl
    | some o =>
      rw [r.keep a o e q] at h
      cases h
theorem same_upd {H : Hp} {p : Addr} {o : HO} (h : H p = Option.none) : Same H (upd H p o) := fun b x e => by
  rw [upd_ne (ne_of_none e h)]
  exact e
theorem cut_mem {xs : List V} {lo hi : Option Int} {v : V} (h : v ∈ cutV xs lo hi) : v ∈ xs := by
  unfold cutV at h
  exact List.mem_of_mem_drop (List.mem_of_mem_take h)
theorem cut_len (xs : List V) (lo hi : Option Int) : (cutV xs lo hi).length ≤ xs.length := by
  unfold cutV
  rw [List.length_take, List.length_drop]
  omega
theorem head_cell {cs : List Int} (h : ∀ c ∈ cs, 0 ≤ c) (lo hi : Option Int) : ∃ c : Int, 0 ≤ c ∧ (cutV (cs.map V.int) lo hi ++ [V.int 0])[0]? = some (.int c) := by
  cases e : cutV (cs.map V.int) lo hi with
  | nil => exact ⟨0, Int.le_refl _, rfl⟩
  | cons v r =>
    have m : v ∈ cutV (cs.map V.int) lo hi := by
      rw [e]
      exact List.mem_cons_self
    obtain ⟨c, hc, rfl⟩ := List.mem_map.mp (cut_mem m)
    exact ⟨c, h c hc, rfl⟩
/-- a drawn integer from 0 to many less 1 -/
def spTake : Sp := fun vs H Q _ => ∃ (b : Addr) (many : Int), vs = [.ref b, .int many] ∧ BagAt H b ∧ 0 < many ∧ many < 1073741824 ∧ ∀ v H', 0 ≤ v → v < many → Rel b H H' → Q (.int v) H'
end Sw
/-! What an expression that draws from the bag gives as a datum (Ge exactly, Gv by a word of it). -/
namespace Sw
open PySem PySem.Spec PyProof.Rows L2

def tLstN (t : TA) : TE := fun σ H Q => t σ H fun xs H1 => xs.length ≤ sizeLine ∧ ∀ p, H1 p = none → p ≠ sysModules → Q (.ref p) (upd H1 p (.lst xs))
/-- a list display: its place is new, and not that of sys.modules -/
theorem pe_lstN {X : Cx} {es : List Expr} {t : TA} {pos : Pos} (h : PA X es t) : PE X (.List es pos) (tLstN t) :=
  ⟨fun pins s σ H Q I hq => wpAny_List_spliced (thn (h.run pos pins s σ H _ I hq) fun us s1 g => by
    obtain ⟨xs, H1, I1, r, z, q⟩ := g
    exact ⟨by rw [← r.length]; exact z, .ref s1.heap.objs.size, upd H1 s1.heap.objs.size (.lst xs), I1.laid (t' := s1.toks) (fun b u e => Heap.get?_push_of_some _ e) (Nat.le_refl _) ⟨z, us, 0, r, Heap.get?_push_size _ rfl⟩, rfl,
      q _ (I1.hok.fresh (Nat.le_refl _)) (Nat.ne_of_gt I1.big)⟩)⟩
def tDNewN : TE := fun _ H Q => ∀ p, H p = none → p ≠ sysModules → Q (.ref p) (upd H p (.dK []))
theorem pe_dnewN {X : Cx} {pos : Pos} : PE X (.Dict [] [] pos) tDNewN := ⟨fun pins s σ H Q I h =>
  wpAny_Dict_empty ⟨.ref s.heap.objs.size, _, I.laid (a := s.heap.objs.size) (o := .dK []) (t' := s.toks) (fun _ _ q => Heap.get?_push_of_some _ q) (Nat.le_refl _) (dk_empty s.heap I.big), rfl, h _ (I.hok.fresh (Nat.le_refl _)) (Nat.ne_of_gt I.big)⟩⟩
/-- what may change is tracked (or sys.modules) -/
def MuOk (mu : Addr → Prop) (H : Hp) : Prop := ∀ a, mu a → H a ≠ none ∨ a = sysModules
theorem MuOk.rel {mu : Addr → Prop} {b : Addr} {H H' : Hp} (m : MuOk mu H) (r : Rel b H H') : MuOk mu H' := fun a h => by
  rcases m a h with z | z
  · refine .inl fun e => z (r.some e)
  · exact .inr z
theorem MuOk.same {mu : Addr → Prop} {H H' : Hp} (m : MuOk mu H) (s : Same H H') : MuOk mu H' := fun a h => by
  rcases m a h with z | z
  · exact .inl fun e => z (s.free e)
  · exact .inr z
theorem MuOk.new {mu : Addr → Prop} {H : Hp} (m : MuOk mu H) {p : Addr} (n : H p = none) (s : p ≠ sysModules) : ¬ mu p := fun h => (m p h).elim (fun z => z n) s
theorem MuOk.bag {H : Hp} {b : Addr} (h : BagAt H b) : MuOk (fun a => a = b ∨ a = sysModules) H := fun a z => by
  rcases z with rfl | z
  · obtain ⟨x, y, z, l, cs, h1, _⟩ := h
    exact .inl (by rw [h1]; exact fun z => nomatch z)
  · exact .inr z

/-- a list may be changed -/
def Own (H : Hp) (v : V) (d : PyData) : Prop := (∀ ds, d = .list ds → ∃ a xs, v = .ref a ∧ H a = some (.lst xs)) ∧ (d = .dict [] → ∃ a, v = .ref a ∧ H a = some (.dK []))
theorem Own.fut {K : PySem.W.Frag} {mu : Addr → Prop} {H H' : Hp} {v : V} {d : PyData} (o : Own H v d) (h : Dt K mu H v d) (f : Fut mu H H') : Own H' v d := ⟨fun ds e => by
  subst e
  obtain ⟨a, xs, rfl, e⟩ := o.1 ds rfl
  obtain ⟨a', _, e2, n, _, _⟩ := h.lstAt
  cases e2
  exact ⟨a, xs, rfl, f a _ e (.inl n)⟩, fun e => by
  subst e
  obtain ⟨a, rfl, e⟩ := o.2 rfl
  cases h with
  | dct n _ _ => exact ⟨a, rfl, f a _ e (.inl n)⟩⟩
theorem own_not {H : Hp} {v : V} {d : PyData} (h : ∀ ds, d ≠ .list ds) (h2 : d ≠ .dict [] := by intro z; cases z) : Own H v d := ⟨fun ds e => absurd e (h ds), fun e => absurd e h2⟩
/-- .. all of them -/
def OwnA (H : Hp) (vs : List V) (ds : List PyData) : Prop := ∀ (i : Nat) (v : V) (d : PyData), vs[i]? = some v → ds[i]? = some d → Own H v d
theorem OwnA.nil {H : Hp} {ds : List PyData} : OwnA H [] ds := fun i v d e => by simp at e
theorem OwnA.cons {H : Hp} {v : V} {vs : List V} {d : PyData} {ds : List PyData} (h : Own H v d) (t : OwnA H vs ds) : OwnA H (v :: vs) (d :: ds) := fun i x y e1 e2 => by
  cases i with
  | zero =>
    cases e1
    cases e2
    exact h
  | succ i => exact t i x y (by simpa using e1) (by simpa using e2)
section
variable (K : PySem.W.Frag) (b : Addr) (mu : Addr → Prop) (σ : L2.St) (H0 : Hp)
/-- the expression gives the datum d -/
def Ge (te : TE) (d : PyData) : Prop := ∀ H, Rel b H0 H → MuOk mu H → ∀ Q : VK, (∀ v H', Rel b H H' → Dt K mu H' v d → Q v H') → te σ H Q
/-- .. a datum of which D holds -/
def Gv (te : TE) (D : PyData → Prop) : Prop := ∀ H, Rel b H0 H → MuOk mu H → ∀ Q : VK, (∀ v H' d, D d → Rel b H H' → Dt K mu H' v d → Own H' v d → Q v H') → te σ H Q
def GeA (ta : TA) (ds : List PyData) : Prop := ∀ H, Rel b H0 H → MuOk mu H → ∀ Q : List V → Hp → Prop, (∀ vs H', Rel b H H' → DtA K mu H' vs ds → Q vs H') → ta σ H Q
def GvA (ta : TA) (D : PyData → Prop) (n : Nat) : Prop := ∀ H, Rel b H0 H → MuOk mu H → ∀ Q : List V → Hp → Prop, (∀ vs H' ds, ds.length = n → (∀ d ∈ ds, D d) → Rel b H H' → DtA K mu H' vs ds → OwnA H' vs ds → Q vs H') → ta σ H Q
end
section
variable {K : PySem.W.Frag} {b : Addr} {mu : Addr → Prop} {σ : L2.St} {H0 : Hp} {te : TE} {ta tr : TA} {d : PyData} {ds : List PyData} {D : PyData → Prop} {n : Nat}
theorem Ge.gv (h : Ge K b mu σ H0 te d) (hd : D d) (hn : ∀ ds, d ≠ .list ds := by intro _ z; cases z) (hn2 : d ≠ .dict [] := by intro z; cases z) : Gv K b mu σ H0 te D := fun H hb m Q q => h H hb m Q fun v H' r e => q v H' d hd r e (own_not hn hn2)
theorem gv_lst (hm : mu b) (h : GeA K b mu σ H0 ta ds) (hl : ds.length ≤ 1000) (hd : D (.list ds)) : Gv K b mu σ H0 (tLstN ta) D := fun H hb m Q q =>
  h H hb m _ fun vs H1 r e => ⟨Nat.le_of_lt (small1000 (by rw [e.length]; exact hl)), fun p np ns => q _ _ _ hd (r.same (same_upd np)) (.lst ((m.rel r).new np ns) (.inl upd_same) (e.fut (.of_same (same_upd np)))) ⟨fun _ _ => ⟨p, vs, rfl, upd_same⟩, fun z => nomatch z⟩⟩
theorem ge_int {i : Int} : Ge K b mu σ H0 (tC (.int i)) (.int i) := fun H hb _ _ q => q _ H (.refl hb.bag) (.int i)
theorem ge_bl {i : Bool} : Ge K b mu σ H0 (tC (.bl i)) (.bool i) := fun H hb _ _ q => q _ H (.refl hb.bag) (.bl i)
theorem ge_str {i : Str} : Ge K b mu σ H0 (tC (.str i)) (.str i) := fun H hb _ _ q => q _ H (.refl hb.bag) (.str i)
theorem ge_non : Ge K b mu σ H0 (tC .non) .none := fun H hb _ _ q => q _ H (.refl hb.bag) .non
theorem ge_neg {i : Int} : Ge K b mu σ H0 (tUn (rU fun i => .int (-i)) (tC (.int i))) (.int (-i)) := fun H hb _ _ q => ⟨i, rfl, q _ H (.refl hb.bag) (.int _)⟩
theorem geA_nil : GeA K b mu σ H0 tNil [] := fun H hb _ _ q => q _ H (.refl hb.bag) .nil
theorem geA_cons (hm : mu b) (h : Ge K b mu σ H0 te d) (t : GeA K b mu σ H0 tr ds) : GeA K b mu σ H0 (tCons te tr) (d :: ds) := fun H hb m _ q =>
  h H hb m _ fun v H1 r1 e1 => t H1 (hb.trans r1) (m.rel r1) _ fun vs H2 r2 e2 => q _ H2 (r1.trans r2) (.cons (e1.fut (r2.fut hm r1.bag)) e2)
theorem gvA_nil : GvA K b mu σ H0 tNil D 0 := fun H hb _ _ q => q _ H [] rfl (fun _ z => nomatch z) (.refl hb.bag) .nil .nil
theorem gvA_cons (hm : mu b) (h : Gv K b mu σ H0 te D) (t : GvA K b mu σ H0 tr D n) : GvA K b mu σ H0 (tCons te tr) D (n + 1) := fun H hb m _ q =>
  h H hb m _ fun v H1 d hd r1 e1 o1 => t H1 (hb.trans r1) (m.rel r1) _ fun vs H2 ds hl hds r2 e2 o2 => q _ H2 (d :: ds) (by rw [List.length_cons, hl]) (fun x z => by
    rcases List.mem_cons.mp z with rfl | z
    · exact hd
    · exact hds x z) (r1.trans r2) (.cons (e1.fut (r2.fut hm r1.bag)) e2) (.cons (o1.fut e1 (r2.fut hm r1.bag)) o2)
theorem ge_tup (hm : mu b) (h : GeA K b mu σ H0 ta ds) (hl : ds.length ≤ 1000) : Ge K b mu σ H0 (tTup ta) (.tuple ds) := fun H hb m _ q =>
  h H hb m _ fun vs H1 r e => ⟨Nat.le_of_lt (small1000 (by rw [e.length]; exact hl)), fun p np => q _ _ (r.same (same_upd np)) (.tup (.inl upd_same) (e.fut (.of_same (same_upd np))))⟩
theorem ge_lst (hm : mu b) (h : GeA K b mu σ H0 ta ds) (hl : ds.length ≤ 1000) : Ge K b mu σ H0 (tLstN ta) (.list ds) := fun H hb m _ q =>
  h H hb m _ fun vs H1 r e => ⟨Nat.le_of_lt (small1000 (by rw [e.length]; exact hl)), fun p np ns => q _ _ (r.same (same_upd np)) (.lst ((m.rel r).new np ns) (.inl upd_same) (e.fut (.of_same (same_upd np))))⟩
end
theorem gv_dict {K : PySem.W.Frag} {b : Addr} {mu : Addr → Prop} {σ : L2.St} {H0 : Hp} {D : PyData → Prop} (hd : D (.dict [])) : Gv K b mu σ H0 tDNewN D := fun H hb m Q q =>
  fun p np ns => q _ _ _ hd (Rel.of_same hb.bag (same_upd np)) (.dct (m.new np ns) (.inl upd_same) .nil) ⟨(fun _ z => nomatch z), fun _ => ⟨p, rfl, upd_same⟩⟩
/-- a menu of drawn things: t is a list, one of its items comes back -/
def spSome : Sp := fun vs H Q _ => ∃ (b t : Addr) (xs : List V), vs = [.ref b, .ref t] ∧ BagAt H b ∧ t ≠ b ∧ H t = some (.lst xs) ∧ 0 < xs.length ∧ xs.length ≤ 1000 ∧ ∀ (i : Nat) v H', xs[i]? = some v → Rel b H H' → Q v H'
/-- a menu is asked -/
theorem gv_some {K : PySem.W.Frag} {b : Addr} {mu : Addr → Prop} {σ : L2.St} {H0 : Hp} {ta : TA} {D : PyData → Prop} {n i : Nat} (hm : mu b) (hσ : σ[i]? = some (some (.ref b))) (h : GvA K b mu σ H0 ta D n) (h0 : 0 < n) (h1 : n ≤ 1000) :
    Gv K b mu σ H0 (tCall spSome [] E0 (tCons (tVar i) (tCons (tLst ta) tNil))) D := fun H hb m Q q => by
  refine ⟨_, hσ, h H hb m _ fun vs H1 ds hl hD r e oo => ?_⟩
  have hv : vs.length = n := e.length.trans hl
  refine ⟨Nat.le_of_lt (small1000 (by omega)), fun p np => ?_⟩
  have nb : p ≠ b := fun z => by
    obtain ⟨x, y, z', l, cs, h1, _⟩ := r.bag
    rw [z, h1] at np
    cases np
  refine ⟨b, p, vs, rfl, r.bag.same (same_upd np), nb, upd_same, by omega, by omega, fun j v H2 hj r2 => ?_⟩
  obtain ⟨d, hd, ed⟩ := e.get hj
  have o1 := (oo j v d hj hd).fut ed (.of_same (same_upd (o := .lst vs) np))
  have r3 := r.same (same_upd (o := .lst vs) np)
  exact q v H2 d (hD d (List.mem_of_getElem? hd)) (r3.trans r2) ((ed.fut (.of_same (same_upd np))).fut (r2.fut hm r3.bag)) (o1.fut (ed.fut (.of_same (same_upd np))) (r2.fut hm r3.bag))
theorem gv_var {K : PySem.W.Frag} {b : Addr} {mu : Addr → Prop} {σ : L2.St} {H0 : Hp} {i : Nat} {v : V} {d : PyData} {D : PyData → Prop} (hm : mu b) (hb : BagAt H0 b) (hσ : σ[i]? = some (some v)) (h : Dt K mu H0 v d) (o : Own H0 v d) (hd : D d) : Gv K b mu σ H0 (tVar i) D := fun H r m Q q =>
  ⟨v, hσ, q v H d hd (.refl r.bag) (h.fut (r.fut hm hb)) (o.fut h (r.fut hm hb))⟩
/-- a menu that lies ready -/
theorem gv_someV {K : PySem.W.Frag} {b : Addr} {mu : Addr → Prop} {σ : L2.St} {H0 : Hp} {D : PyData → Prop} {i j : Nat} {t : Addr} {xs : List V} {ds : List PyData} (hm : mu b) (hb : BagAt H0 b) (hσ : σ[i]? = some (some (.ref b))) (hτ : σ[j]? = some (some (.ref t))) (ht : H0 t = some (.lst xs)) (nt : t ≠ b)
    (e : DtA K mu H0 xs ds) (o : OwnA H0 xs ds) (hD : ∀ d ∈ ds, D d) (h0 : 0 < ds.length) (h1 : ds.length ≤ 1000) : Gv K b mu σ H0 (tCall spSome [] E0 (tCons (tVar i) (tCons (tVar j) tNil))) D := fun H r m Q q => by
  have hv : xs.length = ds.length := e.length
  refine ⟨_, hσ, _, hτ, b, t, xs, rfl, r.bag, nt, r.keep _ _ nt ht, by omega, by omega, fun k v H2 hk r2 => ?_⟩
  obtain ⟨d, hd, ed⟩ := e.get hk
  have f := (r.trans r2).fut hm hb
  exact q v H2 d (hD d (List.mem_of_getElem? hd)) r2 (ed.fut f) ((o k v d hk hd).fut ed f)
/-- a def over the bag (and further arguments) gives a datum of which D holds -/
def spG (K : PySem.W.Frag) (as : List V) (D : PyData → Prop) : Sp := fun vs H Q _ => ∃ (b : Addr) (mu : Addr → Prop), vs = .ref b :: as ∧ mu b ∧ BagAt H b ∧ MuOk mu H ∧ ∀ v H' d, D d → Rel b H H' → Dt K mu H' v d → Own H' v d → Q v H'
/-- a drawn FRACTION above 0 -/
def NumP (n m : Int) : Prop := 1 ≤ n ∧ n ≤ 1000000000000 ∧ 1 ≤ m ∧ m ≤ 1000000000000 ∧ gI n m = 1
def NumD (d : PyData) : Prop := ∃ n m, d = .tuple [.int n, .int m] ∧ NumP n m
def spNum (K : PySem.W.Frag) : Sp := fun vs H Q E => ∃ most : Int, 0 < most ∧ most ≤ 100000000 ∧ spG K [.int most] NumD vs H Q E
theorem ge_num {K : PySem.W.Frag} {b : Addr} {mu : Addr → Prop} {σ : L2.St} {H0 : Hp} {i : Nat} {n : Int} (hm : mu b) (hσ : σ[i]? = some (some (.ref b))) (h0 : 0 < n) (h1 : n ≤ 100000000) :
    Gv K b mu σ H0 (tCall (spNum K) [] E0 (tCons (tVar i) (tCons (tC (.int n)) tNil))) NumD := fun H hb m Q q =>
  ⟨_, hσ, n, h0, h1, b, mu, rfl, hm, hb.bag, m, q⟩
theorem numD {n m : Int} (h : NumP n m) : NumD (.tuple [.int n, .int m]) := ⟨n, m, rfl, h⟩
theorem int_pow {n : Int} (h1 : 1 ≤ n) (h2 : n ≤ 1000000000000) : n.natAbs < 10 ^ 500 := by
  have e : (1000000000000 : Nat) < 10 ^ 500 := by decide +kernel
  omega
theorem NumD.not {H : Hp} {v : V} {d : PyData} (h : NumD d) : Own H v d := by
  obtain ⟨n, m, rfl, _⟩ := h
  exact own_not fun _ z => nomatch z
theorem numD_ok {d : PyData} (h : NumD d) : Ok d ∧ d.hasDict = false ∧ d.weight ≤ 202 ∧ d.depth = 1 := by
  obtain ⟨n, m, rfl, h1, h2, h3, h4, _⟩ := h
  have w : ∀ i : Int, 1 ≤ i → i ≤ 1000000000000 → (PyData.int i).weight ≤ 100 := fun i a b => by
    have hz : i.natAbs ≠ 0 := by omega
    have e : i.natAbs.log2 < 40 := (Nat.log2_lt hz).mpr (by omega)
    simp only [PyData.weight]
    split <;> omega
  have w1 := w n h1 h2
  have w2 := w m h3 h4
  have e1 : (PyData.tuple [.int n, .int m]).weight ≤ 202 := by
    simp only [PyData.weight, PyData.weightAll] at w1 w2 ⊢
    omega
  have e2 : (PyData.tuple [.int n, .int m]).depth = 1 := by
    simp [PyData.depth, PyData.depthAll]
  refine ⟨⟨?_, by rw [e2]; decide, by omega⟩, by simp [PyData.hasDict, PyData.hasDictAll], e1, e2⟩
  simp only [okD, okA, Bool.and_true, Bool.and_eq_true, decide_eq_true_eq]
  exact ⟨int_pow h1 h2, int_pow h3 h4⟩
end Sw
/-! Own exceptions as values: made by their own __init__, fields read, classes asked. -/
namespace Sw
open PySem PySem.Spec PyProof.Rows L2

/-- C(e, ..), an error as a value -/
def tMkV (C : Addr) (sp : Sp) (ta : TA) : TE := fun σ H Q => ta σ H fun vs H1 => vs.length ≤ 1000 ∧ ∀ a, H1 a = none → sp (.ref a :: vs) (upd H1 a (exo a C none)) (fun v H2 => v = .non ∧ Q (.ref a) H2) E0
theorem pe_exV {X : Cx} {x : Str} {C fI : Addr} {k : Nat} {fd : FuncData} {ps : List Str} {sp : Sp} {e : Expr} {es : List Expr} {ta : TA} {p pos : Pos} (T : OexC X.K C) (iC : PySem.W.findIn X.K (.ref C) "__init__" = some (some (.ref fI))) (tI : PySem.W.typeIn X.K (.ref fI) = some (.type "function"))
    (F1 : FnG X.prog X.w X.K X.mg X.base k fI fd ps sp) (g : Gd X.A) (hr : Room (k + 1) X.A) (hb : Binds X.K fd ps []) (hg : Gl X x) (hm : X.mg x = some (.ref C)) (ha : PA X (e :: es) ta)
    (hdb : (x == ("__debug__" : Str)) = false := by decide) (he : starEach (e :: es) X.env = (false, eval e X.env) :: starEach es X.env := by rfl) (hpl : (backTo pos (starEach es X.env)).any (·.1) = false := by rfl) :
    PE X (.Call (.Name x p) (e :: es) [] pos) (tMkV C sp ta) := by
  refine ⟨fun pins s σ H Q I h => ?_⟩
  obtain ⟨nm, q, N, bs, bm, sn, sub, ab, col, dd, k0, k1, k2, k3, k5, hC, hbm⟩ := T.cls
  refine wpAny_Call_Name_kw (ld_glob I hg hm ?_ hdb)
  refine PySem.W.callWith_K (h₀ := X.base) I.ok.mod.kin T.kC (thn (ha.run pos pins s σ H _ I h) fun us s1 ⟨vs, H1, I1, r1, hz, q1⟩ => ⟨I1.kIn, ?_⟩) he hpl
  show wpAny _ _ (call (.ref C) us) _ _ _
  obtain ⟨hp, g1, dr, tk, os⟩ := s1
  have hsz : hp.objs.size ≤ hp.objs.size + 1 := Nat.le_succ _
  have hn : H1 (hp.objs.size + 1) = none := I1.hok.fresh hsz
  have hq := q1 (hp.objs.size + 1) hn
  have kk : ∀ b o, hp.get? b = some o → ((hp.push (PySem.W.kdv_tup us)).push (PySem.HandSPX.excO C hp.objs.size)).get? b = some o := fun b o e => Heap.get?_push_of_some _ (Heap.get?_push_of_some _ e)
  have hget : ((hp.push (PySem.W.kdv_tup us)).push (PySem.HandSPX.excO C hp.objs.size)).get? (hp.objs.size + 1) = some (PySem.HandSPX.excO C hp.objs.size) := by heap_get
  have I2 : Inv X pins σ (upd H1 (hp.objs.size + 1) (exo (hp.objs.size + 1) C none)) ⟨(hp.push (PySem.W.kdv_tup us)).push (PySem.HandSPX.excO C hp.objs.size), g1, dr, tk, os⟩ :=
    I1.laid (t' := tk) (a := hp.objs.size + 1) (o := exo (hp.objs.size + 1) C none) (h' := (hp.push (PySem.W.kdv_tup us)).push (PySem.HandSPX.excO C hp.objs.size)) kk hsz (exo_ok hget)
  have r2 : Vals (V.ref (hp.objs.size + 1) :: vs) (Value.ref (hp.objs.size + 1) :: us) := .cons rfl r1
  have hl : (Value.ref (hp.objs.size + 1) :: us).length = ps.length := r2.length.symm.trans (F1.len _ _ _ _ hq)
  have hus : us.length ≤ sizeLine := by
    rw [← Paired.length r1, sizeLine_eq]
    omega
  have hbb := hb ⟨(hp.push (PySem.W.kdv_tup us)).push (PySem.HandSPX.excO C hp.objs.size), g1, dr, tk, os⟩ (Value.ref (hp.objs.size + 1) :: us) I2.kIn (by simpa using hl)
  rw [List.append_nil] at hbb
  refine wpAny_call (PySem.HandSPX.call_own F.excBase_ValueError (fun Y => PySem.HandSPX.refsVE_contains Y bm hbm) (I1.kIn _ _ hC) (PySem.W.looks_findIn I1.kIn iC) (fun self => PySem.W.bind_fn I1.kIn self tI) hus
    (codeAny_mono (F1.go (Gd.make g C us []) (hr.make C us []) (I2.env0.make C us []) hbb r2 hq) fun r s' hq' => ?_))
  match r, hq' with
  | .ok (.ret u), hq' =>
    obtain ⟨v, H2, I3, rv, ev, q2⟩ := I2.after hq'
    subst ev
    exact ⟨rv, .ref (hp.objs.size + 1), H2, I3, rfl, q2⟩
/-- C(), C without an own __init__ -/
def tMk0 (C : Addr) : TE := fun σ H Q => ∀ a, H a = none → Q (.ref a) (upd H a (exo a C none))
theorem pe_ex0 {X : Cx} {C : Addr} {bmB : List Value} {B newId initId : String} {x : Str} {p pos : Pos} (F : ExcBaseFacts B newId initId bmB) (q : PySem.W.excIn X.K C bmB newId = true) (gC : X.mg x = some (.ref C)) (kC : PySem.W.keepIn X.K (.ref C) = true) (hg : Gl X x)
    (hdb : (x == ("__debug__" : Str)) = false := by decide) :
    PE X (.Call (.Name x p) [] [] pos) (tMk0 C) := by
  refine ⟨fun pins s σ H Q I h => ?_⟩
  refine wpAny_Call_Name_kw (ld_glob I hg gC (PySem.W.callWith_K0 I.kIn kC ?_) hdb)
  obtain ⟨bm, N, nm, qn, bs, hdct, sn, sub, ab, col, dd, k0, k1, k2, k3, k5, mN, hC, hN, hni, T⟩ := exc_obj I.kIn q
  refine wpAny_call_exc_subT F T hC hN hni (fun h' a hm => ?_) (by show 0 ≤ sizeLine; rw [sizeLine_eq]; omega)
  have hn : H a = none := I.hok.gone hm.new
  obtain ⟨t, ht, _, _⟩ := hm.there
  exact ⟨.ref a, upd H a (exo a C none), I.laidN hm.keeps hm.new hn (exo_ok ht), rfl, h a hn⟩
/-- e.f, e an own error whose dict is known -/
def tXv (K : PySem.W.Frag) (f : Str) (te : TE) : TE := fun σ H Q => te σ H fun x H1 => ∃ (a C dx : Addr) (fs : List (Str × V)) (v : V), x = .ref a ∧ XfC K C ∧ PySem.W.findIn K (.ref C) f = some none ∧ H1 a = some (exo a C (some dx)) ∧ H1 dx = some (exd dx fs) ∧ fs.lookup f = some v ∧ Q v H1
theorem pe_xv {X : Cx} {e : Expr} {te : TE} {pos : Pos} {n : Str} (he : PE X e te) (hb : attributeBase e n X.env (eval e X.env) = eval e X.env := by rfl) :
    PE X (.Attribute e n pos) (tXv X.K n te) := by
  refine ⟨fun pins s σ H Q I h => ?_⟩
  refine attr_of hb (thn (he.run pins s σ H _ I h) fun u s1 hh => ?_)
  obtain ⟨x, H1, I1, rx, a, C, dx, fs, v, rfl, T, hno, ea, ed, l, q⟩ := hh
  obtain rfl : u = Value.ref a := rx
  obtain ⟨t1, ho⟩ := exo_at I1.hok ea
  obtain ⟨mA, hns, hr⟩ := exd_at I1.hok ed
  obtain ⟨od, hod, hl⟩ := lookIn_ns hns
  obtain ⟨u, hu, ru⟩ := RelO.some_of (v := v) (o := mA n) (by rw [← l]; exact hr n)
  have J : PySem.W.InstAt s1.heap a { cls := .ref C, dict := some dx, data := .fields #[.ref t1, .none, .none, .none, .bool false, .none] } C (some od) := ⟨ho, rfl, rfl, hod⟩
  exact HandSPX.exc_get I1.kIn J T.ga T.gg T.exC (PySem.W.findObj_own T.hdC hno rfl (by rw [hl, hu])) (handed_of ru) ⟨v, H1, I1.tok _, ru, q⟩
/-- isinstance(e, c), e an own error -/
def rIsX (K : PySem.W.Frag) : List V → Hp → VK → Prop := fun xs H Q => ∃ (a D : Addr) (dx : Option Addr) (c : V) (cv : Value) (b : Bool), xs = [.ref a, c] ∧ ExcC K D ∧ H a = some (exo a D dx) ∧ (∀ d, dx = some d → ∃ fs, H d = some (exd d fs)) ∧ (∀ u, RelV c u → u = cv) ∧ PySem.W.kitOne K (.ref D) cv = some b ∧ Q (.bl b) H
theorem call_isX {X : Cx} : CallR X (.builtin "isinstance") (rIsX X.K) := by
  intro pins s σ H xs us Q I r h
  obtain ⟨a, D, dx, c, cv, b, rfl, C, ea, hd, hcv, e, q⟩ := h
  cases r with
  | cons rx rr =>
    cases rr with
    | cons rt rr =>
      cases rr
      cases rx
      have ec := hcv _ rt
      subst ec
      obtain ⟨t1, ho⟩ := exo_at I.hok ea
      have hcl : (PySem.W.clsIn X.K D).isSome = true := by
        obtain ⟨cd, hc, _⟩ := PySem.W.any_some C.hd
        rw [hc]
        rfl
      have J : ∃ od, PySem.W.InstAt s.heap a { cls := .ref D, dict := dx, data := .fields #[.ref t1, .none, .none, .none, .bool false, .none] } D od := by
        cases dx with
        | none => exact ⟨none, ho, rfl, rfl, trivial⟩
        | some d =>
          obtain ⟨fs, ed⟩ := hd d rfl
          obtain ⟨mA, hns, _⟩ := exd_at I.hok ed
          obtain ⟨o, es, ep, e1, _⟩ := hns
          exact ⟨some o, ho, rfl, rfl, e1⟩
      obtain ⟨od, J⟩ := J
      exact PySem.W.kia_one (PySem.W.kitx_exc hcl C.hg C.hk C.hs C.ha C.hn C.ht C.hm) I.kIn J e (fun z => nomatch z) fun tk => ⟨.bl b, H, I.kept (t' := tk) fun _ _ z => z, rfl, q⟩
/-- __init__(self, y): self.f = y -/
def spInit1 (K : PySem.W.Frag) (C : Addr) (f : Str) : Sp := fun vs H Q _ => ∃ (a : Addr) (y : V), vs = [.ref a, y] ∧ H a = some (exo a C none) ∧ ∀ d, H d = none → d ≠ a → Q .non (upd (upd H d (exd d [(f, y)])) a (exo a C (some d)))
def spInit2 (K : PySem.W.Frag) (C : Addr) (f g : Str) : Sp := fun vs H Q _ => ∃ (a : Addr) (y z : V), vs = [.ref a, y, z] ∧ H a = some (exo a C none) ∧ ∀ d H', H d = none → d ≠ a → H' a = some (exo a C (some d)) → H' d = some (exd d [(g, z), (f, y)]) → (∀ b, b ≠ a → b ≠ d → H' b = H b) → Q .non H'
/-- a tuple's display, not to be looked into -/
@[irreducible] def tTupI (t : TA) : TE := tTup t
theorem pe_tupI {X : Cx} {es : List Expr} {k : Nat} {t : TA} {pos : Pos} (h : PA X es t) : PE X (.Tuple es k pos) (tTupI t) := by
  unfold tTupI
  exact pe_tup h
theorem pg_tupK {X : Cx} {K : PySem.W.Frag} {es : List Expr} {k : Nat} {t : TGs} {n : Nat} {pos : Pos} (hK : X.K = K) (hc : X.calm = true) (h : PGs X es t)
    (hn : (assignEach es X.env).length = n := by rfl) (hst : (assignEach es X.env).findIdx? (·.1) = none := by rfl) : PG X (.Tuple es k pos) (gTup K n t) := by
  subst hK
  exact pg_tup hc h hn hst
/-- the module's name x is an error class whose __init__ keeps sp -/
structure ExV (P : Program) (w : World) (K : PySem.W.Frag) (mg : Str → Option Value) (base : Heap) (x : Str) (C : Addr) (sp : Sp) : Prop where
  hm : mg x = some (.ref C)
  oex : OexC K C
  fn : ∃ (fI : Addr) (fd : FuncData) (ps : List Str), PySem.W.findIn K (.ref C) "__init__" = some (some (.ref fI)) ∧ PySem.W.typeIn K (.ref fI) = some (.type "function") ∧ FnG P w K mg base 1 fI fd ps sp ∧ Binds K fd ps []
theorem pex {X : Cx} {x : Str} {C : Addr} {j : Nat} {sp : Sp} {e : Expr} {es : List Expr} {ta : TA} {p pos : Pos} (c : ExV X.prog X.w X.K X.mg X.base x C sp) (g : Gd X.A) (hr : Room j X.A) (hk : 2 ≤ j) (hg : Gl X x) (ha : PA X (e :: es) ta)
    (hdb : (x == ("__debug__" : Str)) = false := by decide) (he : starEach (e :: es) X.env = (false, eval e X.env) :: starEach es X.env := by rfl) (hpl : (backTo pos (starEach es X.env)).any (·.1) = false := by rfl) :
    PE X (.Call (.Name x p) (e :: es) [] pos) (tMkV C sp ta) := by
  obtain ⟨fI, fd, ps, iC, tI, F, b⟩ := c.fn
  exact pe_exV c.oex iC tI F g (hr.mono hk) b hg c.hm ha hdb he hpl
/-- .. without an own __init__ -/
structure Ex0 (K : PySem.W.Frag) (mg : Str → Option Value) (x : Str) (C : Addr) : Prop where
  hm : mg x = some (.ref C)
  kC : PySem.W.keepIn K (.ref C) = true
  q : PySem.W.excIn K C [.type "ValueError", .type "Exception", .type "BaseException", .type "object"] "ValueError.__new__" = true
theorem px0 {X : Cx} {x : Str} {C : Addr} {p pos : Pos} (c : Ex0 X.K X.mg x C) (hg : Gl X x) (hdb : (x == ("__debug__" : Str)) = false := by decide) :
    PE X (.Call (.Name x p) [] [] pos) (tMk0 C) := pe_ex0 F.excBase_ValueError c.q c.hm c.kC hg hdb
end Sw
/-! Fractions in lowest terms, by integers. -/
namespace Sw
open PySem PySem.Spec PyProof.Rows L2

/-- nothing but 1 divides both -/
def Cp (a b : Int) : Prop := Nat.Coprime a.natAbs b.natAbs
theorem Cp.of {a b : Int} (h : ∀ k : Nat, (k : Int) ∣ a → (k : Int) ∣ b → k = 1) : Cp a b := by
  refine h _ ?_ ?_
  · exact Int.ofNat_dvd_left.mpr (Nat.gcd_dvd_left _ _)
  · exact Int.ofNat_dvd_left.mpr (Nat.gcd_dvd_right _ _)
theorem Cp.one {a b : Int} (c : Cp a b) {k : Nat} (h1 : (k : Int) ∣ a) (h2 : (k : Int) ∣ b) : k = 1 := by
  have h := Nat.dvd_gcd (Int.ofNat_dvd_left.mp h1) (Int.ofNat_dvd_left.mp h2)
  rw [show Nat.gcd a.natAbs b.natAbs = 1 from c] at h
  exact Nat.dvd_one.mp h
theorem Cp.symm {a b : Int} (h : Cp a b) : Cp b a := Nat.Coprime.symm h
theorem Cp.left {a b c : Int} (h : Cp a b) (d : c ∣ a) : Cp c b := .of fun _ h1 h2 => h.one (Int.dvd_trans h1 d) h2
theorem Cp.right {a b c : Int} (h : Cp a b) (d : c ∣ b) : Cp a c := (h.symm.left d).symm
theorem Cp.mul {a b c : Int} (h1 : Cp a b) (h2 : Cp a c) : Cp a (b * c) := by
  unfold Cp
  rw [Int.natAbs_mul]
  exact Nat.Coprime.mul_right h1 h2
theorem Cp.mulL {a b c : Int} (h1 : Cp a c) (h2 : Cp b c) : Cp (a * b) c := (h1.symm.mul h2.symm).symm
theorem Cp.add {a b k : Int} (h : Cp a b) : Cp (a + k * b) b := .of fun j h1 h2 => by
  have h3 : (j : Int) ∣ k * b := Int.dvd_trans h2 (Int.dvd_mul_left k b)
  have h4 : (j : Int) ∣ (a + k * b) - k * b := Int.dvd_sub h1 h3
  rw [Int.add_sub_cancel] at h4
  exact h.one h4 h2
theorem Cp.neg {a b : Int} (h : Cp a b) : Cp (-a) b := by
  unfold Cp
  rw [Int.natAbs_neg]
  exact h
theorem Cp.dvd {a b c : Int} (h : Cp a b) (d : a ∣ b * c) : a ∣ c := by
  rw [← Int.natAbs_dvd_natAbs] at d ⊢
  rw [Int.natAbs_mul] at d
  exact Nat.Coprime.dvd_of_dvd_mul_left h d
theorem gI_cp {a b : Int} : gI a b = 1 ↔ Cp a b := by
  unfold gI Cp Nat.Coprime
  omega
theorem gI_dvd (a b : Int) : gI a b ∣ a ∧ gI a b ∣ b := ⟨Int.ofNat_dvd_left.mpr (Nat.gcd_dvd_left _ _), Int.ofNat_dvd_left.mpr (Nat.gcd_dvd_right _ _)⟩
theorem gI_pos {a b : Int} (h : b ≠ 0) : 0 < gI a b := by
  have : 0 < Nat.gcd a.natAbs b.natAbs := Nat.gcd_pos_of_pos_right _ (by omega)
  unfold gI
  omega
/-- by the common divisor, nothing common is left -/
theorem cp_div {a b : Int} (h : b ≠ 0) : Cp (a / gI a b) (b / gI a b) := by
  have g := gI_pos (a := a) h
  obtain ⟨⟨x, hx⟩, y, hy⟩ := gI_dvd a b
  have ex : a / gI a b = x := Int.ediv_eq_of_eq_mul_right (by omega) hx
  have ey : b / gI a b = y := Int.ediv_eq_of_eq_mul_right (by omega) hy
  rw [ex, ey]
  have e1 : x.natAbs = a.natAbs / Nat.gcd a.natAbs b.natAbs := by
    have := congrArg Int.natAbs hx
    rw [Int.natAbs_mul] at this
    unfold gI at this g
    rw [Int.natAbs_natCast] at this
    exact (Nat.div_eq_of_eq_mul_right (by omega) this).symm
  have e2 : y.natAbs = b.natAbs / Nat.gcd a.natAbs b.natAbs := by
    have := congrArg Int.natAbs hy
    rw [Int.natAbs_mul] at this
    unfold gI at this g
    rw [Int.natAbs_natCast] at this
    exact (Nat.div_eq_of_eq_mul_right (by omega) this).symm
  unfold Cp
  rw [e1, e2]
  exact Nat.coprime_div_gcd_div_gcd (Nat.gcd_pos_of_pos_right _ (by omega))
/-- a FRACTION -/
structure Fr (n d : Int) : Prop where
  pos : 0 < d
  cp : Cp n d
theorem fr_eq {n d p q : Int} (h1 : Fr n d) (h2 : Fr p q) (e : n * q = p * d) : n = p ∧ d = q := by
  have a : d ∣ q := h1.cp.symm.dvd (by rw [e]; exact Int.dvd_mul_left p d)
  have b : q ∣ d := h2.cp.symm.dvd (by rw [← e]; exact Int.dvd_mul_left n q)
  have c : d = q := Int.dvd_antisymm (Int.le_of_lt h1.pos) (Int.le_of_lt h2.pos) a b
  subst c
  exact ⟨Int.eq_of_mul_eq_mul_right (by have := h1.pos; omega) e, rfl⟩
theorem redI_fr {x y : Int} (h : y ≠ 0) : Fr (redI x y).1 (redI x y).2 ∧ (redI x y).1 * y = x * (redI x y).2 := by
  have g := gI_pos (a := x) h
  obtain ⟨⟨a, ha⟩, b, hb⟩ := gI_dvd x y
  have ex : x / gI x y = a := Int.ediv_eq_of_eq_mul_right (by omega) ha
  have ey : y / gI x y = b := Int.ediv_eq_of_eq_mul_right (by omega) hb
  have c := cp_div (a := x) h
  rw [ex, ey] at c
  have cross : a * y = x * b := by
    generalize gI x y = k at ha hb
    subst ha hb
    simp only [Int.mul_left_comm, Int.mul_comm]
  unfold redI
  rw [sh_eq h]
  by_cases hy : y < 0
  · rw [if_pos hy, Int.neg_ediv_of_dvd (gI_dvd x y).1, Int.neg_ediv_of_dvd (gI_dvd x y).2, ex, ey]
    refine ⟨⟨?_, ?_⟩, ?_⟩
    · show 0 < -b
      have : b < 0 := by
        rcases Int.lt_or_le b 0 with z | z
        · exact z
        · have := Int.mul_nonneg (Int.le_of_lt g) z
          omega
      omega
    · show Cp (-a) (-b)
      exact (c.neg.symm.neg).symm
    · show -a * y = x * -b
      rw [Int.neg_mul, Int.mul_neg, cross]
  · rw [if_neg hy, ex, ey]
    refine ⟨⟨?_, c⟩, cross⟩
    show 0 < b
    rcases Int.lt_or_le 0 b with z | z
    · exact z
    · have := Int.mul_nonneg (Int.le_of_lt g) (show 0 ≤ -b by omega)
      rw [Int.mul_neg] at this
      omega
theorem redI_eq {x y p q : Int} (h : y ≠ 0) (f : Fr p q) (e : x * q = p * y) : redI x y = (p, q) := by
  obtain ⟨h1, h2⟩ := redI_fr (x := x) h
  have key : (redI x y).1 * q = p * (redI x y).2 := by
    have e3 : ((redI x y).1 * q) * y = (p * (redI x y).2) * y := by
      calc ((redI x y).1 * q) * y = ((redI x y).1 * y) * q := by rw [Int.mul_assoc, Int.mul_comm q y, ← Int.mul_assoc]
        _ = (x * (redI x y).2) * q := by rw [h2]
        _ = (x * q) * (redI x y).2 := by rw [Int.mul_assoc, Int.mul_comm (redI x y).2 q, ← Int.mul_assoc]
        _ = (p * y) * (redI x y).2 := by rw [e]
        _ = (p * (redI x y).2) * y := by rw [Int.mul_assoc, Int.mul_comm y, ← Int.mul_assoc]
    exact Int.eq_of_mul_eq_mul_right h e3
  obtain ⟨a, b⟩ := fr_eq h1 f key
  exact Prod.ext a b
/-- the program's own sum is in lowest terms -/
theorem add_red {n d m e : Int} (h1 : Fr n d) (h2 : Fr m e) : redI (n * e + m * d) (d * e) =
    ((n * (e / gI d e) + m * (d / gI d e)) / gI (n * (e / gI d e) + m * (d / gI d e)) (gI d e), d / gI d e * (e / gI (n * (e / gI d e) + m * (d / gI d e)) (gI d e))) := by
  have he : e ≠ 0 := by have := h2.pos; omega
  have hd : d ≠ 0 := by have := h1.pos; omega
  have gp := gI_pos (a := d) he
  have hdvd := gI_dvd d e
  have hc := cp_div (a := d) he
  obtain ⟨d1, ed⟩ := hdvd.1
  obtain ⟨e1, ee⟩ := hdvd.2
  have qd : d / gI d e = d1 := Int.ediv_eq_of_eq_mul_right (by omega) ed
  have qe : e / gI d e = e1 := Int.ediv_eq_of_eq_mul_right (by omega) ee
  rw [qd, qe] at hc ⊢
  generalize hg : gI d e = c at *
  have hc0 : c ≠ 0 := by omega
  -- part and what it shares with c
  have lp := gI_pos (a := n * e1 + m * d1) hc0
  have ldv := gI_dvd (n * e1 + m * d1) c
  have lcp := cp_div (a := n * e1 + m * d1) hc0
  obtain ⟨p, ep⟩ := ldv.1
  obtain ⟨r, er⟩ := ldv.2
  have qp : (n * e1 + m * d1) / gI (n * e1 + m * d1) c = p := Int.ediv_eq_of_eq_mul_right (by omega) ep
  have qr : c / gI (n * e1 + m * d1) c = r := Int.ediv_eq_of_eq_mul_right (by omega) er
  rw [qp, qr] at lcp
  rw [qp]
  generalize hl : gI (n * e1 + m * d1) c = l at *
  have ee2 : e = l * (r * e1) := by rw [ee, er, Int.mul_assoc]
  have qe2 : e / l = r * e1 := Int.ediv_eq_of_eq_mul_right (by omega) ee2
  rw [qe2]
  have d1p : 0 < d1 := by
    have := h1.pos
    rcases Int.lt_or_le 0 d1 with z | z
    · exact z
    · have := Int.mul_nonneg (Int.le_of_lt gp) (show 0 ≤ -d1 by omega)
      rw [Int.mul_neg] at this
      omega
  have rp : 0 < r * e1 := by
    have := h2.pos
    rcases Int.lt_or_le 0 (r * e1) with z | z
    · exact z
    · have := Int.mul_nonneg (Int.le_of_lt lp) (show 0 ≤ -(r * e1) by omega)
      rw [Int.mul_neg] at this
      omega
  have pd : p ∣ n * e1 + m * d1 := by rw [ep]; exact Int.dvd_mul_left l p
  have c1 : Cp p d1 := ((Cp.add (k := m) ((h1.cp.right (by rw [ed]; exact Int.dvd_mul_left c d1)).mulL hc.symm)).left pd)
  have c2 : Cp p e1 := by
    refine Cp.left (a := m * d1 + n * e1) (Cp.add (k := n) ((h2.cp.right (by rw [ee]; exact Int.dvd_mul_left c e1)).mulL hc)) ?_
    rw [Int.add_comm]
    exact pd
  refine redI_eq (Int.mul_ne_zero hd he) ⟨Int.mul_pos d1p rp, c1.mul (lcp.mul c2)⟩ ?_
  have e4 : n * e + m * d = c * (l * p) := by
    rw [← ep]
    conv =>
      lhs
      rw [ee, ed]
    rw [Int.mul_add, Int.mul_left_comm, Int.mul_left_comm c m]
  rw [e4]
  conv =>
    rhs
    rw [ed, ee2]
  simp only [Int.mul_assoc, Int.mul_comm, Int.mul_left_comm]
/-- .. its product -/
theorem mul_red {n d m e : Int} (h1 : Fr n d) (h2 : Fr m e) : redI (n * m) (d * e) = (n / gI n e * (m / gI m d), d / gI m d * (e / gI n e)) := by
  have he : e ≠ 0 := by have := h2.pos; omega
  have hd : d ≠ 0 := by have := h1.pos; omega
  have g1 := gI_pos (a := n) he
  have g2 := gI_pos (a := m) hd
  have k1 := cp_div (a := n) he
  have k2 := cp_div (a := m) hd
  have v1 := gI_dvd n e
  have v2 := gI_dvd m d
  generalize gI n e = l at *
  generalize gI m d = r at *
  obtain ⟨n1, en⟩ := v1.1
  obtain ⟨e1, ee⟩ := v1.2
  obtain ⟨m1, em⟩ := v2.1
  obtain ⟨d1, ed⟩ := v2.2
  rw [Int.ediv_eq_of_eq_mul_right (by omega) en, Int.ediv_eq_of_eq_mul_right (by omega) ee] at *
  rw [Int.ediv_eq_of_eq_mul_right (by omega) em, Int.ediv_eq_of_eq_mul_right (by omega) ed] at *
  have d1p : 0 < d1 := by
    have := h1.pos
    rcases Int.lt_or_le 0 d1 with z | z
    · exact z
    · have := Int.mul_nonneg (Int.le_of_lt g2) (show 0 ≤ -d1 by omega)
      rw [Int.mul_neg] at this
      omega
  have e1p : 0 < e1 := by
    have := h2.pos
    rcases Int.lt_or_le 0 e1 with z | z
    · exact z
    · have := Int.mul_nonneg (Int.le_of_lt g1) (show 0 ≤ -e1 by omega)
      rw [Int.mul_neg] at this
      omega
  have n1n : n1 ∣ n := by rw [en]; exact Int.dvd_mul_left l n1
  have m1m : m1 ∣ m := by rw [em]; exact Int.dvd_mul_left r m1
  have d1d : d1 ∣ d := by rw [ed]; exact Int.dvd_mul_left r d1
  have e1e : e1 ∣ e := by rw [ee]; exact Int.dvd_mul_left l e1
  refine redI_eq (Int.mul_ne_zero hd he) ⟨Int.mul_pos d1p e1p, Cp.mulL (((h1.cp.left n1n).right d1d).mul k1) (k2.mul ((h2.cp.left m1m).right e1e))⟩ ?_
  conv =>
    lhs
    rw [en, em]
  conv =>
    rhs
    rw [ed, ee]
  simp only [Int.mul_assoc, Int.mul_comm, Int.mul_left_comm]
/-- // by what is not 0 -/
def CDivA (_ j : Int) : Prop := j ≠ 0 ∧ j.natAbs.log2 < 9000
theorem op_fdivA {X : Cx} : OpR X (binaryOp .FloorDiv) (rI CDivA fun i j => .int (i.fdiv j)) := opI fun _ _ _ _ _ _ _ hc q => floordiv_int hc.1 q (.inl (PyProof.noPylong_of_log2 hc.2))
theorem log_lt {j : Int} (h : j.natAbs < 2 ^ 8000) : j.natAbs.log2 < 9000 := Nat.lt_of_lt_of_le (PySem.Flt.log2_lt_of (by decide) h) (by decide)
theorem mulW {i j : Int} (h1 : i.natAbs < 2 ^ 8000) (h2 : j.natAbs < 2 ^ 8000) : CMulW i j := wide_mul h1 h2 (by decide) (by decide) (by decide)
theorem divW {i j : Int} (h0 : 0 < j) (h1 : j.natAbs < 2 ^ 8000) : CDivW i j := wide_div h0 h1 (by decide) (by decide)
theorem gI_le {a b : Int} (h : b ≠ 0) : (gI a b).natAbs ≤ b.natAbs := by
  unfold gI
  rw [Int.natAbs_natCast]
  exact Nat.le_of_dvd (by omega) (Nat.gcd_dvd_right _ _)
theorem div_le {a c : Int} : (a / c).natAbs ≤ a.natAbs := Int.natAbs_ediv_le_natAbs a c
theorem natAbs_lt_mul {i j : Int} {a b : Nat} (h1 : i.natAbs < 2 ^ a) (h2 : j.natAbs < 2 ^ b) : (i * j).natAbs < 2 ^ (a + b) := wide_lt h1 h2
theorem natAbs_lt_add {i j : Int} {a : Nat} (h1 : i.natAbs < 2 ^ a) (h2 : j.natAbs < 2 ^ a) : (i + j).natAbs < 2 ^ (a + 1) := by
  rw [Nat.pow_succ]
  omega
theorem red_fdiv {n d : Int} (h : d ≠ 0) : (n.fdiv (if d < 0 then -gI n d else gI n d), d.fdiv (if d < 0 then -gI n d else gI n d)) = redI n d := by
  have g := gI_pos (a := n) h
  obtain ⟨g1, g2⟩ := gI_dvd n d
  unfold redI
  rw [sh_eq h]
  by_cases hd : d < 0
  · rw [if_pos hd, if_pos hd, Int.fdiv_eq_ediv_of_dvd (Int.neg_dvd.mpr g1), Int.fdiv_eq_ediv_of_dvd (Int.neg_dvd.mpr g2), Int.ediv_neg, Int.ediv_neg, Int.neg_ediv_of_dvd g1, Int.neg_ediv_of_dvd g2]
  · rw [if_neg hd, if_neg hd, Int.fdiv_eq_ediv_of_dvd g1, Int.fdiv_eq_ediv_of_dvd g2]
/-- a couple of integers stands at v -/
def Cpl (K : PySem.W.Frag) (H : Hp) (v : V) (n d : Int) : Prop := ∃ a, v = .ref a ∧ SqT K H a [.int n, .int d]
theorem Cpl.same {K : PySem.W.Frag} {H H' : Hp} {v : V} {n d : Int} (h : Cpl K H v n d) (s : Same H H') : Cpl K H' v n d := by
  obtain ⟨a, rfl, r⟩ := h
  exact ⟨a, rfl, s.seqT r⟩
theorem Cpl.mk {K : PySem.W.Frag} {H : Hp} {p : Addr} {n d : Int} (h : H p = some (.tup [.int n, .int d])) : Cpl K H (.ref p) n d := ⟨p, rfl, .inl (.inl h)⟩
/-- a new couple -/
def Res (Q : VK) (H : Hp) (r : Int × Int) : Prop := ∀ p H', Same H H' → H p = none → H' p = some (.tup [.int r.1, .int r.2]) → Q (.ref p) H'
theorem Res.now {Q : VK} {H H' : Hp} {r : Int × Int} {x y : Int} (h : Res Q H r) (s : Same H H') (e : r = (x, y)) : ∀ p, H' p = none → Q (.ref p) (upd H' p (.tup [.int x, .int y])) := fun p np => by
  subst e
  refine h p _ (s.trans (same_upd np)) ?_ upd_same
  cases z : H p with
  | none => rfl
  | some o =>
    rw [s _ _ z] at np
    cases np
theorem redI_neg {x y : Int} (h : y ≠ 0) : redI (-x) (-y) = redI x y := by
  obtain ⟨f, e⟩ := redI_fr (x := x) h
  have z := redI_eq (x := -x) (y := -y) (p := (redI x y).1) (q := (redI x y).2) (by omega) f (by rw [Int.neg_mul, Int.mul_neg, e])
  rw [z]
theorem Fr.flip {n d : Int} (h : Fr n d) (p : 0 < n) : Fr d n := ⟨p, h.cp.symm⟩
theorem Fr.flipN {n d : Int} (h : Fr n d) (p : n < 0) : Fr (-d) (-n) := ⟨by omega, h.cp.neg.symm.neg⟩
theorem Fr.neg {n d : Int} (h : Fr n d) : Fr (-n) d := ⟨h.pos, h.cp.neg⟩
theorem redI_le {x y : Int} (h : y ≠ 0) : (redI x y).1.natAbs ≤ x.natAbs ∧ (redI x y).2.natAbs ≤ y.natAbs := by
  unfold redI
  split
  · refine ⟨?_, ?_⟩
    · have := div_le (a := -x) (c := sh x y)
      rw [Int.natAbs_neg] at this
      exact this
    · have := div_le (a := -y) (c := sh x y)
      rw [Int.natAbs_neg] at this
      exact this
  · exact ⟨div_le, div_le⟩
theorem Cpl.fut {K : PySem.W.Frag} {mu : Addr → Prop} {H H' : Hp} {v : V} {n d : Int} (h : Cpl K H v n d) (f : Fut mu H H') : Cpl K H' v n d := by
  obtain ⟨a, rfl, (r | ⟨o, r⟩) | r⟩ := h
  · exact ⟨a, rfl, .inl (.inl (f _ _ r (.inr (.inl ⟨_, rfl⟩))))⟩
  · exact ⟨a, rfl, .inl (.inr ⟨o, f _ _ r (.inr (.inr ⟨_, _, rfl⟩))⟩)⟩
  · exact ⟨a, rfl, .inr r⟩
theorem Cpl.dt {K : PySem.W.Frag} {mu : Addr → Prop} {H : Hp} {v : V} {n d : Int} (h : Cpl K H v n d) : Dt K mu H v (.tuple [.int n, .int d]) := by
  obtain ⟨a, rfl, (r | ⟨o, r⟩) | r⟩ := h
  · exact .tup (.inl r) (.cons (.int _) (.cons (.int _) .nil))
  · exact .tup (.inr ⟨o, r⟩) (.cons (.int _) (.cons (.int _) .nil))
  · exact .tupK r (.cons (.int _) (.cons (.int _) .nil))
theorem Dt.cpl {K : PySem.W.Frag} {mu : Addr → Prop} {H : Hp} {v : V} {n d : Int} (h : Dt K mu H v (.tuple [.int n, .int d])) : Cpl K H v n d := by
  obtain ⟨a, xs, rfl, r, ha⟩ := h.tupAt
  obtain ⟨x, y, p, q, rfl, e, h1, h2⟩ := ha.two rfl
  cases e
  cases h1
  cases h2
  exact ⟨a, rfl, r⟩
/-- a row of couples -/
def RowF (K : PySem.W.Frag) (H : Hp) : List V → List (Int × Int) → Prop
  | [], [] => True
  | v :: vs, f :: fs => Cpl K H v f.1 f.2 ∧ RowF K H vs fs
  | _, _ => False
theorem RowF.fut {K : PySem.W.Frag} {mu : Addr → Prop} {H H' : Hp} (f : Fut mu H H') : ∀ {vs : List V} {fs : List (Int × Int)}, RowF K H vs fs → RowF K H' vs fs
  | [], [], _ => True.intro
  | v :: vs, g :: fs, h => ⟨h.1.fut f, RowF.fut f h.2⟩
  | [], _ :: _, h => h.elim
  | _ :: _, [], h => h.elim
theorem RowF.same {K : PySem.W.Frag} {H H' : Hp} {vs : List V} {fs : List (Int × Int)} (h : RowF K H vs fs) (s : Same H H') : RowF K H' vs fs := h.fut (mu := fun _ => False) (.of_same s)
theorem RowF.len {K : PySem.W.Frag} {H : Hp} : ∀ {vs : List V} {fs : List (Int × Int)}, RowF K H vs fs → vs.length = fs.length
  | [], [], _ => rfl
  | v :: vs, g :: fs, h => by rw [List.length_cons, List.length_cons, RowF.len h.2]
  | [], _ :: _, h => h.elim
  | _ :: _, [], h => h.elim
theorem RowF.get {K : PySem.W.Frag} {H : Hp} : ∀ {vs : List V} {fs : List (Int × Int)} {i : Nat} {v : V}, RowF K H vs fs → vs[i]? = some v → ∃ f, fs[i]? = some f ∧ Cpl K H v f.1 f.2
  | [], [], _, _, _, e => by simp at e
  | x :: vs, g :: fs, 0, _, h, e => by
    simp at e
    subst e
    exact ⟨g, rfl, h.1⟩
  | x :: vs, g :: fs, i + 1, v, h, e => by
    obtain ⟨f, h1, h2⟩ := RowF.get (i := i) h.2 (by simpa using e)
    exact ⟨f, by simpa using h1, h2⟩
  | [], _ :: _, _, _, h, _ => h.elim
  | _ :: _, [], _, _, h, _ => h.elim
theorem RowF.getD {K : PySem.W.Frag} {H : Hp} {vs : List V} {fs : List (Int × Int)} {i : Nat} {f : Int × Int} (h : RowF K H vs fs) (e : fs[i]? = some f) : ∃ v, vs[i]? = some v ∧ Cpl K H v f.1 f.2 := by
  have hi : i < vs.length := by rw [h.len]; exact (List.getElem?_eq_some_iff.mp e).1
  obtain ⟨g, h1, h2⟩ := h.get (List.getElem?_eq_getElem hi)
  rw [e] at h1
  cases h1
  exact ⟨_, List.getElem?_eq_getElem hi, h2⟩
theorem RowF.ins {K : PySem.W.Frag} {H : Hp} {v : V} {g : Int × Int} (hv : Cpl K H v g.1 g.2) : ∀ {vs : List V} {fs : List (Int × Int)} (i : Nat), RowF K H vs fs → RowF K H (vs.take i ++ v :: vs.drop i) (fs.take i ++ g :: fs.drop i)
  | vs, fs, 0, h => ⟨hv, h⟩
  | [], [], i + 1, _ => ⟨hv, True.intro⟩
  | x :: vs, f :: fs, i + 1, h => ⟨h.1, RowF.ins hv i h.2⟩
  | [], _ :: _, _ + 1, h => h.elim
  | _ :: _, [], _ + 1, h => h.elim
theorem RowF.dt {K : PySem.W.Frag} {mu : Addr → Prop} {H : Hp} : ∀ {vs : List V} {fs : List (Int × Int)}, RowF K H vs fs → DtA K mu H vs (fs.map fun f => .tuple [.int f.1, .int f.2])
  | [], [], _ => .nil
  | v :: vs, g :: fs, h => .cons h.1.dt (RowF.dt h.2)
  | [], _ :: _, h => h.elim
  | _ :: _, [], h => h.elim
theorem fut_at {H : Hp} {a : Addr} {xs : List V} {o' : HO} (ha : H a = some (.lst xs)) : Fut (fun b => b = a) H (upd H a o') := fun c o e z => by
  have nb : c ≠ a := fun q => by
    rcases z with z | ⟨ys, rfl⟩ | ⟨ob, u, rfl⟩
    · exact z q
    · rw [q, ha] at e
      cases e
    · rw [q, ha] at e
      cases e
  rw [upd_ne nb]
  exact e
theorem shaped_cpl (a b : Int) : SeqAt.shaped (.tuple [.int a, .int b]) = true := by
  simp [SeqAt.shaped, PyData.canLay0, PyData.canLayAll0, PyData.depth, PyData.depthAll]
theorem eqv_cpl (a b c d : Int) : PyData.eqv (.tuple [.int a, .int b]) (.tuple [.int c, .int d]) = decide ((a, b) = (c, d)) := by
  simp only [PyData.eqv, PyData.eqvAll, Bool.and_true, Prod.mk.injEq]
  by_cases h1 : a = c <;> by_cases h2 : b = d <;> simp [h1, h2]
/-- what was not there at first may change as it likes -/
theorem Rel.at {b p : Addr} {H H' : Hp} {o : HO} (R : Rel b H H') (hb : BagAt H b) (np : H p = none) : Rel b H (upd H' p o) := by
  obtain ⟨x0, y0, z0, l0, cs0, hb0, hl0, _⟩ := id hb
  have npb : p ≠ b := fun z => by
    rw [z, hb0] at np
    cases np
  refine ⟨fun a u n e => ?_, fun l hL => ?_, ?_⟩
  · rw [upd_ne (ne_of_none e np)]
    exact R.keep a u n e
  · obtain ⟨x, y, z, e⟩ := R.cell l hL
    exact ⟨x, y, z, by rw [upd_ne npb.symm]; exact e⟩
  · obtain ⟨x, y, z, l, cs, q1, q2, q3, q4⟩ := R.bag
    have el : l0 = l := (R.cell l0 ⟨_, _, _, hb0⟩).eq q1
    have e : l ≠ p := fun e => by
      rw [el, e, np] at hl0
      cases hl0
    exact ⟨x, y, z, l, cs, by rw [upd_ne npb.symm]; exact q1, by rw [upd_ne e]; exact q2, q3, q4⟩
theorem RowF.snoc {K : PySem.W.Frag} {H : Hp} {v : V} {g : Int × Int} (hv : Cpl K H v g.1 g.2) : ∀ {vs : List V} {fs : List (Int × Int)}, RowF K H vs fs → RowF K H (vs ++ [v]) (fs ++ [g])
  | [], [], _ => ⟨hv, True.intro⟩
  | x :: vs, f :: fs, h => ⟨h.1, RowF.snoc hv h.2⟩
  | [], _ :: _, h => h.elim
  | _ :: _, [], h => h.elim
end Sw
/-! sep.join(reversed(a list of texts)). -/
namespace Sw
open PySem PySem.Spec PyProof.Rows L2
section
variable {prog : Program} {w : World} {A : Around} {E : Value → Shared → Prop} {s : Shared}
theorem join_rev {x : Str} {t : Tok} {it l : Addr} {items : Array Value} {ys : List Str} {Q : Value → Shared → Prop} (hh : A.handled = none) (hit : s.heap.IsRevIter it l ((items.size : Int) - 1)) (hl : s.heap.IsList l items) (hne : l ≠ it) (hn : items.size ≤ sizeLine)
    (hP : ∀ acc : Array Value, ItemsOf (fun i v => items[items.size - 1 - i]? = some v) acc items.size → StrsAre acc.toList ys) (hok : (ys.map (·.length)).sum + ys.length * x.length ≤ 16777216)
    (hq : ∀ (h' : Heap), (∀ b o, b ≠ it → s.heap.get? b = some o → h'.get? b = some o) → ∀ (t' : Tok) (k : Nat), Q (.str (Txt.join x ys) t') { s with heap := h', toks := k }) :
    wpAny (model prog w) A (call (.builtin "str.join") [.str x t, .ref it]) Q E s := by
  refine wpAny_call (codeAny_call_builtin F.slot_str_join.plain F.entry_str_join (F.slot_str_join.check _ _ _ _ _ _ _ _ (typeIs_str _ _ _) (F.args_str_join_2 _ _) ?_))
  rw [join_tree_other]
  refine wpAny_bind (wpAny_typeOf hit.typeIs ?_)
  show wpAny _ A.in1 ((pyIter (.ref it)).tryCatch _ >>= fun i => collect i >>= fun zs => joinTail x zs) _ _ s
  refine wpAny_bind (wpAny_tryCatch (wpAny_pyIter_revIter hit ?_))
  have hh1 : A.in1.handled = none := hh
  refine wpAny_bind (RT.collect_rev hh1 hit hl hne hn fun h' tk acc hk hacc => ?_)
  obtain ⟨zs, hz, ht⟩ := strsAre_values (hP acc hacc)
  subst ht
  rw [hz]
  have ok2 := joinOk_of hok
  unfold JoinOk at ok2
  rw [Bool.not_eq_true'] at ok2
  have g : Gives (joinTail x (strValues zs)) (joinMade x zs) := by
    rcases zs with _ | ⟨p, _ | ⟨q, r⟩⟩
    all_goals exact gives_joinTail x _ ok2
  exact g prog w A (wants Q E) _ (post_join zs ⟨joinFit_length ok2, hq h' hk⟩)
end
/-- sep.join(reversed(e)) -/
def tJoinRev (K : PySem.W.Frag) (x : Str) (te : TE) : TE := fun σ H Q => te σ H fun v H1 => ∃ (a : Addr) (ys : List Str), v = .ref a ∧ SqL K H1 a (ys.map V.str) ∧ (ys.map (·.length)).sum + ys.length * x.length ≤ 16777216 ∧ Q (.str (Txt.join x ys.reverse)) H1
theorem pe_joinRev {X : Cx} {x : Str} {e : Expr} {te : TE} {u0 : Nat} {pc0 apos pos p2 pos2 : Pos} (hc : X.calm = true) (hg2 : Gl X "reversed") (hm2 : X.mg "reversed" = none) (he : PE X e te)
    (hs : starEach [e] X.env = (false, eval e X.env) :: starEach [] X.env := by rfl)
    (hs2 : starEach [.Call (.Name "reversed" p2) [e] [] pos2] X.env = [(false, eval (.Call (.Name "reversed" p2) [e] [] pos2) X.env)] := by rfl)
    (hbase : attributeBase (.Constant (.str x) u0 pc0) "join" X.env (eval (.Constant (.str x) u0 pc0) X.env) = eval (.Constant (.str x) u0 pc0) X.env := by rfl) (hline : (apos.endLine == pos.line) = true := by rfl) :
    PE X (.Call (.Attribute (.Constant (.str x) u0 pc0) "join" apos) [.Call (.Name "reversed" p2) [e] [] pos2] [] pos) (tJoinRev X.K x te) := by
  refine ⟨fun pins s σ H Q I h => ?_⟩
  refine PySem.Call_method1 hbase hs2 hline (thn (pe_str.run pins s σ H (fun v H1 => v = .str x ∧ H1 = H) I ⟨rfl, rfl⟩) fun v s1 ⟨x1, H1, I1, r1, q1⟩ => ?_)
  obtain ⟨rfl, rfl⟩ := q1
  obtain ⟨t, rfl⟩ := _root_.id r1
  refine ⟨"str", _, F.plainAttrs_str, F.slot_str_join, F.type_str_join, typeIs_str _ _ _, (fun _ e => nomatch e), Calls.callWith_builtin rfl (Calls.evalArgs_plain (Calls.spliced_cons ?_))⟩
  refine Call_ (ld_blt I1 hg2 hm2 PyProof.Rows.boot_reversed (PyProof.Rows.callWith_type1 (args_cons (thn (he.run pins s1 σ H1 _ I1 h) fun u s2 ⟨v, H2, I2, r2, q2⟩ => args_nil ?_) hs) hs rfl))
  obtain ⟨a, ys, rfl, hq, hz, q⟩ := q2
  obtain rfl : u = Value.ref a := r2
  obtain ⟨its, rv, p', hsz⟩ := I2.list hq
  refine call_reversed_list p'.isList ?_
  have k0 : ∀ b o, s2.heap.get? b = some o → (s2.heap.push (revObj a ((its.toArray.size : Int) - 1))).get? b = some o := fun b o e => Heap.get?_push_of_some _ e
  have I3 : Inv X pins σ H2 { s2 with heap := s2.heap.push (revObj a ((its.toArray.size : Int) - 1)) } := I2.kept (t' := s2.toks) k0
  obtain ⟨f0, f1, f2, f3, f4, f5⟩ := I2.fpOk (H' := H2) (b := s2.heap.objs.size) (Nat.le_refl _) (I2.hok.fresh (Nat.le_refl _))
  have hl := p'.isList
  obtain ⟨ol, hol, _⟩ := id hl
  have hne : a ≠ s2.heap.objs.size := Nat.ne_of_lt (Heap.lt_size hol)
  have hn : its.toArray.size ≤ sizeLine := by rw [List.size_toArray, ← rv.length]; exact hsz
  refine Calls.spliced_nil ?_
  refine join_rev (s := { s2 with heap := s2.heap.push (revObj a ((its.toArray.size : Int) - 1)) }) (ys := ys.reverse) (I2.ok.hd hc) ⟨_, Heap.get?_push_size _ rfl, rfl, rfl⟩ (hl.push _) hne hn (fun acc hacc => ?_) ?_ fun h' hk t' k => ?_
  · have z := RT.vals_rev rv hacc
    rw [← List.map_reverse] at z
    exact strs_of_vals z
  · rw [List.map_reverse, List.sum_reverse, List.length_reverse]
    exact hz
  · exact ⟨.str _, H2, I3.turned (t' := k) (fun b o hb e => hk b o hb e) f0 f1 f3 f4 f5, ⟨t', rfl⟩, q⟩
end Sw
/-! Texts of integers, read. -/
namespace Sw
open PySem PySem.Spec PyProof.Rows L2

/-- behind one sign - -/
def stripL : List Nat → List Nat
  | 45 :: r => r
  | l => l
def digL (l : List Nat) : Bool := decide (0 < l.length) && l.all fun c => decide (48 ≤ c) && decide (c ≤ 57)
theorem digL_iff {l : List Nat} : digL l = true ↔ l ≠ [] ∧ NumText.AllDigits l := by
  unfold digL NumText.AllDigits
  rw [Bool.and_eq_true, decide_eq_true_eq, List.all_eq_true]
  refine and_congr ⟨fun h e => (by rw [e] at h; exact absurd h (by decide)), fun h => List.length_pos_iff.mpr h⟩ ⟨fun h c hc => ?_, fun h c hc => ?_⟩
  · have := h c hc
    rw [Bool.and_eq_true, decide_eq_true_eq, decide_eq_true_eq] at this
    exact this
  · rw [Bool.and_eq_true, decide_eq_true_eq, decide_eq_true_eq]
    exact h c hc
theorem dig_tab : ∀ c, c < 128 → Unicode.isDigit c = (decide (48 ≤ c) && decide (c ≤ 57)) := by decide +kernel
theorem dig_eq (l : List Nat) : (Txt.isascii ⟨l.toArray⟩ && Txt.isdigit ⟨l.toArray⟩) = digL l := by
  unfold Txt.isascii Txt.isdigit digL
  show (l.toArray.all _ && (decide (l.toArray.size > 0) && l.toArray.all _)) = _
  rw [List.all_toArray, List.all_toArray, List.size_toArray]
  have key : ∀ l : List Nat, (l.all (fun c => decide (c < 128)) && l.all Unicode.isDigit) = l.all fun c => decide (48 ≤ c) && decide (c ≤ 57) := by
    intro l
    induction l with
    | nil => rfl
    | cons c l ih =>
      rw [List.all_cons, List.all_cons, List.all_cons, ← ih]
      by_cases hc : c < 128
      · rw [dig_tab c hc, decide_eq_true hc]
        cases decide (48 ≤ c) <;> cases decide (c ≤ 57) <;> simp
      · rw [decide_eq_false hc, decide_eq_false (show ¬ c ≤ 57 by omega)]
        simp
  rw [← key l]
  cases decide (l.length > 0) <;> simp
/-- the integer that a text shows, if it is its own text -/
def valL (l : List Nat) : Int := match l with
  | 45 :: r => -((NumText.digitsVal r : Nat) : Int)
  | l => ((NumText.digitsVal l : Nat) : Int)
theorem strip_min (r : List Nat) : stripL (45 :: r) = r ∧ valL (45 :: r) = -((NumText.digitsVal r : Nat) : Int) := ⟨rfl, rfl⟩
theorem strip_no {l : List Nat} (h : ∀ r, l ≠ 45 :: r) : stripL l = l ∧ valL l = ((NumText.digitsVal l : Nat) : Int) := by
  unfold stripL valL
  refine ⟨?_, ?_⟩
  · split
    · rename_i r
      exact absurd rfl (h r)
    · rfl
  · split
    · rename_i r
      exact absurd rfl (h r)
    · rfl
theorem min_or (l : List Nat) : (∃ r, l = 45 :: r) ∨ ∀ r, l ≠ 45 :: r := by
  by_cases h : ∃ r, l = 45 :: r
  · exact .inl h
  · exact .inr fun r e => h ⟨r, e⟩
theorem int_reads {l : List Nat} (h : digL (stripL l) = true) (hl : (stripL l).length ≤ 40) : intText? ⟨l.toArray⟩ = some (valL l) ∧ l.length ≤ 41 := by
  rcases min_or l with ⟨r, rfl⟩ | hn
  · rw [(strip_min r).1] at h hl
    rw [(strip_min r).2]
    obtain ⟨h1, h2⟩ := digL_iff.mp h
    refine ⟨intText_neg (x := ⟨(45 :: r).toArray⟩) (cs := r) (by simp) h2 h1 ?_, by rw [List.length_cons]; omega⟩
    show (45 :: r).toArray.size ≤ 4300
    rw [List.size_toArray, List.length_cons]
    omega
  · rw [(strip_no hn).1] at h hl
    rw [(strip_no hn).2]
    obtain ⟨h1, h2⟩ := digL_iff.mp h
    refine ⟨intText_digits (x := ⟨l.toArray⟩) (by simpa using h2) (by simpa using h1) ?_, by omega⟩
    show l.toArray.size ≤ 4300
    rw [List.size_toArray]
    omega
def intL (l : List Nat) : Option Int := if digL (stripL l) = true ∧ (stripL l).length ≤ 40 ∧ (Str.ofString (toString (valL l))).cps.toList = l then some (valL l) else none
theorem removeprefix_min (l : List Nat) : Txt.removeprefix ⟨l.toArray⟩ "-" = ⟨(stripL l).toArray⟩ := by
  have em : ("-" : Str) = ⟨#[45]⟩ := by decide +kernel
  rw [em, PySem.StrLaws.removeprefix_eq]
  have e1 : (⟨#[45]⟩ : Str).length = 1 := rfl
  have e2 : (⟨l.toArray⟩ : Str).length = l.length := by
    show l.toArray.size = _
    rw [List.size_toArray]
  have e3 : (⟨l.toArray⟩ : Str).cps.toList = l := by simp
  have e4 : Builtin.Str.subAt ⟨l.toArray⟩ ⟨#[45]⟩ 0 = decide (l.take 1 = [45]) := by
    unfold Builtin.Str.subAt
    show (l.toArray.extract 0 (0 + 1) == #[45]) = _
    rw [show l.toArray.extract 0 (0 + 1) = (l.take 1).toArray by simp]
    rw [Bool.eq_iff_iff, beq_iff_eq, decide_eq_true_eq]
    exact ⟨fun h => by simpa using congrArg Array.toList h, fun h => by rw [h]⟩
  rw [e1, e2, e3, e4]
  rcases min_or l with ⟨r, rfl⟩ | hn
  · rw [(strip_min r).1, if_pos (by simp)]
    simp
  · rw [(strip_no hn).1, if_neg]
    rw [Bool.and_eq_true, decide_eq_true_eq, decide_eq_true_eq]
    rintro ⟨_, h⟩
    match l, h, hn with
    | c :: r, h, hn =>
      have : c = 45 := by simpa using h
      subst this
      exact hn r rfl
/-- a text, k times: only its length is told -/
def rRepS : R2 := fun x y H Q => ∃ (z : Str) (k : Int), x = .str z ∧ y = .int k ∧ 2 ≤ k ∧ k ≤ 1000 ∧ 1 ≤ z.length ∧ z.length ≤ 1000 ∧ ∀ r : Str, r.length = z.length * k.toNat → Q (.str r) H
theorem rep_size (c : Array Nat) : ∀ m : Nat, ((List.replicate m c).foldl (· ++ ·) #[]).size = c.size * m := fun m => by
  have key : ∀ (m : Nat) (a : Array Nat), ((List.replicate m c).foldl (· ++ ·) a).size = a.size + c.size * m := by
    intro m
    induction m with
    | zero =>
      intro a
      simp
    | succ m ih =>
      intro a
      rw [List.replicate_succ, List.foldl_cons, ih, Array.size_append, Nat.mul_succ]
      omega
  rw [key m #[]]
  simp
theorem op_repS {X : Cx} : OpR X (binaryOp .Mult) rRepS := by
  intro pins s σ H x y v u Q I rx ry h
  obtain ⟨z, k, rfl, rfl, k2, k1, z1, z2, q⟩ := h
  obtain ⟨t, rfl⟩ := rx
  obtain ⟨t', rfl⟩ := ry
  have hm : z.length * k.toNat ≤ 1000000 := Nat.le_trans (Nat.mul_le_mul z2 (show k.toNat ≤ 1000 by omega)) (by decide)
  have hc : (k == 1 || z.length == 0) = false := by
    rw [Bool.or_eq_false_iff, beq_eq_false_iff_ne, beq_eq_false_iff_ne]
    omega
  refine P.mul_str (by rw [decide_eq_false (by omega), decide_eq_false (by omega)]; rfl) (fun _ _ => ?_) (fun _ _ => ?_) ?_
  · have e : (1000 : Int) ≤ (2 ^ 63 - 1) / k := by
      rw [Int.le_ediv_iff_mul_le (by omega)]
      omega
    omega
  · unfold Builtin.Str.tooLong
    have sl := sizeLine_eq
    first
      | (rw [decide_eq_false]; omega)
      | (simp; omega)
  · rw [if_neg (by omega), if_neg (by rw [hc]; exact Bool.false_ne_true)]
    have hz : (⟨(List.replicate k.toNat z.cps).foldl (· ++ ·) #[]⟩ : Str).length = z.length * k.toNat := rep_size z.cps k.toNat
    refine ⟨?_, ⟨.str _, H, I.tok _, ⟨_, rfl⟩, q _ hz⟩⟩
    have sl := sizeLine_eq
    first
      | (rw [hz]; omega)
      | (show _ ≤ _; rw [hz]; omega)
end Sw
/-! A written text ahead gives a token. -/
namespace Sw
open PySem PySem.Spec PyProof.Rows L2
section
variable {X : Cx} {f e : Expr} {es : List Expr} {tf te : TE} {ta : TA} {c : Str} {j : Nat} {pc0 pos : Pos} {r : R2}
/-- [.., 'c' + f, ..]: behind it a token is out -/
theorem pa_lit (ho : OpR X (binaryOp .Add) r) (hf : PE X f tf) (hr : PAT X es ta) (hs : starEach (.BinOp (.Constant (.str c) j pc0) .Add f pos :: es) X.env = (false, eval (.BinOp (.Constant (.str c) j pc0) .Add f pos) X.env) :: starEach es X.env := by rfl) :
    PA X (.BinOp (.Constant (.str c) j pc0) .Add f pos :: es) (tCons (tOp r (tC (.str c)) tf) ta) := by
  refine ⟨fun pos' pins s σ H Q I h => ?_⟩
  rw [hs]
  show wpAny _ _ (spliced ((false, eval (.BinOp (.Constant (.str c) j pc0) .Add f pos) X.env) :: backTo pos' (starEach es X.env))) _ _ s
  refine Calls.spliced_cons ?_
  refine wpAny_BinOp (Calls.Constant_str ?_)
  refine wpAny_mono (PySem.wpAny_toks (hf.run pins _ σ H _ (I.tok (s.toks + 1)) h)) (fun u s2 q => ?_) fun _ _ z => z.2
  obtain ⟨hk, y, H1, I1, r1, q1⟩ := q
  have hk : s.toks + 1 ≤ s2.toks := hk
  refine wpAny_mono (PySem.wpAny_toks (ho pins s2 σ H1 (.str c) y _ u _ I1 ⟨s.toks, rfl⟩ r1 q1)) (fun v s3 q => ?_) fun _ _ z => z.2
  obtain ⟨hk2, x, H2, I2, r2, q2⟩ := q
  exact thn (hr pos' pins s3 σ H2 _ (by omega) I2 q2) fun us s4 ⟨xs, H3, I3, r3, q3⟩ => ⟨x :: xs, H3, I3, .cons r2 r3, q3⟩
/-- a part of a list behind a written one, which wants no token itself -/
theorem pat_of (he : PE X e te) (hr : PAT X es ta) (hs : starEach (e :: es) X.env = (false, eval e X.env) :: starEach es X.env := by rfl) : PAT X (e :: es) (tCons te ta) := pat_cons (CwR.PET.of he) hr hs
end
end Sw
/-! Lists beside the empty one; rules within a comprehension. -/
namespace Sw
open PySem PySem.Spec PyProof.Rows L2
def rNeNil (K : PySem.W.Frag) : R2 := fun x y H Q => ∃ p q xs, x = .ref p ∧ y = .ref q ∧ SqL K H p xs ∧ SqL K H q [] ∧ Q (.bl (!decide (xs = []))) H
def rEqNil (K : PySem.W.Frag) : R2 := fun x y H Q => ∃ p q xs, x = .ref p ∧ y = .ref q ∧ SqL K H p xs ∧ SqL K H q [] ∧ Q (.bl (decide (xs = []))) H
theorem op_neNil {X : Cx} {K : PySem.W.Frag} (hK : X.K = K) (hu : X.A.units + 64 < cLine) : OpR X (compareOp .NotEq) (rNeNil K) := by
  subst hK
  intro pins s σ H x y v u Q I rx ry h
  obtain ⟨p, q, xs, rfl, rfl, hp, hq, k⟩ := h
  cases rx
  cases ry
  obtain ⟨its, rv, p', hz⟩ := I.list hp
  obtain ⟨its2, rv2, p2, hz2⟩ := I.list hq
  cases rv2
  have hu' : X.A.units < cLine := by omega
  have hl := rv.length
  cases xs with
  | nil =>
    cases rv
    refine PySem.SeqAt.RcNeAt.lists (e := fun _ => true) p'.isList p2.isList rfl hu' (fun j h1 h2 => by simp at h1) X.prog X.w _ _ ⟨.bl _, H, I, rfl, k⟩
  | cons x xs =>
    refine PySem.SeqAt.RcNeAt.lists_lengths p'.isList p2.isList (by cases rv; simp) hu' X.prog X.w _ _ ⟨.bl _, H, I, rfl, ?_⟩
    simpa using k
theorem op_eqNil {X : Cx} {K : PySem.W.Frag} (hK : X.K = K) (hu : X.A.units + 64 < cLine) : OpR X (compareOp .Eq) (rEqNil K) := by
  subst hK
  intro pins s σ H x y v u Q I rx ry h
  obtain ⟨p, q, xs, rfl, rfl, hp, hq, k⟩ := h
  cases rx
  cases ry
  obtain ⟨its, rv, p', hz⟩ := I.list hp
  obtain ⟨its2, rv2, p2, hz2⟩ := I.list hq
  cases rv2
  have hu' : X.A.units < cLine := by omega
  have hl := rv.length
  cases xs with
  | nil =>
    cases rv
    refine PySem.SeqAt.RcAt.lists (e := fun _ => true) p'.isList p2.isList rfl hu' (fun j h1 h2 => by simp at h1) X.prog X.w _ _ ⟨.bl _, H, I, rfl, k⟩
  | cons x xs =>
    refine PySem.SeqAt.RcAt.lists_lengths p'.isList p2.isList (by cases rv; simp) hu' X.prog X.w _ _ ⟨.bl _, H, I, rfl, ?_⟩
    simpa using k
theorem call_lenK {X : Cx} {K : PySem.W.Frag} (hK : X.K = K) : CallR X (.builtin "len") (fun xs H Q => ∃ x n, xs = [x] ∧ LenV K x H n ∧ Q (V.int ((n : Nat) : Int)) H) := by
  subst hK
  exact call_lenA
end Sw
/-! Rules by a named heap of the top, for what stands within a comprehension; lcm; zip of tuples. -/
namespace Sw
open PySem PySem.Spec PyProof.Rows L2 StX RZ
section
variable {X : Cx} {K : PySem.W.Frag}
theorem ix_listK (hK : X.K = K) : IxR X (rIxL K) := by
  subst hK
  exact ix_list
theorem ix_tupK (hK : X.K = K) : IxR X (rIxT K) := by
  subst hK
  exact ix_tup
theorem sl_listK (hK : X.K = K) : SlR X (rSlL K) := by
  subst hK
  exact sl_list
theorem sl_tupAK (hK : X.K = K) : SlR X (rSlA K) := by
  subst hK
  exact sl_tupA
theorem op_catAK (hK : X.K = K) : OpR X (binaryOp .Add) (rCatA K) := by
  subst hK
  exact op_catA
theorem pi_listK {tg l : Expr} {tl : TE} (hK : X.K = K) (hl : PE X l tl) : PI X tg l (iList K tl) := by
  subst hK
  exact pi_list hl
theorem pi_tupK {tg l : Expr} {tl : TE} (hK : X.K = K) (hl : PE X l tl) : PI X tg l (iTup K tl) := by
  subst hK
  exact pi_tup hl
def rTupOf (K : PySem.W.Frag) : List V → Hp → VK → Prop := fun xs H Q => ∃ p ys, xs = [.ref p] ∧ ((SqL K H p ys ∧ ∀ l, H l = none → Q (.ref l) (upd H l (.tup ys))) ∨ (SqT K H p ys ∧ Q (.ref p) H))
theorem call_tupK (hK : X.K = K) : CallR X (.type "tuple") (rTupOf K) := by
  subst hK
  exact call_tuple_of
theorem pa_starK {e : Expr} {es : List Expr} {te : TE} {t : TA} {p : Pos} (hK : X.K = K) (he : PE X e te) (hr : PA X es t) (hs : starEach (.Starred e p :: es) X.env = (true, eval e X.env) :: starEach es X.env := by rfl) : PA X (.Starred e p :: es) (tStar K te t) := by
  subst hK
  exact pa_star he hr hs
def rLcm : List V → Hp → VK → Prop := fun vs H Q => ∃ a b : Int, vs = [.int a, .int b] ∧ 0 < a ∧ 0 < b ∧ a.natAbs < 2 ^ 3000 ∧ b.natAbs < 2 ^ 3000 ∧ Q (.int ((Nat.lcm a.natAbs b.natAbs : Nat) : Int)) H
theorem lcm_le_mul {a b : Nat} (hb : 0 < b) (ha : 0 < a) : Nat.lcm a b ≤ a * b := by
  unfold Nat.lcm
  exact Nat.div_le_self _ _
theorem cr_lcm : CallR X (.builtin "math.lcm") rLcm := by
  intro pins s σ H vs us Q I r h
  obtain ⟨a, b, rfl, ha0, hb0, ha, hb, q⟩ := h
  obtain ⟨t, u, rfl⟩ := Vals.int2 r
  have l1 : (max 1 a.natAbs).log2 < 3000 := PySem.Flt.log2_lt_of (by decide) (by
    rcases Nat.le_total 1 a.natAbs with z | z
    · rw [Nat.max_eq_right z]
      exact ha
    · omega)
  have l2 : (max a.natAbs b.natAbs).log2 < 3000 := PySem.Flt.log2_lt_of (by decide) (by
    rcases Nat.le_total a.natAbs b.natAbs with z | z
    · rw [Nat.max_eq_right z]
      exact hb
    · rw [Nat.max_eq_left z]
      exact ha)
  have e1 : Nat.lcm 1 a.natAbs = a.natAbs := Nat.lcm_one_left _
  have sz : ((((Nat.lcm 1 a.natAbs).lcm b.natAbs : Nat) : Int)).natAbs.log2 < bitsLine := by
    rw [e1, Int.natAbs_natCast]
    have h6 : Nat.lcm a.natAbs b.natAbs < 2 ^ (3000 + 3000) := by
      rw [Nat.pow_add]
      exact Nat.lt_of_le_of_lt (lcm_le_mul (by omega) (by omega)) (Nat.mul_lt_mul'' ha hb)
    exact Nat.lt_of_lt_of_le (PySem.Flt.log2_lt_of (by decide) h6) (by decide)
  have key := PySem.W.mg_run_lcm a t b u (by omega) (by omega) sz
  refine PySem.call_function_meets PySem.W.MGF.kind_lcm PySem.W.MGF.plain_lcm PySem.W.MGF.entry_lcm (PySem.W.MGF.args_lcm _ _) key.meets ?_
  refine ⟨.int _, H, I.tok _, ⟨_, rfl⟩, ?_⟩
  rw [e1]
  exact q
end
section
variable {K : PySem.W.Frag} {a b : Addr} {xs ys : List V}
theorem walk_zipT {n : Nat} (hn : n = min xs.length ys.length) : Walk (ItzT K a b) n (fun H => SqT K H a xs ∧ SqT K H b ys) (YPair (fun i => xs[i]?) (fun i => ys[i]?)) := by
  subst hn
  refine ⟨fun i _ hi q => ?_, fun _ q => ⟨xs, ys, q.1, q.2, by omega⟩, fun i H v H' _ q y => ?_⟩
  · have h1 : i < xs.length := by omega
    have h2 : i < ys.length := by omega
    exact ⟨xs, ys, xs[i], ys[i], q.1, q.2, by simp [h1], by simp [h2]⟩
  · obtain ⟨T, x, z, h1, h2, h3, h4, h5⟩ := y
    exact ⟨T, x, z, h1, h2, h3, h4 xs q.1, h5 ys q.2⟩
end
end Sw
/-! enumerate over a tuple. -/
namespace Sw
open PySem PySem.Spec PyProof.Rows L2
set_option maxHeartbeats 2000000 in
theorem enumB_new {v : Value} {o : Obj} {W : Heap → Prop} (B : Begins v o W) :
    Meets (Builtin.«enumerate.__new__» ⟨[.type "enumerate", v], []⟩) (fun _ R s => W s.heap ∧ R (.ok (.ret (.ref (s.heap.push o).objs.size)))
      { s with heap := (s.heap.push o).push { cls := .type "enumerate", data := .fields #[.none, .bool false, .ref s.heap.objs.size, rawInt 0, .none, .none] } }) := by
  refine .of_wp fun prog w A R s h => ?_
  obtain ⟨hp, gg, dd, tk, os⟩ := s
  obtain ⟨hW, hR⟩ := h
  have isub := sub_enumerate
  have step : ∀ {A2 : Around} {E2 : Value → Shared → Prop} {Q2 : Value → Shared → Prop}, Q2 (.ref hp.objs.size) ⟨hp.push o, gg, dd, tk, os⟩ → wpAny (model prog w) A2 (pyIter v) Q2 E2 ⟨hp, gg, dd, tk, os⟩ := fun z => B.iter prog w _ _ ⟨hp, gg, dd, tk, os⟩ _ hW z
  wp_walk using step
  refine wpAny_stack_any fun stk => wpAny_pure ?_
  split
  · rename_i c1 _ _ _ _ _
    cases (c1 == Value.type "enumerate") <;> (wp_walk using step; exact ⟨_, rfl, hR⟩)
  · wp_walk using step
    exact ⟨_, rfl, hR⟩
theorem call_enumB {prog : Program} {w : World} {A : Around} {E : Value → Shared → Prop} {s : Shared} {v : Value} {o : Obj} {W : Heap → Prop} {Q : Value → Shared → Prop} (B : Begins v o W) (hW : W s.heap)
    (k : ∀ h2, IsEnum h2 (s.heap.objs.size + 1) s.heap.objs.size 0 .none → h2.get? s.heap.objs.size = some o → (∀ b ob, s.heap.get? b = some ob → h2.get? b = some ob) → Q (.ref (s.heap.objs.size + 1)) { s with heap := h2 }) :
    wpAny (model prog w) A (call (.type "enumerate") [v]) Q E s := by
  refine callType_new F.called_enumerate (by decide) (F.typeCall_enumerate_1 _) (F.newCall_enumerate_1 _) (fun ob => F.args_object_init_2 ob _) F.entry_enumerate_new (enumB_new B) ⟨hW, ?_⟩
  have size1 : (s.heap.push o).objs.size = s.heap.objs.size + 1 := Heap.size_push ..
  show _ ∧ _
  rw [size1]
  have isE : IsEnum ((s.heap.push o).push { cls := .type "enumerate", data := .fields #[.none, .bool false, .ref s.heap.objs.size, rawInt 0, .none, .none] }) (s.heap.objs.size + 1) s.heap.objs.size 0 .none := by
    have z := Heap.get?_push_size (s.heap.push o) (o := { cls := .type "enumerate", data := .fields #[.none, .bool false, .ref s.heap.objs.size, rawInt 0, .none, .none] }) rfl
    rw [size1] at z
    exact z
  exact ⟨⟨_, isE, rfl⟩, k _ isE (Heap.get?_push_of_some _ (Heap.get?_push_size _ B.free)) fun b ob z => Heap.get?_push_of_some _ (Heap.get?_push_of_some _ z)⟩
/-- the tuple at a, each item in a new pair -/
def IteT (K : PySem.W.Frag) (a : Addr) : It where
  go i H := ∃ (xs : List V) (x : V), SqT K H a xs ∧ xs[i]? = some x
  yld i H v H' := ∃ T x, v = .ref T ∧ H T = none ∧ H' = upd H T (.tup [.int (i : Nat), x]) ∧ ∀ xs, SqT K H a xs → xs[i]? = some x
  stop i H := ∃ xs : List V, SqT K H a xs ∧ xs.length = i
theorem tup_ne_enum {h : Heap} {e it a : Addr} {i : Int} {old : Value} {its : Array Value} (he : IsEnum h e it i old) (ht : h.IsTuple a its) : a ≠ e := fun z => by
  obtain ⟨ob, e1, c1, _⟩ := ht
  have e2 : h.get? e = some _ := he
  rw [z, e2] at e1
  cases e1
  exact absurd (Value.type.inj c1) (by decide)
theorem tup_ne_iter {h : Heap} {it a t : Addr} {i : Nat} {its : Array Value} (hi : h.IsTupleIter it t i) (ht : h.IsTuple a its) : a ≠ it := fun z => by
  obtain ⟨ob, e1, c1, _⟩ := ht
  obtain ⟨ob2, e2, c2, _⟩ := hi
  rw [z, e2] at e1
  cases e1
  rw [c2] at c1
  exact absurd (Value.type.inj c1) (by decide)
theorem turn_enumT {P : Program} {w : World} {K : PySem.W.Frag} {elts : List Expr} {kk : Nat} {tpos : Pos} (a e it : Addr) :
    Turn P w K (.Tuple elts kk tpos) (IteT K a) [e, it] e (fun i h => (∃ old, IsEnum h e it ((i : Nat) : Int) old) ∧ h.IsTupleIter it a i ∧ e ≠ it) := by
  refine ⟨by simp, ?_, ?_, ?_, ?_, ?_⟩
  · rintro i h ⟨⟨old, he⟩, ⟨o, ho, _, hd⟩, _⟩ b hb
    rcases (show b = e ∨ b = it by simpa using hb) with rfl | rfl
    · exact ⟨_, he, fun v q => nomatch q⟩
    · exact ⟨o, ho, fun v q => by rw [hd] at q; cases q⟩
  · rintro i h h' ⟨⟨old, he⟩, hi, hne⟩ k
    exact ⟨⟨old, k e (by simp) _ he⟩, hi.at fun o q => k it (by simp) o q, hne⟩
  · intro X hP hw hK hc i pins s σ H E I hf st hg
    subst hP hw hK
    obtain ⟨⟨old, he⟩, hit, hne⟩ := st
    obtain ⟨xs, x, hq, hx⟩ := hg
    obtain ⟨its, rv, p, _⟩ := I.tuple hq
    obtain ⟨u, hu, ru⟩ := rv.get hx
    have p2 : s.heap.IsTuple a its.toArray := p
    have ae := tup_ne_enum he p2
    have ai := tup_ne_iter hit p2
    have hel : e < s.heap.objs.size := Heap.lt_size he
    have hu2 : its.toArray[i]? = some u := by simpa using hu
    have hil : i < its.toArray.size := (Array.getElem?_eq_some_iff.mp hu2).1
    have DD := Draws.tuple (prog := X.prog) (w := X.w) (A := X.A.in1) (I.ok.hd hc) it a ai its.toArray
    refine wpAny_pyNext_enum_itemD DD he ⟨hit, p2⟩ hil hne (by simp only [List.mem_cons, List.not_mem_nil, or_false, not_or]; exact ⟨hne, Ne.symm ae⟩) fun y h' tk hy ho hst hT hsz hk => ?_
    have ey : y = u := by
      rw [hu2] at hy
      exact (Option.some.inj hy).symm
    subst ey
    refine ⟨_, rfl, wpAny_letOwnedTupleGo_enum (s := { s with heap := h', toks := tk + 1 }) ho fun h3 he3 sb => ?_⟩
    have hT3 : h3.get? s.heap.objs.size = some { cls := .type "tuple", data := .seq #[.int i tk, y] } := by
      rw [← hT]
      exact sb.2 _ (Nat.ne_of_gt hel)
    have fresh : ObjOk X.prog X.w (upd H s.heap.objs.size (.tup [.int (i : Nat), x])) h3 s.heap.objs.size (.tup [.int (i : Nat), x]) :=
      ⟨by show 2 ≤ sizeLine; decide, [.int i tk, y], .cons ⟨_, rfl⟩ (.cons ru .nil), ⟨_, hT3, rfl, _, rfl⟩⟩
    have stay : ∀ b ob, b ∉ [e, it] → s.heap.get? b = some ob → h3.get? b = some ob := fun b ob hb q => by
      have b1 : b ≠ e := fun z => hb (by simp [z])
      have b2 : b ≠ it := fun z => hb (by simp [z])
      rw [sb.2 b b1]
      exact hk b ob b1 b2 q
    have I1 : Inv X pins σ (upd H s.heap.objs.size (.tup [.int (i : Nat), x])) { s with heap := h3, toks := tk + 1 } := I.turnedNew (ch := [e, it]) stay hf (Nat.le_refl _) fresh
    refine ⟨.ref s.heap.objs.size, _, I1, rfl, ⟨_, x, rfl, I.hok.fresh (Nat.le_refl _), rfl, fun ys hy => by rw [I.tuple_inj hy hq]; exact hx⟩, ⟨⟨y, ?_⟩, hst.1.at fun ob q => (sb.2 it (Ne.symm hne)).trans q, hne⟩, fun b hb => ?_⟩
    · rw [show ((i + 1 : Nat) : Int) = (i : Int) + 1 by omega]
      exact he3
    · have hb2 : b < s.heap.objs.size := by
        rcases (show b = e ∨ b = it by simpa using hb) with rfl | rfl
        · exact hel
        · obtain ⟨ob, q, _⟩ := hit
          exact Heap.lt_size q
      rw [upd_ne (Nat.ne_of_lt hb2)]
      exact (hf b hb).1
  · intro X hP hw hK hc i pins s σ H E I hf st hg
    subst hP hw hK
    obtain ⟨⟨old, he⟩, hit, hne⟩ := st
    obtain ⟨xs, hq, hx⟩ := hg
    obtain ⟨its, rv, p, _⟩ := I.tuple hq
    have p2 : s.heap.IsTuple a its.toArray := p
    obtain ⟨f0, f1, f2, f3, f4, f5⟩ := hf it (by simp)
    have DD := Draws.tuple (prog := X.prog) (w := X.w) (A := X.A.in1) (I.ok.hd hc) it a (tup_ne_iter hit p2) its.toArray
    have en : i = its.toArray.size := by
      have := rv.length
      rw [List.size_toArray]
      omega
    rw [en] at hit
    exact wpAny_pyNext_enum_endD DD he ⟨hit, p2⟩ fun h' eb => ⟨rfl, I.turned (t' := s.toks) (fun b o hb q => eb b o hb q) f0 f1 f3 f4 f5⟩
  · rintro A i s Q E ⟨⟨_, he⟩, _⟩ h
    exact wpAny_pyIter_enum he h
def iEnumT (K : PySem.W.Frag) (ta : TA) : TI := fun σ H R => ta σ H fun vs H1 => ∃ a xs, vs = [.ref a] ∧ SqT K H1 a xs ∧ R (IteT K a) H1
theorem pi_enumT {X : Cx} {e : Expr} {ta : TA} {p pos tpos : Pos} {elts : List Expr} {kk : Nat} (hg : Gl X "enumerate") (hm : X.mg "enumerate" = none) (ha : PA X [e] ta) (hs : starEach [e] X.env = [(false, eval e X.env)] := by rfl) :
    PI X (.Tuple elts kk tpos) (.Call (.Name "enumerate" p) [e] [] pos) (iEnumT X.K ta) := by
  constructor
  intro pins s σ H R I h
  refine Call_ (ld_blt I hg hm boot_enumerate (PyProof.Rows.callWith_type1 (thn (ha.run pos pins s σ H _ I h) fun us s1 ⟨vs, H1, I1, r1, a, xs, ex, hq, q⟩ => ?_) hs rfl))
  subst ex
  obtain ⟨u, rfl, r2⟩ := vals1 r1
  cases r2
  obtain ⟨its, rv, pl, _⟩ := I1.tuple hq
  have p2 : s1.heap.IsTuple a its.toArray := pl
  refine call_enumB (begins_tuple a its.toArray) p2 fun h2 he ho hk => wpAny_pyIter_enum he ?_
  have I2 : Inv X pins σ H1 { s1 with heap := h2 } := I1.kept (t' := s1.toks) hk
  refine ⟨s1.heap.objs.size + 1, [s1.heap.objs.size + 1, s1.heap.objs.size], _, _, H1, rfl, I2, turn_enumT a (s1.heap.objs.size + 1) s1.heap.objs.size, ⟨⟨.none, he⟩, ⟨_, ho, rfl, rfl⟩, Nat.succ_ne_self _⟩, fun b hb => ?_, q⟩
  have le : s1.heap.objs.size ≤ b := by
    rcases (show b = s1.heap.objs.size + 1 ∨ b = s1.heap.objs.size by simpa using hb) with z | z
    · exact z ▸ Nat.le_succ _
    · exact z ▸ Nat.le_refl _
  exact I1.fpOk le (I1.hok.fresh le)
theorem walk_enumT {K : PySem.W.Frag} {a : Addr} {xs : List V} : Walk (IteT K a) xs.length (fun H => SqT K H a xs) (YPair (fun i => some (.int (i : Nat))) (fun i => xs[i]?)) := by
  refine ⟨fun i H hi q => ⟨xs, xs[i], q, by simp [hi]⟩, fun H q => ⟨xs, q, rfl⟩, fun i H v H' hi q y => ?_⟩
  obtain ⟨T, x, h1, h2, h3, h4⟩ := y
  exact ⟨T, .int (i : Nat), x, h1, h2, h3, rfl, h4 xs q⟩
end Sw
/-! Any datum beside a text: ==, not in. -/
namespace Sw
open PySem PySem.Spec PyProof.Rows L2 PySem.SeqAt
open AutoSeq1 (wpAny_loadPart')
theorem dict_eq_declines_str (l : Addr) (c : Value) (es : Array DictEntry) (ep : Nat) (b : Str) (u : Tok) :
    Meets (Builtin.«dict.__eq__» ⟨[.ref l, .str b u], []⟩) (fun _ R s => s.heap.get? l = some { cls := .type "dict", dict := none, data := .dict es ep, slots := #[] } ∧ R (.ok (.ret .notImplemented)) s) :=
  .of_wp fun prog w A R s h => by obtain ⟨hp, g, d, tk, os⟩ := s; obtain ⟨hl, h⟩ := h; have f1 := F.sub_str_dict; wp_walk using wpAny_loadPart' hl, wpAny_load hl; exact ⟨_, rfl, h⟩
theorem str_eq_declines_dict (b : Str) (u : Tok) (l : Addr) (es : Array DictEntry) (ep : Nat) :
    Meets (Builtin.«str.__eq__» ⟨[.str b u, .ref l], []⟩) (fun _ R s => s.heap.get? l = some { cls := .type "dict", dict := none, data := .dict es ep, slots := #[] } ∧ R (.ok (.ret .notImplemented)) s) :=
  .of_wp fun prog w A R s h => by obtain ⟨hp, g, d, tk, os⟩ := s; obtain ⟨hl, h⟩ := h; wp_walk using wpAny_loadPart' hl, wpAny_load hl; exact ⟨_, rfl, h⟩
section
variable {A : Around} {s : Shared}
theorem rcAt_dict_str {l : Addr} {o : Obj} {es : Array DictEntry} {ep : Nat} (b : Str) (u : Tok) (ho : s.heap.get? l = some o) (hx : o.ExactDict) (hd : o.data = .dict es ep) (hu : A.units < cLine) : RcAt A s (.ref l) (.str b u) false := fun prog w E Q h => by
  obtain ⟨cls, dd, data, sl⟩ := o
  obtain ⟨h1, h2, h3⟩ := hx
  simp only at h1 h2 h3 hd
  subst h1 h2 h3 hd
  exact rc_eq_decline_or (k := false) ⟨_, ho, rfl⟩ (typeIs_str s b u) (by decide) F.sub_str_dict F.slot_dict_eq F.slot_str_eq_refl
    (fun _ hq => call_meets F.slot_dict_eq ⟨_, ho, rfl⟩ F.entry_dict_eq (F.args_dict_eq_2 _ _) (dict_eq_declines_str l (.type "dict") es ep b u) ⟨ho, hq⟩)
    (fun _ hq => call_meets F.slot_str_eq_refl (typeIs_str s b u) F.entry_str_eq (F.args_str_eq_2 _ _) (str_eq_declines_dict b u l es ep) ⟨ho, hq⟩)
    (fun _ hq => wpAny_of_eq (rfl : isSame (.ref l) (.str b u) = pure false) hq) (.inr hu) h
theorem rcAt_str_dict {l : Addr} {o : Obj} {es : Array DictEntry} {ep : Nat} (b : Str) (u : Tok) (ho : s.heap.get? l = some o) (hx : o.ExactDict) (hd : o.data = .dict es ep) (hu : A.units < cLine) : RcAt A s (.str b u) (.ref l) false := fun prog w E Q h => by
  obtain ⟨cls, dd, data, sl⟩ := o
  obtain ⟨h1, h2, h3⟩ := hx
  simp only at h1 h2 h3 hd
  subst h1 h2 h3 hd
  exact rc_eq_decline_or (k := false) (typeIs_str s b u) ⟨_, ho, rfl⟩ (by decide) F.sub_dict_str F.slot_str_eq F.slot_dict_eq_refl
    (fun _ hq => call_meets F.slot_str_eq (typeIs_str s b u) F.entry_str_eq (F.args_str_eq_2 _ _) (str_eq_declines_dict b u l es ep) ⟨ho, hq⟩)
    (fun _ hq => call_meets F.slot_dict_eq_refl ⟨_, ho, rfl⟩ F.entry_dict_eq (F.args_dict_eq_2 _ _) (dict_eq_declines_str l (.type "dict") es ep b u) ⟨ho, hq⟩)
    (fun _ hq => wpAny_of_eq (rfl : isSame (.str b u) (.ref l) = pure false) hq) (.inr hu) h
theorem eqAt_str_dict {l : Addr} {o : Obj} {es : Array DictEntry} {ep : Nat} (b : Str) (u : Tok) (ho : s.heap.get? l = some o) (hx : o.ExactDict) (hd : o.data = .dict es ep) (hu : A.units < cLine) : EqAt A s (.str b u) (.ref l) false := fun prog w E Q h => by
  unfold eqBool
  refine wpAny_holding ?_
  refine wpAny_ite_split (fun hab => absurd (eq_of_beq hab) nofun) (fun _ => ?_)
  exact wpAny_bind (rcAt_str_dict b u ho hx hd hu prog w E _ (wpAny_truthy_bool h))
end
/-- the datum is this text -/
def isS (z : Str) : PyData → Bool
  | .str x => decide (x = z)
  | _ => false
def isSin (zs : List Str) : PyData → Bool
  | .str x => decide (x ∈ zs)
  | _ => false
def rEqS (K : PySem.W.Frag) : R2 := fun x y H Q => ∃ mu d z, Dt K mu H x d ∧ y = .str z ∧ Q (.bl (isS z d)) H
def rNotInS (K : PySem.W.Frag) : R2 := fun x y H Q => ∃ mu d zs p, Dt K mu H x d ∧ y = .ref p ∧ SqT K H p (zs.map V.str) ∧ Q (.bl (!isSin zs d)) H
section
variable {X : Cx} {K : PySem.W.Frag}
theorem op_eqS (hK : X.K = K) (hu : X.A.units + 64 < cLine) : OpR X (compareOp .Eq) (rEqS K) := by
  subst hK
  intro pins s σ H x y v u Q I rx ry h
  obtain ⟨mu, d, z, hd, rfl, q⟩ := h
  have hu' : X.A.units < cLine := by omega
  have sc := fun (a : scal x (.str z) = true) (b : Q (.bl (decide (x = V.str z))) H) => op_eq pins s σ H x (.str z) v u Q I rx ry ⟨a, b⟩
  cases hd with
  | non => exact sc rfl q
  | bl b => exact sc rfl q
  | int i => exact sc rfl q
  | str w =>
    refine sc rfl ?_
    rw [show decide (V.str w = V.str z) = decide (w = z) by rw [Bool.eq_iff_iff]; simp]
    exact q
  | lst _ rd _ =>
    cases rx
    obtain ⟨t, rfl⟩ := ry
    obtain ⟨its, rv, p, _⟩ := I.list (Rd.sqL rd)
    exact RcAt.list_str z t p.isList hu' X.prog X.w _ _ ⟨.bl _, H, I, rfl, q⟩
  | tup rd _ =>
    cases rx
    obtain ⟨t, rfl⟩ := ry
    obtain ⟨its, rv, p, _⟩ := I.tuple (Rd.sqT rd)
    exact RcAt.tuple_str z t p hu' X.prog X.w _ _ ⟨.bl _, H, I, rfl, q⟩
  | tupK rd _ =>
    cases rx
    obtain ⟨t, rfl⟩ := ry
    obtain ⟨its, rv, p, _⟩ := I.tuple (KTup.sqT rd)
    exact RcAt.tuple_str z t p hu' X.prog X.w _ _ ⟨.bl _, H, I, rfl, q⟩
  | @dct a kvs _ _ rd _ =>
    cases rx
    obtain ⟨t, rfl⟩ := ry
    have zo : ObjOk X.prog X.w H s.heap a (.dK kvs) := rd.ok I.hok
    obtain ⟨_, _, vs, rel, o, es, ep, ho, hx, hdd, _⟩ := zo
    exact rcAt_dict_str z t ho hx hdd hu' X.prog X.w _ _ ⟨.bl _, H, I, rfl, q⟩
/-- which of the texts -/
def eqS (d : PyData) : Value → Bool
  | .str z _ => isS z d
  | _ => false
theorem op_notInT (hK : X.K = K) (hu : X.A.units + 64 < cLine) : OpR X (compareOp .NotIn) (rNotInS K) := by
  subst hK
  intro pins s σ H x y v u Q I rx ry h
  obtain ⟨mu, d, zs, p, hd, rfl, hp, q⟩ := h
  cases ry
  obtain ⟨its, rv, pl, hz⟩ := I.tuple hp
  have hu' : X.A.in1.units < cLine := by
    have : X.A.in1.units = X.A.units + 1 := rfl
    omega
  have it : ∀ y ∈ its, ∃ z t, y = Value.str z t := by
    intro y hy
    obtain ⟨i, hi, e⟩ := List.getElem_of_mem hy
    have hl := rv.length
    obtain ⟨y2, e2, r2⟩ := rv.get (show (zs.map V.str)[i]? = some (V.str (zs[i]'(by rw [List.length_map] at hl; omega))) by
      rw [List.getElem?_map, List.getElem?_eq_getElem (by rw [List.length_map] at hl; omega)]
      rfl)
    rw [List.getElem?_eq_getElem hi, e] at e2
    cases e2
    obtain ⟨t, rfl⟩ := r2
    exact ⟨_, t, rfl⟩
  have an : its.any (eqS d) = isSin zs d := by
    have key : ∀ {zs : List Str} {us : List Value}, Vals (zs.map V.str) us → us.any (eqS d) = isSin zs d := by
      intro zs
      induction zs with
      | nil =>
        intro us r
        cases r
        cases d <;> rfl
      | cons z zs ih =>
        intro us r
        cases r with
        | cons r1 r2 =>
          obtain ⟨t, rfl⟩ := r1
          rw [List.any_cons, ih r2]
          show (isS z d || isSin zs d) = isSin (z :: zs) d
          cases d with
          | str w =>
            show (decide (w = z) || decide (w ∈ zs)) = decide (w ∈ z :: zs)
            rw [Bool.eq_iff_iff]
            simp
          | _ => rfl
    exact key rv
  refine notIn_tupleAt (eqS d) pl (fun y hy => ?_) ⟨.bl _, H, I, rfl, ?_⟩
  · obtain ⟨z, t, rfl⟩ := it y (by simpa using hy)
    show EqAt X.A.in1 s (.str z t) v (isS z d)
    cases hd with
    | non =>
      cases rx
      exact EqAt.str_none z t
    | bl b =>
      cases rx
      exact EqAt.str_bool z t b
    | int i =>
      obtain ⟨t2, rfl⟩ := rx
      exact EqAt.str_int z t i t2
    | str w =>
      obtain ⟨t2, rfl⟩ := rx
      have e := EqAt.str_str (A := X.A.in1) (s := s) z t w t2
      have e2 : isS z (.str w) = (z == w) := by
        show decide (w = z) = (z == w)
        rw [Bool.eq_iff_iff, decide_eq_true_eq, beq_iff_eq]
        exact ⟨Eq.symm, Eq.symm⟩
      rw [e2]
      exact e
    | lst _ rd _ =>
      cases rx
      obtain ⟨its, rv, p, _⟩ := I.list (Rd.sqL rd)
      exact EqAt.str_list z t p.isList hu'
    | tup rd _ =>
      cases rx
      obtain ⟨its, rv, p, _⟩ := I.tuple (Rd.sqT rd)
      exact EqAt.str_tuple z t p hu'
    | tupK rd _ =>
      cases rx
      obtain ⟨its, rv, p, _⟩ := I.tuple (KTup.sqT rd)
      exact EqAt.str_tuple z t p hu'
    | @dct a kvs _ _ rd _ =>
      cases rx
      have zo : ObjOk X.prog X.w H s.heap a (.dK kvs) := rd.ok I.hok
      obtain ⟨_, _, vs, rel, o, es, ep, ho, hx, hdd, _⟩ := zo
      exact eqAt_str_dict z t ho hx hdd hu'
  · rw [List.any_toArray, an]
    exact q
end
end Sw
/-! A tuple beside the empty one. -/
namespace Sw
open PySem PySem.Spec PyProof.Rows L2
def rNeNilT (K : PySem.W.Frag) : R2 := fun x y H Q => ∃ p q xs, x = .ref p ∧ y = .ref q ∧ SqT K H p xs ∧ SqT K H q [] ∧ Q (.bl (!decide (xs = []))) H
def rEqNilT (K : PySem.W.Frag) : R2 := fun x y H Q => ∃ p q xs, x = .ref p ∧ y = .ref q ∧ SqT K H p xs ∧ SqT K H q [] ∧ Q (.bl (decide (xs = []))) H
theorem nil_len {xs : List V} {its : List Value} (rv : Vals xs its) : (its.toArray.size == (#[] : Array Value).size) = decide (xs = []) := by
  have := rv.length
  rw [List.size_toArray, Bool.eq_iff_iff, beq_iff_eq, decide_eq_true_eq]
  show its.length = 0 ↔ _
  rw [← this]
  exact List.length_eq_zero_iff
theorem op_neNilT {X : Cx} {K : PySem.W.Frag} (hK : X.K = K) (hu : X.A.units + 64 < cLine) : OpR X (compareOp .NotEq) (rNeNilT K) := by
  subst hK
  intro pins s σ H x y v u Q I rx ry h
  obtain ⟨p, q, xs, rfl, rfl, hp, hq, k⟩ := h
  cases rx
  cases ry
  obtain ⟨its, rv, p', hz⟩ := I.tuple hp
  obtain ⟨its2, rv2, p2, hz2⟩ := I.tuple hq
  cases rv2
  have hu' : X.A.units < cLine := by omega
  refine PySem.SeqAt.RcNeAt.tuples (e := fun _ => true) p' p2 hu' (fun j h1 h2 => absurd h2 (by simp)) X.prog X.w _ _ ⟨.bl _, H, I, rfl, ?_⟩
  rw [nil_len rv]
  simpa using k
theorem op_eqNilT {X : Cx} {K : PySem.W.Frag} (hK : X.K = K) (hu : X.A.units + 64 < cLine) : OpR X (compareOp .Eq) (rEqNilT K) := by
  subst hK
  intro pins s σ H x y v u Q I rx ry h
  obtain ⟨p, q, xs, rfl, rfl, hp, hq, k⟩ := h
  cases rx
  cases ry
  obtain ⟨its, rv, p', hz⟩ := I.tuple hp
  obtain ⟨its2, rv2, p2, hz2⟩ := I.tuple hq
  cases rv2
  have hu' : X.A.units < cLine := by omega
  refine PySem.SeqAt.RcAt.tuples (e := fun _ => true) p' p2 hu' (fun j h1 h2 => absurd h2 (by simp)) X.prog X.w _ _ ⟨.bl _, H, I, rfl, ?_⟩
  rw [nil_len rv]
  simpa using k
theorem extend_tup (l : Addr) (items : Array Value) (n : Nat) (b : Addr) (items2 : Array Value) (n2 : Nat) (dd : Option Addr) (sl : Array (Option Value)) (hs0 : ¬(!items.isEmpty && Builtin.List.listTooLong (items.size + items2.size)) = true) (hs1 : items.size ≤ sizeLine) (hs2 : items.size + items2.size ≤ sizeLine + 1) :
    Meets (Builtin.«list.extend» ⟨[.ref l, .ref b], []⟩) (fun _ R s => s.heap.get? l = some { cls := .type "list", dict := none, data := .seq items n, slots := #[] } ∧ s.heap.get? b = some { cls := .type "tuple", dict := dd, data := .seq items2 n2, slots := sl } ∧ R (.ok (.ret Value.none)) { s with heap := s.heap.update l (Obj.mapSeq fun x => x ++ items2), toks := s.toks }) :=
  .of_wp fun prog w A R s h => by
    obtain ⟨hp, g, d, tk, os⟩ := s; obtain ⟨hl, hb, h⟩ := h; have f1 := AutoSeq1.idx_int; have f2 := AutoSeq1.sub_tuple_tuple; have f3 := AutoSeq1.sub_list_list; have f4 := AutoSeq1.sub_tuple_list; have f5 := AutoSeq1.sub_list_tuple;
    have hz' : (items ++ items2).size ≤ sizeLine + 1 := by rw [Array.size_append]; exact hs2
    wp_walk using (wpAny_updateSeq hl rfl (hz := hs1) (_hz' := hz')), AutoSeq1.wpAny_loadPart' hl, AutoSeq1.wpAny_loadPart' hb; exact ⟨_, rfl, h⟩
def rExtT (K : PySem.W.Frag) : V → List V → Hp → VK → Prop := fun x vs H Q => ∃ l b xs zs, x = .ref l ∧ vs = [.ref b] ∧ H l = some (.lst xs) ∧ SqT K H b zs ∧ xs.length + zs.length ≤ sizeLine ∧ Q .non (upd H l (.lst (xs ++ zs)))
theorem mt_extendT {X : Cx} {K : PySem.W.Frag} (hK : X.K = K) : MtM X "list.extend" (rExtT K) := by
  subst hK
  intro pins s σ H x vs v us Q I rx rv h
  obtain ⟨l, b, xs, zs, rfl, rfl, hH, hB, hz, q⟩ := h
  cases rx
  obtain ⟨u, rfl, ru⟩ := rv.one
  cases ru
  obtain ⟨z, its, n, r, hl, e⟩ := I.lstM hH
  obtain ⟨its2, r2, ⟨⟨cls, dd, data, sl⟩, e2, hc, n2, hd⟩, _⟩ := I.tuple hB
  simp only at hc hd
  subst hc hd
  have hl2 := r2.length
  have hsz : its.toArray.size + its2.toArray.size ≤ sizeLine := by rw [List.size_toArray, List.size_toArray]; omega
  have hlong : ¬ (!its.toArray.isEmpty && Builtin.List.listTooLong (its.toArray.size + its2.toArray.size)) = true := by
    rw [notLongL hsz, Bool.and_false]
    exact Bool.false_ne_true
  refine call_meets F.slot_list_extend ⟨_, e, rfl⟩ F.entry_list_extend (F.args_list_extend_2 _ _)
    (extend_tup l its.toArray n b its2.toArray n2 dd sl hlong (by rw [List.size_toArray]; omega) (by omega)) ⟨e, e2, ?_⟩
  refine ⟨.non, _, I.lset (its' := its ++ its2) hH e (by simp) (r.append r2) ?_, rfl, q⟩
  rw [List.length_append]
  omega
theorem mt_extT {X : Cx} : MtR X "list.extend" (rExtT X.K) := mt_extendT rfl
end Sw
/-! zip of a text and a tuple; dict.update. -/
namespace Sw
open PySem PySem.Spec PyProof.Rows L2
def ItST (K : PySem.W.Frag) (x : Str) (b : Addr) : It where
  go i H := ∃ (ys : List V) (c : Nat) (y : V), SqT K H b ys ∧ x.cps[i]? = some c ∧ ys[i]? = some y
  yld i H v H' := ∃ T c y, v = .ref T ∧ H T = none ∧ H' = upd H T (.tup [.str ⟨#[c]⟩, y]) ∧ x.cps[i]? = some c ∧ ∀ ys, SqT K H b ys → ys[i]? = some y
  stop i H := ∃ ys : List V, SqT K H b ys ∧ (i = x.cps.size ∨ i = ys.length) ∧ i ≤ x.cps.size ∧ i ≤ ys.length
theorem turn_zipST {P : Program} {w : World} {K : PySem.W.Frag} {elts : List Expr} {kk : Nat} {tpos : Pos} {x : Str} {t : Tok} {b z TI TO i1 i2 : Addr} (D : ZipSep2 z TI TO i1 i2 [i1] [i2, b]) (hb : b ≠ i2) :
    Turn P w K (.Tuple elts kk tpos) (ItST K x b) [z, TI, TO, i1, i2] z (fun i h => IsZip h z TI TO .none ∧ IsTupOf2 h TI (.ref i1) (.ref i2) ∧ (∃ a1 a2, IsTupOf2 h TO a1 a2) ∧ h.IsStrIter i1 (strIterType x) x t i ∧ h.IsTupleIter i2 b i) where
  mem := by simp
  obj := fun i h st c hc => by
    obtain ⟨hz, hTI, ⟨x, y, hTO⟩, ⟨o1, e1, _, d1⟩, ⟨o2, e2, _, d2⟩⟩ := st
    have e' : c = z ∨ c = TI ∨ c = TO ∨ c = i1 ∨ c = i2 := by simpa using hc
    rcases e' with q | q | q | q | q
    · rw [q]; exact ⟨_, hz, fun v q => nomatch q⟩
    · rw [q]; exact ⟨_, hTI, fun v q => nomatch q⟩
    · rw [q]; exact ⟨_, hTO, fun v q => nomatch q⟩
    · rw [q]; exact ⟨o1, e1, fun v q => by rw [d1] at q; cases q⟩
    · rw [q]; exact ⟨o2, e2, fun v q => by rw [d2] at q; cases q⟩
  keep := fun i h h' st k => by
    obtain ⟨hz, hTI, ⟨x, y, hTO⟩, h1, h2⟩ := st
    exact ⟨k z (by simp) _ hz, k TI (by simp) _ hTI, ⟨x, y, k TO (by simp) _ hTO⟩, (let ⟨o, e, c, d⟩ := h1; ⟨o, k i1 (by simp) o e, c, d⟩), h2.at fun o q => k i2 (by simp) o q⟩
  item := by
    intro X hP hw hK hc i pins s σ H E I hf st hg
    subst hP hw hK
    obtain ⟨hz, hTI, ⟨x0, y0, hTO⟩, h1, h2⟩ := st
    obtain ⟨ys, c, y, hqy, hx, hy⟩ := hg
    obtain ⟨its2, rv2, p2, _⟩ := I.tuple hqy
    have p3 : s.heap.IsTuple b its2.toArray := p2
    obtain ⟨u2, hu2, ru2⟩ := rv2.get hy
    have hu3 : its2.toArray[i]? = some u2 := by simpa using hu2
    have hzl : z < s.heap.objs.size := Heap.lt_size hz
    have D1 := Draws.text (prog := X.prog) (w := X.w) (A := X.A.in1) (I.ok.hd hc) i1 x t
    have D2 := Draws.tuple (prog := X.prog) (w := X.w) (A := X.A.in1) (I.ok.hd hc) i2 b hb its2.toArray
    refine wpAny_pyNext_zipD2_item D D1 D2 hz hTI hTO h1 ⟨h2, p3⟩ (Array.getElem?_eq_some_iff.mp hx).1 (Array.getElem?_eq_some_iff.mp hu3).1 fun x1 x2 h' tk y1 y2 z' TO' h1' h2' hT hsz hk => ?_
    obtain ⟨c', u1, hc', rfl⟩ := y1
    rw [hx] at hc'
    cases hc'
    have y2 : its2.toArray[i]? = some x2 := y2
    rw [hu3] at y2
    cases y2
    obtain ⟨h2', _⟩ := h2'
    refine ⟨_, rfl, wpAny_letOwnedTupleGo_zip (s := { s with heap := h', toks := tk }) z' fun h'' z'' sb => ?_⟩
    have hT2 : h''.get? s.heap.objs.size = some { cls := .type "tuple", data := .seq #[.str ⟨#[c]⟩ u1, u2] } := (sb.2 _ (Nat.ne_of_gt hzl)).trans hT
    have new : ObjOk X.prog X.w (upd H s.heap.objs.size (.tup [.str ⟨#[c]⟩, y])) h'' s.heap.objs.size (.tup [.str ⟨#[c]⟩, y]) :=
      ⟨by show 2 ≤ sizeLine; decide, [.str ⟨#[c]⟩ u1, u2], .cons ⟨_, rfl⟩ (.cons ru2 .nil), ⟨_, hT2, rfl, _, rfl⟩⟩
    have I1 : Inv X pins σ (upd H s.heap.objs.size (.tup [.str ⟨#[c]⟩, y])) { s with heap := h'', toks := tk } :=
      I.turnedNew (t' := tk) (ch := [z, TI, TO, i1, i2]) (fun c o hb q => (sb.2 c (fun q' => hb (by simp [q']))).trans (hk c o (fun q' => hb (by simp [q'])) (fun q' => hb (by simp [q'])) (fun q' => hb (by simp [q'])) (fun q' => hb (by simp [q'])) q)) hf (Nat.le_refl _) new
    refine ⟨.ref s.heap.objs.size, _, I1, rfl, ⟨_, c, y, rfl, I.hok.fresh (Nat.le_refl _), rfl, hx, fun l hl => by rw [I.tuple_inj hl hqy]; exact hy⟩, ⟨z'', ?_, ⟨.str ⟨#[c]⟩ u1, u2, ?_⟩, ?_, ?_⟩, fun c hcm => ?_⟩
    · exact (sb.2 _ D.TIz).trans (hk _ _ D.TIz D.TITO D.TIi1 D.TIi2 hTI)
    · exact (sb.2 _ D.TOz).trans TO'
    · obtain ⟨o, e, c1, d1⟩ := h1'
      exact ⟨o, (sb.2 _ D.zi1.symm).trans e, c1, d1⟩
    · exact h2'.at fun o q => (sb.2 _ D.zi2.symm).trans q
    · have hlt : c < s.heap.objs.size := by
        have e' : c = z ∨ c = TI ∨ c = TO ∨ c = i1 ∨ c = i2 := by simpa using hcm
        rcases e' with q | q | q | q | q
        · rw [q]; exact hzl
        · rw [q]; exact Heap.lt_size hTI
        · rw [q]; exact Heap.lt_size hTO
        · rw [q]; obtain ⟨_, e1, _⟩ := h1; exact Heap.lt_size e1
        · rw [q]; obtain ⟨_, e2, _⟩ := h2; exact Heap.lt_size e2
      rw [upd_ne (Nat.ne_of_lt hlt)]
      exact (hf c hcm).1
  done := by
    intro X hP hw hK hc i pins s σ H E I hf st hg
    subst hP hw hK
    obtain ⟨hz, hTI, ⟨x0, y0, hTO⟩, h1, h2⟩ := st
    obtain ⟨ys, hqy, hend, l1, l2⟩ := hg
    obtain ⟨its2, rv2, p2, _⟩ := I.tuple hqy
    have p3 : s.heap.IsTuple b its2.toArray := p2
    have ll := rv2.length
    have D1 := Draws.text (prog := X.prog) (w := X.w) (A := X.A.in1) (I.ok.hd hc) i1 x t
    have D2 := Draws.tuple (prog := X.prog) (w := X.w) (A := X.A.in1) (I.ok.hd hc) i2 b hb its2.toArray
    have sz : its2.toArray.size = ys.length := by rw [List.size_toArray, ll]
    exact wpAny_pyNext_zipD2_end D D1 D2 hz hTI hTO h1 ⟨h2, p3⟩ l1 (by rw [sz]; exact l2) (by rw [sz]; exact hend) fun h' tk hk => ⟨rfl, I.turnedL (t' := tk) (ch := [z, TI, TO, i1, i2]) (fun c o hb q =>
      hk c o (fun q' => hb (by simp [q'])) (fun q' => hb (by simp [q'])) (fun q' => hb (by simp [q'])) (fun q' => hb (by simp [q'])) q) hf⟩
  self := fun A i s Q E st h => wpAny_pyIter_zip st.1 h
theorem sepN (n b : Nat) (h : b < n) : ZipSep2 (n + 4) (n + 2) (n + 3) n (n + 1) [n] [n + 1, b] := by
  have two : ∀ c : Nat, c ≠ n + 1 → c ≠ b → ¬ List.Mem c [n + 1, b] := fun c h1 h2 e => by
    have e2 : c ∈ [n + 1, b] := e
    simp only [List.mem_cons, List.not_mem_nil, or_false] at e2
    omega
  have one : ∀ c : Nat, c ≠ n → ¬ List.Mem c [n] := fun c h1 e => by
    have e2 : c ∈ [n] := e
    simp only [List.mem_cons, List.not_mem_nil, or_false] at e2
    omega
  exact { TIz := by show ¬ ((n + 2 : Nat) = n + 4); omega
          TOz := by show ¬ ((n + 3 : Nat) = n + 4); omega
          TITO := by show ¬ ((n + 2 : Nat) = n + 3); omega
          TIi1 := by show ¬ ((n + 2 : Nat) = n); omega
          mem1 := List.mem_cons_self
          zf1 := one _ (by omega)
          Tf1 := one _ (by omega)
          TIi2 := by show ¬ ((n + 2 : Nat) = n + 1); omega
          mem2 := List.mem_cons_self
          zf2 := two _ (by omega) (by omega)
          Tf2 := two _ (by omega) (by omega)
          sep1_2 := two _ (by omega) (by omega)
          sep2_1 := one _ (by omega) }
theorem le5 (n c : Nat) (h : c ∈ [n + 4, n + 2, n + 3, n, n + 1]) : n ≤ c := by
  simp only [List.mem_cons, List.not_mem_nil, or_false] at h
  omega
def iZipST (K : PySem.W.Frag) (ta : TA) : TI := fun σ H R => ta σ H fun vs H1 => ∃ x b ys, vs = [.str x, .ref b] ∧ SqT K H1 b ys ∧ R (ItST K x b) H1
theorem pi_zipST {X : Cx} {e e2 : Expr} {ta : TA} {p pos tpos : Pos} {elts : List Expr} {kk : Nat} (hg : Gl X "zip") (hm : X.mg "zip" = none) (ha : PA X [e, e2] ta)
    (hs : starEach [e, e2] X.env = (false, eval e X.env) :: starEach [e2] X.env := by rfl) (hpl : (backTo pos (starEach [e2] X.env)).any (·.1) = false := by rfl) :
    PI X (.Tuple elts kk tpos) (.Call (.Name "zip" p) [e, e2] [] pos) (iZipST X.K ta) := by
  refine ⟨fun pins s σ H R I h => ?_⟩
  refine Call_ (ld_blt I hg hm PyProof.Rows.boot_zip (PyProof.Rows.callWith_type1 (thn (ha.run pos pins s σ H _ I h) fun us s1 ⟨vs, H1, I1, r1, q1⟩ => ?_) hs hpl))
  obtain ⟨x, b, ys, ex, hqy, q⟩ := q1
  subst ex
  cases r1 with
  | @cons _ u1 _ us1 r1 r2 =>
  obtain ⟨t, rfl⟩ := r1
  cases r2 with
  | @cons _ u2 _ us2 r3 r4 =>
  cases r4
  cases r3
  obtain ⟨its2, rv2, p2, _⟩ := I1.tuple hqy
  have p3 : s1.heap.IsTuple b its2.toArray := p2
  have bl : b < s1.heap.objs.size := by
    obtain ⟨ob, e1, _⟩ := id p3
    exact Heap.lt_size e1
  refine zip_begins2 (begins_text x t) (begins_tuple b its2.toArray) trivial p3 fun h2 hz hTI hTO ho1 ho2 hsz hk => wpAny_pyIter_zip hz ?_
  have I2 : Inv X pins σ H1 { s1 with heap := h2 } := I1.kept (t' := s1.toks) hk
  have D : ZipSep2 (s1.heap.objs.size + 4) (s1.heap.objs.size + 2) (s1.heap.objs.size + 3) s1.heap.objs.size (s1.heap.objs.size + 1) [s1.heap.objs.size] [s1.heap.objs.size + 1, b] := sepN _ _ bl
  refine ⟨s1.heap.objs.size + 4, [s1.heap.objs.size + 4, s1.heap.objs.size + 2, s1.heap.objs.size + 3, s1.heap.objs.size, s1.heap.objs.size + 1], _, _, H1, rfl, I2, turn_zipST (t := t) D (Nat.ne_of_lt (Nat.lt_succ_of_lt bl)), ⟨hz, hTI, ⟨_, _, hTO⟩, ⟨_, ho1, rfl, rfl⟩, ⟨_, ho2, rfl, rfl⟩⟩, fun c hc => ?_, q⟩
  have le : s1.heap.objs.size ≤ c := le5 _ _ hc
  exact I1.fpOk le (I1.hok.fresh le)
theorem walk_zipST {K : PySem.W.Frag} {x : Str} {b : Addr} {ys : List V} {n : Nat} (h1 : n = x.cps.size) (h2 : n = ys.length) : Walk (ItST K x b) n (fun H => SqT K H b ys) (YPair (fun i => (x.cps[i]?).map fun c => V.str ⟨#[c]⟩) (fun i => ys[i]?)) := by
  refine ⟨fun i H hi q => ⟨ys, x.cps[i], ys[i], q, Array.getElem?_eq_getElem (by omega), List.getElem?_eq_getElem (by omega)⟩, fun H q => ⟨ys, q, .inl h1, by omega, by omega⟩, fun i H v H' hi q y => ?_⟩
  obtain ⟨T, c, y0, e1, e2, e3, e4, e5⟩ := y
  exact ⟨T, _, y0, e1, e2, e3, by show (x.cps[i]?).map _ = _; rw [e4]; rfl, e5 ys q⟩
def rUpd : V → List V → Hp → VK → Prop := fun x vs H Q => ∃ d b kvs more, x = .ref d ∧ vs = [.ref b] ∧ H d = some (.dK kvs) ∧ H b = some (.dK more) ∧ d ≠ b ∧ kvs.length + more.length ≤ sizeLine ∧ Q .non (upd H d (.dK (mergeK kvs more)))
theorem mt_update {X : Cx} : MtR X "dict.update" rUpd := by
  intro pins s σ H x vs v us Q I rx rv h
  obtain ⟨d, b, kvs, more, rfl, rfl, hd, hb, ne, hsz, q⟩ := h
  cases rx
  obtain ⟨u, rfl, ru⟩ := rv.one
  cases ru
  obtain ⟨z1, m1, vs1, r1, D1⟩ := dk_of I.hok hd
  obtain ⟨z2, m2, vs2, r2, D2⟩ := dk_of I.hok hb
  refine call_meetsIn PySem.F.slot_dict_update D1.typeIs PySem.F.entry_dict_update (PySem.F.args_dict_update_2 _ _) (meets_dict_update (mixKind X.prog X.w) d b ne m2)
    ⟨vs1, vs2, D1, D2, (by rw [← r1.length, ← r2.length]; exact hsz), fun h' hmm _ hs => ?_⟩
  have hz : (mergeK kvs more).length ≤ sizeLine := Nat.le_trans (length_mergeK more kvs) hsz
  have he : ∃ q, h'.get? d = some q := let ⟨q, _, _, hq, _⟩ := hmm; ⟨q, hq⟩
  exact ⟨.non, _, d_write I (t' := s.toks) (by rw [hd]; exact True.intro) hs he (dk_new hz m1 (r2.merge r1) hmm), rfl, q⟩
end Sw
/-! A tuple, turned about; a text, some times over. -/
namespace Sw
open PySem PySem.Spec PyProof.Rows L2 HT
section
variable {prog : Program} {w : World} {A : Around} {E : Value → Shared → Prop} {s : Shared}
theorem adjust_rev (n : Nat) : Builtin.Slice.sliceAdjust none none (-1) (n : Int) = ((n : Int) - 1, -1) := by
  unfold Builtin.Slice.sliceAdjust
  have h1 : ((-1 : Int) < 0) := by decide
  simp only [h1, if_true]
theorem places_rev (n : Nat) : Builtin.Slice.slicePlaces ((n : Int) - 1) (-1) (-1) = n := by
  unfold Builtin.Slice.slicePlaces
  have h1 : ¬ ((-1 : Int) > 0) := by decide
  simp only [h1, if_false]
  split
  · simp
  · omega
theorem fm_congr {α β : Type} {f g : α → Option β} : ∀ {l : List α}, (∀ x ∈ l, f x = g x) → l.filterMap f = l.filterMap g
  | [], _ => rfl
  | x :: l, h => by
    rw [List.filterMap_cons, List.filterMap_cons, h x List.mem_cons_self, fm_congr fun y hy => h y (List.mem_cons_of_mem _ hy)]
theorem pick_rev (xs : Array Value) : ((List.range xs.size).filterMap fun (m : Nat) => xs[(((xs.size : Int) - 1) + (m : Int) * (-1)).toNat]?).toArray = xs.toList.reverse.toArray := by
  congr 1
  have key : ∀ m : Nat, m < xs.size → xs[(((xs.size : Int) - 1) + (m : Int) * (-1)).toNat]? = xs.toList.reverse[m]? := fun m hm => by
    rw [show (((xs.size : Int) - 1) + (m : Int) * (-1)).toNat = xs.size - 1 - m by omega, List.getElem?_reverse (by rw [Array.length_toList]; exact hm), Array.getElem?_toList, Array.length_toList]
  have e : (List.range xs.size).filterMap (fun (m : Nat) => xs[(((xs.size : Int) - 1) + (m : Int) * (-1)).toNat]?) = (List.range xs.size).filterMap (fun m => xs.toList.reverse[m]?) := fm_congr fun m hm => key m (List.mem_range.mp hm)
  rw [e]
  have e2 : ∀ l : List Value, (List.range l.length).filterMap (fun m => l[m]?) = l := by
    intro l
    induction l with
    | nil => rfl
    | cons x l ih =>
      rw [List.length_cons, List.range_succ_eq_map, List.filterMap_cons]
      show x :: List.filterMap _ (List.map Nat.succ (List.range l.length)) = x :: l
      rw [List.filterMap_map]
      congr 1
  have e3 := e2 xs.toList.reverse
  rw [List.length_reverse, Array.length_toList] at e3
  rw [e3]
theorem getItem_tuple_rev {t sl : Addr} {items : Array Value} {vs : Value} {Q : Value → Shared → Prop} (ht : IsTup s.heap t items) (hs : s.heap.IsSliceOf sl .none .none vs) (ps : IsPart vs (some (-1)))
    (h : Q (.ref s.heap.objs.size) { s with heap := s.heap.push { cls := .type "tuple", data := .seq items.toList.reverse.toArray } })
    (hsz : items.size ≤ sizeLine) : wpAny (model prog w) A (getItem (.ref t) (.ref sl)) Q E s := by
  have hok : sizeOk (.seq items.toList.reverse.toArray) := by
    show items.toList.reverse.toArray.size ≤ sizeLine
    rw [List.size_toArray, List.length_reverse, Array.length_toList]
    exact hsz
  obtain ⟨os, hos, hcs, hds⟩ := id hs
  have hTs : s.TypeIs (.ref sl) "slice" := ⟨os, hos, hcs⟩
  unfold getItem
  try with_reducible refine wpAny_holding ?_
  first | refine wpAny_bind (wpAny_pure ?_) | skip
  refine wpAny_bind (wpAny_sequenceKey ht.typeIs (by decide) ?_)
  refine wpAny_bind (wpAny_callSpecial?_slot (name := Str.ofString "__getitem__") ht.typeIs PyProof.Rows.slot_tuple_getitem
    (wpAny_call_entry PyProof.Rows.slot_tuple_getitem ht.typeIs entry_tuple_getitem ?_ (args_tuple_getitem _ _)))
  show wpAny _ _ (Builtin.Tuple.tupleItemsOf (.ref t) >>= _) _ _ s
  refine wpAny_bind (tupleItemsOf_ ht ?_)
  refine wpAny_bind (wpAny_typeOf hTs ?_)
  rw [if_pos (by decide)]
  have applied : ∀ {Q' : Int × Int × Nat → Shared → Prop} {A' : Around} {E' : Value → Shared → Prop}, Q' ((items.size : Int) - 1, -1, items.size) s → wpAny (model prog w) A' (Builtin.Slice.sliceApplied (.ref sl) (pure (items.size : Int))) Q' E' s := fun {Q' A' E'} q => by
    unfold Builtin.Slice.sliceApplied Builtin.Slice.sliceFields
    refine wpAny_bind (wpAny_bind (wpAny_field hos hds (x := .none) rfl (wpAny_bind (wpAny_field hos hds (x := .none) rfl (wpAny_bind (wpAny_field hos hds (x := vs) rfl (wpAny_pure ?_)))))))
    refine wpAny_bind (slicePart_ ps ?_)
    show wpAny _ _ (if ((-1 : Int) == 0) = true then _ else _) _ _ s
    rw [if_neg (by decide)]
    refine wpAny_bind (slicePart_none (wpAny_bind (slicePart_none (wpAny_bind (wpAny_pure ?_)))))
    show wpAny _ _ (match Builtin.Slice.sliceAdjust none none (-1) (items.size : Int) with | (lo, hi) => pure (lo, (-1 : Int), Builtin.Slice.slicePlaces lo hi (-1))) _ _ s
    rw [adjust_rev]
    show wpAny _ _ (pure ((items.size : Int) - 1, (-1 : Int), Builtin.Slice.slicePlaces ((items.size : Int) - 1) (-1) (-1))) _ _ s
    rw [places_rev]
    exact wpAny_pure q
  refine wpAny_bind (applied ?_)
  have hno : ¬ ((((items.size : Int) - 1) == 0 && (-1 : Int) == 1 && items.size == items.size) = true) := by
    intro q
    rw [Bool.and_eq_true, Bool.and_eq_true] at q
    exact absurd (eq_of_beq q.1.2) (by decide)
  show wpAny _ _ (if (((items.size : Int) - 1) == 0 && (-1 : Int) == 1 && items.size == items.size) = true then _ else _) _ _ s
  rw [if_neg hno, pick_rev]
  first
    | exact wpAny_bind (m := Builtin.Tuple.tupleExact _) (wpAny_newObj_type (wpAny_pure ⟨_, rfl, wpAny_pure h⟩) hok)
    | exact wpAny_bind (m := Builtin.Tuple.tupleExact _) (wpAny_newObj_type (wpAny_bind (wpAny_pure (wpAny_pure ⟨_, rfl, wpAny_pure h⟩))) hok)
    | exact wpAny_bind (wpAny_bind (m := Builtin.Tuple.tupleExact _) (wpAny_newObj_type (wpAny_pure (wpAny_pure ⟨_, rfl, wpAny_pure h⟩)) hok))
    | exact wpAny_bind (wpAny_bind (m := Builtin.Tuple.tupleExact _) (wpAny_newObj_type (wpAny_pure ⟨_, rfl, wpAny_pure h⟩) hok))
end
def tRevT (K : PySem.W.Frag) (te : TE) : TE := fun σ H Q => te σ H fun x H1 => ∃ a xs, x = .ref a ∧ SqT K H1 a xs ∧ ∀ p, H1 p = none → Q (.ref p) (upd H1 p (.tup xs.reverse))
theorem pe_revT {X : Cx} {e : Expr} {te : TE} {k : Nat} {p1 p2 p3 pos : Pos} (he : PE X e te) : PE X (.Subscript e (.Slice none none (some (.UnaryOp .USub (.Constant (.int 1) k p1) p2)) p3) pos) (tRevT X.K te) := by
  refine ⟨fun pins s σ H Q I h => Subscript_ (thn (he.run pins s σ H _ I h) fun v s1 ⟨x, H1, I1, r1, a, xs, ex, hx, q⟩ => ?_)⟩
  subst ex
  cases r1
  have hst : PO X (some (.UnaryOp .USub (.Constant (.int 1) k p1) p2)) (tPart (tUn (rU fun i => .int (-i)) (tC (.int 1)))) := po_some (pe_un un_neg pe_int)
  refine wpAny_Slice (thn (po_none.run pins s1 σ H1 (fun o H2 => o = none ∧ H2 = H1) I1 ⟨rfl, rfl⟩) fun vl s2 ⟨l, H2, I2, pl, el, e2⟩ => ?_)
  subst el e2
  cases pl
  refine thn (po_none.run pins s2 σ H2 (fun o H3 => o = none ∧ H3 = H2) I2 ⟨rfl, rfl⟩) fun vu s3 ⟨u, H3, I3, pu, eu, e3⟩ => ?_
  subst eu e3
  cases pu
  refine thn (hst.run pins s3 σ H3 (fun o H4 => o = some (-1) ∧ H4 = H3) I3 ⟨1, rfl, -1, rfl, rfl, rfl⟩) fun vs s4 ⟨o, H4, I4, ps, eo, e4⟩ => ?_
  subst eo e4
  have I5 : Inv X pins σ H4 { s4 with heap := s4.heap.push { cls := .type "slice", data := .fields #[.none, .none, vs] } } := I4.kept (t' := s4.toks) fun b ob q => Heap.get?_push_of_some _ q
  obtain ⟨its, r, ht, hz⟩ := I5.tuple hx
  have hlen := r.length
  show wpAny (model X.prog X.w) X.A (subscriptTail e (.Slice none none (some (.UnaryOp .USub (.Constant (.int 1) k p1) p2)) p3) (.ref a) (.ref s4.heap.objs.size)) (EP X pins σ Q) X.xe { s4 with heap := s4.heap.push { cls := .type "slice", data := .fields #[.none, .none, vs] } }
  refine tail_any (ops := [.ref a, .ref s4.heap.objs.size]) ht.typeIs (PyProof.Rows.slot_tuple_getitem.lookup) ?_ (by with_unfolding_all rfl)
  refine getItem_tuple_rev ht (Heap.IsSliceOf.new _ .none .none vs) ps ?_ (by rw [List.size_toArray]; omega)
  refine ⟨.ref _, _, I5.laid (t' := s4.toks) (o := .tup xs.reverse) (fun b ob q => Heap.get?_push_of_some _ q) (Nat.le_refl _) ?_, rfl, q _ (I5.hok.fresh (Nat.le_refl _))⟩
  refine ⟨by rw [List.length_reverse]; exact hz, its.reverse, r.reverse, ⟨_, Heap.get?_push_size _ rfl, rfl, 0, ?_⟩⟩
  simp
/-- a text, k times: its length, its letters -/
def rRepQ : R2 := fun x y H Q => ∃ (z : Str) (k : Int), x = .str z ∧ y = .int k ∧ 2 ≤ k ∧ k ≤ 1000 ∧ 1 ≤ z.length ∧ z.length ≤ 1000 ∧ ∀ r : Str, r.length = z.length * k.toNat → (PyData.strOk z = true → PyData.strOk r = true) → Q (.str r) H
theorem rep_all (c : Array Nat) (p : Nat → Bool) (h : c.all p = true) : ∀ m : Nat, ((List.replicate m c).foldl (· ++ ·) #[]).all p = true := fun m => by
  have key : ∀ (m : Nat) (a : Array Nat), a.all p = true → ((List.replicate m c).foldl (· ++ ·) a).all p = true := by
    intro m
    induction m with
    | zero =>
      intro a ha
      simpa using ha
    | succ m ih =>
      intro a ha
      rw [List.replicate_succ, List.foldl_cons]
      exact ih _ (by rw [Array.all_append, ha, h]; rfl)
  exact key m #[] (by simp)
theorem op_repQ {X : Cx} : OpR X (binaryOp .Mult) rRepQ := by
  intro pins s σ H x y v u Q I rx ry h
  obtain ⟨z, k, rfl, rfl, k2, k1, z1, z2, q⟩ := h
  obtain ⟨t, rfl⟩ := rx
  obtain ⟨t', rfl⟩ := ry
  have hm : z.length * k.toNat ≤ 1000000 := Nat.le_trans (Nat.mul_le_mul z2 (show k.toNat ≤ 1000 by omega)) (by decide)
  have hc : (k == 1 || z.length == 0) = false := by
    rw [Bool.or_eq_false_iff, beq_eq_false_iff_ne, beq_eq_false_iff_ne]
    omega
  refine P.mul_str (by rw [decide_eq_false (by omega), decide_eq_false (by omega)]; rfl) (fun _ _ => ?_) (fun _ _ => ?_) ?_
  · have e : (1000 : Int) ≤ (2 ^ 63 - 1) / k := by
      rw [Int.le_ediv_iff_mul_le (by omega)]
      omega
    omega
  · unfold Builtin.Str.tooLong
    have sl := sizeLine_eq
    first
      | (rw [decide_eq_false]; omega)
      | (simp; omega)
  · rw [if_neg (by omega), if_neg (by rw [hc]; exact Bool.false_ne_true)]
    have hz : (⟨(List.replicate k.toNat z.cps).foldl (· ++ ·) #[]⟩ : Str).length = z.length * k.toNat := rep_size z.cps k.toNat
    refine ⟨?_, ⟨.str _, H, I.tok _, ⟨_, rfl⟩, q _ hz fun ho => rep_all z.cps _ ho k.toNat⟩⟩
    have sl := sizeLine_eq
    first
      | (rw [hz]; omega)
      | (show _ ≤ _; rw [hz]; omega)
end Sw
/-! list(zip(x, y)) of two lists -/
namespace PySem
open Sem (wp)
/-- the first pair that the zip has given is still held -/
abbrev IsZipO (h : Heap) (z TI TO T : Addr) (fb : Bool) : Prop :=
  h.get? z = some { cls := .type "zip", dict := none, data := .fields #[rawInt T, .bool fb, .bool false, .ref TI, .ref TO], slots := #[] }
section
variable {prog : Program} {w : World} {A : Around} {E : Value → Shared → Prop} {s : Shared}
theorem wpAny_alive {M : Model} {a : Addr} {Q : Option Obj → Shared → Prop} (h : Q (s.heap.get? a) s) : wpAny M A (loadIfAlive a) Q E s := fun _ _ _ => h
theorem zip_owned {M : Model} {z TI TO T : Addr} {fb : Bool} {Q : Bool → Shared → Prop} (hz : IsZipO s.heap z TI TO T fb) (hT : ∃ o, s.heap.get? T = some o)
    (h : ∀ h', IsZipO h' z TI TO T true → Heap.SameBut z s.heap h' → Q false { s with heap := h' }) : wpAny (model prog w) A (Builtin.SmallTypes.ownedTupleIsFree (.ref z)) Q E s := by
  obtain ⟨o, ho⟩ := hT
  unfold Builtin.SmallTypes.ownedTupleIsFree
  refine wpAny_bind (wpAny_field hz rfl (x := rawInt T) rfl ?_)
  refine wpAny_bind (wpAny_alive ?_)
  have e : s.heap.get? ((T : Int)).toNat = some o := by rw [Int.toNat_natCast]; exact ho
  rw [e]
  show wpAny _ _ (field (.ref z) 1 >>= _) _ _ _
  refine wpAny_bind (wpAny_field hz rfl (x := .bool fb) rfl ?_)
  cases fb with
  | true =>
    show wpAny _ _ (pure false) _ _ _
    exact wpAny_pure (h s.heap hz (.refl _ _))
  | false =>
    show wpAny _ _ (setField (.ref z) 1 (.bool true) >>= _) _ _ _
    exact wpAny_bind (wpAny_setField_rec hz (by simp) fun h' hz' hs' => wpAny_pure (h h' hz' hs'))
theorem zip_next_item2 {z TI TO T i1 i2 l1 l2 : Addr} {fb : Bool} {k1 k2 : Nat} {xs ys : Array Value} {x y : Value} {Q : Value → Shared → Prop} (D : ZipApart z TI TO i1 i2 l1 l2)
    (hz : IsZipO s.heap z TI TO T fb) (hT : ∃ o, s.heap.get? T = some o) (hTI : IsPair s.heap TI (.ref i1) (.ref i2))
    (h1 : s.heap.IsListIter i1 l1 k1) (h2 : s.heap.IsListIter i2 l2 k2) (hl1 : s.heap.IsList l1 xs) (hl2 : s.heap.IsList l2 ys) (hx : xs[k1]? = some x) (hy : ys[k2]? = some y)
    (hQ : ∀ h', IsZipO h' z TI TO T true → h'.IsListIter i1 l1 (k1 + 1) → h'.IsListIter i2 l2 (k2 + 1) → IsPair h' s.heap.objs.size x y → h'.objs.size = s.heap.objs.size + 1 →
      (∀ c o, c ≠ z → c ≠ i1 → c ≠ i2 → s.heap.get? c = some o → h'.get? c = some o) → Q (.ref s.heap.objs.size) { s with heap := h' }) :
    wpAny (model prog w) A (Builtin.«zip.__next__» ⟨[.ref z], []⟩) (fun fin s' => ∃ v, fin = .done (.ret v) ∧ Q v s') E s := by
  show wpAny _ _ (field (.ref z) 2 >>= _) _ _ _
  refine wpAny_bind (wpAny_field hz rfl (x := .bool false) rfl ?_)
  show wpAny _ _ (field (.ref z) 3 >>= _) _ _ _
  refine wpAny_bind (wpAny_field hz rfl (x := .ref TI) rfl ?_)
  refine wpAny_bind (wpAny_seqItems hTI rfl ?_)
  show wpAny _ _ (Builtin.SmallTypes.ownedTupleIsFree (.ref z) >>= _) _ _ _
  refine wpAny_bind (zip_owned (M := model prog w) hz hT fun h₁ hz₁ hs₁ => ?_)
  simp only [Bool.false_eq_true, if_false]
  refine wpAny_bind ?_
  rw [← Array.forIn_toList]
  simp only [List.forIn_cons, List.forIn_nil]
  refine wpAny_bind (wpAny_bind (wpAny_holding ?_))
  show wpAny _ _ (Builtin.SmallTypes.nextOf (.ref i1) >>= _) _ _ _
  refine wpAny_bind (wpAny_nextOf_list_item (h1.extBut hs₁.extBut D.i1z) (hl1.extBut hs₁.extBut D.l1z) hx fun h₂ h1₂ hs₂ => wpAny_pure ?_)
  refine wpAny_pure ?_
  refine wpAny_bind (wpAny_bind (wpAny_holding ?_))
  show wpAny _ _ (Builtin.SmallTypes.nextOf (.ref i2) >>= _) _ _ _
  refine wpAny_bind (wpAny_nextOf_list_item ((h2.extBut hs₁.extBut D.i2z).extBut hs₂.extBut D.i12.symm) ((hl2.extBut hs₁.extBut D.l2z).extBut hs₂.extBut D.l2i1) hy fun h₃ h2₃ hs₃ => wpAny_pure ?_)
  refine wpAny_pure (wpAny_pure ?_)
  have hsz : h₃.objs.size = s.heap.objs.size := by rw [hs₃.1, hs₂.1, hs₁.1]
  have hz₃ : IsZipO h₃ z TI TO T true := hs₃.extBut _ _ D.i2z.symm (hs₂.extBut _ _ D.i1z.symm hz₁)
  have h1₃ : h₃.IsListIter i1 l1 (k1 + 1) := h1₂.extBut hs₃.extBut D.i12
  have hk : ∀ c o, c ≠ z → c ≠ i1 → c ≠ i2 → s.heap.get? c = some o → h₃.get? c = some o := fun c o c1 c3 c4 e => hs₃.extBut _ _ c4 (hs₂.extBut _ _ c3 (hs₁.extBut _ _ c1 e))
  have gk : ∀ c o, h₃.get? c = some o → (h₃.push { cls := .type "tuple", data := .seq #[x, y] }).get? c = some o := fun c o e => Heap.get?_push_of_some _ e
  refine wpAny_bind (wpAny_newTuple (hsz := by show 2 ≤ sizeLine; decide) ?_)
  refine wpAny_pure ⟨_, rfl, ?_⟩
  show Q (.ref h₃.objs.size) _
  have hT₃ : IsPair (h₃.push { cls := .type "tuple", data := .seq #[x, y] }) h₃.objs.size x y := Heap.get?_push_size _ rfl
  have hz3 : (h₃.push { cls := .type "tuple", data := .seq #[x, y] }).objs.size = h₃.objs.size + 1 := Heap.size_push ..
  rw [hsz] at hT₃ hz3 ⊢
  exact hQ _ (gk _ _ hz₃) (h1₃.at fun o e => gk _ o e) (h2₃.at fun o e => gk _ o e) hT₃ hz3 fun c o c1 c3 c4 e => gk _ _ (hk c o c1 c3 c4 e)
theorem zip_next_end2 {z TI TO T i1 i2 l1 l2 : Addr} {fb : Bool} {k1 k2 : Nat} {xs ys : Array Value} {Q : Fin → Shared → Prop} (hh : A.handled = none) (D : ZipApart z TI TO i1 i2 l1 l2)
    (hz : IsZipO s.heap z TI TO T fb) (hT : ∃ o, s.heap.get? T = some o) (hTI : IsPair s.heap TI (.ref i1) (.ref i2))
    (h1 : s.heap.IsListIter i1 l1 k1) (h2 : s.heap.IsListIter i2 l2 k2) (hl1 : s.heap.IsList l1 xs) (hl2 : s.heap.IsList l2 ys) (hend : xs[k1]? = none ∨ ys[k2]? = none)
    (hE : ∀ h' e, (∀ c o, c ≠ z → c ≠ i1 → c ≠ i2 → s.heap.get? c = some o → h'.get? c = some o) → (∃ o, h'.get? e = some o ∧ o.cls = .type "StopIteration") → E (.ref e) { s with heap := h' }) :
    wpAny (model prog w) A (Builtin.«zip.__next__» ⟨[.ref z], []⟩) Q E s := by
  show wpAny _ _ (field (.ref z) 2 >>= _) _ _ _
  refine wpAny_bind (wpAny_field hz rfl (x := .bool false) rfl ?_)
  show wpAny _ _ (field (.ref z) 3 >>= _) _ _ _
  refine wpAny_bind (wpAny_field hz rfl (x := .ref TI) rfl ?_)
  refine wpAny_bind (wpAny_seqItems hTI rfl ?_)
  show wpAny _ _ (Builtin.SmallTypes.ownedTupleIsFree (.ref z) >>= _) _ _ _
  refine wpAny_bind (zip_owned (M := model prog w) hz hT fun h₁ hz₁ hs₁ => ?_)
  simp only [Bool.false_eq_true, if_false]
  refine wpAny_bind ?_
  rw [← Array.forIn_toList]
  simp only [List.forIn_cons, List.forIn_nil]
  refine wpAny_bind (wpAny_bind (wpAny_holding ?_))
  show wpAny _ _ (Builtin.SmallTypes.nextOf (.ref i1) >>= _) _ _ _
  cases hx : xs[k1]? with
  | none =>
    refine wpAny_bind (wpAny_nextOf_list_end hh (h1.extBut hs₁.extBut D.i1z) (hl1.extBut hs₁.extBut D.l1z) hx fun h₂ e hs₂ he => ?_)
    exact hE h₂ e (fun c o c1 c3 _ x => hs₂ _ _ c3 (hs₁.extBut _ _ c1 x)) he
  | some x =>
    have hy : ys[k2]? = none := by rcases hend with h | h; rw [hx] at h; cases h; exact h
    refine wpAny_bind (wpAny_nextOf_list_item (h1.extBut hs₁.extBut D.i1z) (hl1.extBut hs₁.extBut D.l1z) hx fun h₂ h1₂ hs₂ => wpAny_pure ?_)
    refine wpAny_pure ?_
    refine wpAny_bind (wpAny_bind (wpAny_holding ?_))
    show wpAny _ _ (Builtin.SmallTypes.nextOf (.ref i2) >>= _) _ _ _
    refine wpAny_bind (wpAny_nextOf_list_end hh ((h2.extBut hs₁.extBut D.i2z).extBut hs₂.extBut D.i12.symm) ((hl2.extBut hs₁.extBut D.l2z).extBut hs₂.extBut D.l2i1) hy fun h₄ e hs₄ he => ?_)
    exact hE h₄ e (fun c o c1 c3 c4 x => hs₄ _ _ c4 (hs₂.extBut _ _ c3 (hs₁.extBut _ _ c1 x))) he
theorem pyNext_zip_item2 {z TI TO T i1 i2 l1 l2 : Addr} {fb : Bool} {k1 k2 : Nat} {xs ys : Array Value} {x y : Value} {Q : Option Value → Shared → Prop} (D : ZipApart z TI TO i1 i2 l1 l2)
    (hz : IsZipO s.heap z TI TO T fb) (hT : ∃ o, s.heap.get? T = some o) (hTI : IsPair s.heap TI (.ref i1) (.ref i2))
    (h1 : s.heap.IsListIter i1 l1 k1) (h2 : s.heap.IsListIter i2 l2 k2) (hl1 : s.heap.IsList l1 xs) (hl2 : s.heap.IsList l2 ys) (hx : xs[k1]? = some x) (hy : ys[k2]? = some y)
    (hQ : ∀ h', IsZipO h' z TI TO T true → h'.IsListIter i1 l1 (k1 + 1) → h'.IsListIter i2 l2 (k2 + 1) → IsPair h' s.heap.objs.size x y → h'.objs.size = s.heap.objs.size + 1 →
      (∀ c o, c ≠ z → c ≠ i1 → c ≠ i2 → s.heap.get? c = some o → h'.get? c = some o) → Q (some (.ref s.heap.objs.size)) { s with heap := h' }) :
    wpAny (model prog w) A (pyNext (.ref z)) Q E s := by
  have hTy : s.TypeIs (.ref z) "zip" := ⟨_, hz, rfl⟩
  unfold pyNext
  exact wpAny_bind (wpAny_attempt (wpAny_callSpecial?_slot (name := Str.ofString "__next__") hTy F.slot_zip_next
    (wpAny_call_entry F.slot_zip_next hTy F.entry_zip_next
      (zip_next_item2 D hz hT hTI h1 h2 hl1 hl2 hx hy fun h' a1 a3 a4 a5 a6 a7 => wpAny_pure (hQ h' a1 a3 a4 a5 a6 a7)) (F.args_zip_next_1 _))))
theorem pyNext_zip_end2 {z TI TO T i1 i2 l1 l2 : Addr} {fb : Bool} {k1 k2 : Nat} {xs ys : Array Value} {Q : Option Value → Shared → Prop} (hh : A.handled = none) (D : ZipApart z TI TO i1 i2 l1 l2)
    (hz : IsZipO s.heap z TI TO T fb) (hT : ∃ o, s.heap.get? T = some o) (hTI : IsPair s.heap TI (.ref i1) (.ref i2))
    (h1 : s.heap.IsListIter i1 l1 k1) (h2 : s.heap.IsListIter i2 l2 k2) (hl1 : s.heap.IsList l1 xs) (hl2 : s.heap.IsList l2 ys) (hend : xs[k1]? = none ∨ ys[k2]? = none)
    (hQ : ∀ h', (∀ c o, c ≠ z → c ≠ i1 → c ≠ i2 → s.heap.get? c = some o → h'.get? c = some o) → Q none { s with heap := h' }) : wpAny (model prog w) A (pyNext (.ref z)) Q E s := by
  have hTy : s.TypeIs (.ref z) "zip" := ⟨_, hz, rfl⟩
  unfold pyNext
  refine wpAny_bind (wpAny_attempt (wpAny_callSpecial?_slot (name := Str.ofString "__next__") hTy F.slot_zip_next
    (wpAny_call_entry F.slot_zip_next hTy F.entry_zip_next (zip_next_end2 hh D hz hT hTI h1 h2 hl1 hl2 hend fun h' e hk he => ?_) (F.args_zip_next_1 _))))
  obtain ⟨o, ho, hc⟩ := he
  refine wpAny_bind (wpAny_isInstance (T := "StopIteration") (b := true) ⟨o, ho, hc⟩ isSubtype_stop ?_)
  exact wpAny_pure (hQ _ hk)
end
end PySem
namespace Sw
open PySem PySem.Spec PyProof.Rows L2
/-- a zip of two lists that has been asked i times by list(), its first pair still held -/
structure Zst (z TI TO i1 i2 a b S : Addr) (i : Nat) (h : Heap) : Prop where
  lt : TO < S
  ti : IsPair h TI (.ref i1) (.ref i2)
  l1 : h.IsListIter i1 a i
  l2 : h.IsListIter i2 b i
  st : (i = 0 ∧ IsZip h z TI TO .none ∧ ∃ x y, IsPair h TO x y) ∨ (0 < i ∧ ∃ T fb, IsZipO h z TI TO T fb ∧ (∃ o, h.get? T = some o) ∧ T ≠ S)
theorem Zst.keep {z TI TO i1 i2 a b S : Addr} {i : Nat} {h h' : Heap} (Z : Zst z TI TO i1 i2 a b S i h) (hS : S ∉ [z, TI, TO, i1, i2]) (k : ∀ c o, c ≠ S → h.get? c = some o → h'.get? c = some o) : Zst z TI TO i1 i2 a b S i h' := by
  simp only [List.mem_cons, List.not_mem_nil, or_false, not_or] at hS
  obtain ⟨s1, s2, s3, s4, s5⟩ := hS
  refine ⟨Z.lt, k _ _ (Ne.symm s2) Z.ti, Z.l1.at fun o e => k _ o (Ne.symm s4) e, Z.l2.at fun o e => k _ o (Ne.symm s5) e, ?_⟩
  rcases Z.st with ⟨e, hz, x, y, ho⟩ | ⟨e, T, fb, hz, ⟨o, ho⟩, hT⟩
  · exact .inl ⟨e, k _ _ (Ne.symm s1) hz, x, y, k _ _ (Ne.symm s3) ho⟩
  · exact .inr ⟨e, T, fb, k _ _ (Ne.symm s1) hz, ⟨o, k _ _ hT ho⟩, hT⟩
section
variable {X : Cx} {pins : List (Addr × Obj)} {σ : L2.St} {z TI TO i1 i2 a b S : Addr} {xs ys : List V}
/-- the pairs, in order -/
def Prs (H : Hp) (xs ys : List V) (ps : List Addr) : Prop := ∀ (j : Nat) (T : Addr), ps[j]? = some T → ∃ x y, xs[j]? = some x ∧ ys[j]? = some y ∧ H T = some (.tup [x, y])
theorem zip_turn {A1 : Around} {i : Nat} {H : Hp} {s : Shared} {E : Value → Shared → Prop} {x y : V} (D : ZipApart z TI TO i1 i2 a b) (hS : S ∉ [z, TI, TO, i1, i2]) (hSn : H S ≠ none) (Z : Zst z TI TO i1 i2 a b S i s.heap) (I : Inv X pins σ H s) (hf : ∀ c ∈ [z, TI, TO, i1, i2], FpOk X pins H c)
    (ha : SqL X.K H a xs) (hb : SqL X.K H b ys) (hx : xs[i]? = some x) (hy : ys[i]? = some y) :
    wpAny (model X.prog X.w) A1 (pyNext (.ref z)) (fun r s1 => ∃ T, r = some (.ref T) ∧ H T = none ∧ Inv X pins σ (upd H T (.tup [x, y])) s1 ∧ Zst z TI TO i1 i2 a b S (i + 1) s1.heap ∧ ∀ c ∈ [z, TI, TO, i1, i2], FpOk X pins (upd H T (.tup [x, y])) c) E s := by
  obtain ⟨its, rv, p, _⟩ := I.list ha
  obtain ⟨its2, rv2, p2, _⟩ := I.list hb
  obtain ⟨u, hu, ru⟩ := rv.get hx
  obtain ⟨u2, hu2, ru2⟩ := rv2.get hy
  have fresh : H s.heap.objs.size = none := I.hok.fresh (Nat.le_refl _)
  have ltS : S < s.heap.objs.size := Nat.lt_of_not_le fun e => hSn (I.hok.fresh e)
  have szS : s.heap.objs.size ≠ S := fun e => hSn (by rw [← e]; exact fresh)
  have fin : ∀ h', IsPair h' s.heap.objs.size u u2 → (∀ c o, c ∉ [z, TI, TO, i1, i2] → s.heap.get? c = some o → h'.get? c = some o) → IsPair h' TI (.ref i1) (.ref i2) → h'.IsListIter i1 a (i + 1) → h'.IsListIter i2 b (i + 1) → (∃ T fb, IsZipO h' z TI TO T fb ∧ (∃ o, h'.get? T = some o) ∧ T ≠ S) →
      ∃ T, some (Value.ref s.heap.objs.size) = some (.ref T) ∧ H T = none ∧ Inv X pins σ (upd H T (.tup [x, y])) { s with heap := h' } ∧ Zst z TI TO i1 i2 a b S (i + 1) h' ∧ ∀ c ∈ [z, TI, TO, i1, i2], FpOk X pins (upd H T (.tup [x, y])) c := by
    intro h' hT hk t1 t2 t3 t4
    have new : ObjOk X.prog X.w (upd H s.heap.objs.size (.tup [x, y])) h' s.heap.objs.size (.tup [x, y]) :=
      ⟨by show 2 ≤ sizeLine; decide, [u, u2], .cons ru (.cons ru2 .nil), ⟨_, hT, rfl, _, rfl⟩⟩
    have I1 : Inv X pins σ (upd H s.heap.objs.size (.tup [x, y])) { s with heap := h' } := I.turnedNew (t' := s.toks) (ch := [z, TI, TO, i1, i2]) hk hf (Nat.le_refl _) new
    refine ⟨_, rfl, fresh, I1, ⟨Z.lt, t1, t2, t3, .inr ⟨Nat.succ_pos _, t4⟩⟩, fun c hc => ⟨?_, (hf c hc).2⟩⟩
    have : c ≠ s.heap.objs.size := by
      have lt : c < s.heap.objs.size := by
        have e' : c = z ∨ c = TI ∨ c = TO ∨ c = i1 ∨ c = i2 := by simpa using hc
        rcases e' with q | q | q | q | q
        · rw [q]
          rcases Z.st with ⟨_, hz, _⟩ | ⟨_, _, _, hz, _⟩
          · exact Heap.lt_size hz
          · exact Heap.lt_size hz
        · rw [q]; exact Heap.lt_size Z.ti
        · rw [q]; exact Nat.lt_trans Z.lt ltS
        · rw [q]; obtain ⟨_, e1, _⟩ := Z.l1; exact Heap.lt_size e1
        · rw [q]; obtain ⟨_, e1, _⟩ := Z.l2; exact Heap.lt_size e1
      exact Nat.ne_of_lt lt
    rw [upd_ne this]
    exact (hf c hc).1
  rcases Z.st with ⟨rfl, hz, x0, y0, hTO⟩ | ⟨i0, T, fb, hz, hT, hTS⟩
  · refine wpAny_pyNext_zip_item D hz Z.ti hTO Z.l1 Z.l2 p.isList p2.isList (x := u) (y := u2) (by simpa using hu) (by simpa using hu2) fun h' z' TO' h1' h2' hT hsz hk => ?_
    refine fin h' hT (fun c o hb q => hk c o (fun q' => hb (by simp [q'])) (fun q' => hb (by simp [q'])) (fun q' => hb (by simp [q'])) (fun q' => hb (by simp [q'])) q) (hk _ _ D.TIz D.TITO D.TIi1 D.TIi2 Z.ti) h1' h2' ⟨_, false, z', ⟨_, hT⟩, szS⟩
  · refine pyNext_zip_item2 D hz hT Z.ti Z.l1 Z.l2 p.isList p2.isList (x := u) (y := u2) (by simpa using hu) (by simpa using hu2) fun h' z' h1' h2' hT' hsz hk => ?_
    refine fin h' hT' (fun c o hb q => hk c o (fun q' => hb (by simp [q'])) (fun q' => hb (by simp [q'])) (fun q' => hb (by simp [q'])) q) (hk _ _ D.TIz D.TIi1 D.TIi2 Z.ti) h1' h2' ⟨T, true, z', ?_, hTS⟩
    obtain ⟨o, ho⟩ := hT
    by_cases c1 : T = z
    · rw [c1]; exact ⟨_, z'⟩
    · by_cases c2 : T = i1
      · rw [c2]; obtain ⟨o', e, _⟩ := h1'; exact ⟨o', e⟩
      · by_cases c3 : T = i2
        · rw [c3]; obtain ⟨o', e, _⟩ := h2'; exact ⟨o', e⟩
        · exact ⟨o, hk T o c1 c2 c3 ho⟩
theorem zip_stop {A1 : Around} {i : Nat} {H : Hp} {s : Shared} {E : Value → Shared → Prop} (hh : A1.handled = none) (D : ZipApart z TI TO i1 i2 a b) (Z : Zst z TI TO i1 i2 a b S i s.heap) (I : Inv X pins σ H s) (hf : ∀ c ∈ [z, TI, TO, i1, i2], FpOk X pins H c)
    (ha : SqL X.K H a xs) (hb : SqL X.K H b ys) (hend : xs.length ≤ i ∨ ys.length ≤ i) :
    wpAny (model X.prog X.w) A1 (pyNext (.ref z)) (fun r s1 => r = none ∧ Inv X pins σ H s1) E s := by
  obtain ⟨its, rv, p, _⟩ := I.list ha
  obtain ⟨its2, rv2, p2, _⟩ := I.list hb
  have l1 := rv.length
  have l2 := rv2.length
  have he : its.toArray[i]? = none ∨ its2.toArray[i]? = none := by
    rcases hend with q | q
    · exact .inl (by simp; omega)
    · exact .inr (by simp; omega)
  rcases Z.st with ⟨_, hz, x0, y0, hTO⟩ | ⟨i0, T, fb, hz, hT, hTS⟩
  · exact wpAny_pyNext_zip_end hh D hz Z.ti hTO Z.l1 Z.l2 p.isList p2.isList he fun h' hk => ⟨rfl, I.turnedL (t' := s.toks) (ch := [z, TI, TO, i1, i2]) (fun c o hb q =>
      hk c o (fun q' => hb (by simp [q'])) (fun q' => hb (by simp [q'])) (fun q' => hb (by simp [q'])) (fun q' => hb (by simp [q'])) q) hf⟩
  · exact pyNext_zip_end2 hh D hz hT Z.ti Z.l1 Z.l2 p.isList p2.isList he fun h' hk => ⟨rfl, I.turnedL (t' := s.toks) (ch := [z, TI, TO, i1, i2]) (fun c o hb q =>
      hk c o (fun q' => hb (by simp [q'])) (fun q' => hb (by simp [q'])) (fun q' => hb (by simp [q'])) q) hf⟩
theorem prs_snoc {H H' : Hp} {ps : List Addr} {T : Addr} {x y : V} (h : Prs H xs ys ps) (hk : ∀ (j : Nat) (U : Addr), ps[j]? = some U → ∀ o, H U = some o → H' U = some o) (hx : xs[ps.length]? = some x) (hy : ys[ps.length]? = some y) (hT : H' T = some (.tup [x, y])) : Prs H' xs ys (ps ++ [T]) := fun j U e => by
  by_cases hj : j < ps.length
  · rw [List.getElem?_append_left hj] at e
    obtain ⟨x', y', e1, e2, e3⟩ := h j U e
    exact ⟨x', y', e1, e2, hk j U e _ e3⟩
  · have hj2 := (List.getElem?_eq_some_iff.mp e).1
    rw [List.length_append, List.length_singleton] at hj2
    have : j = ps.length := by omega
    subst this
    rw [List.getElem?_append_right (Nat.le_refl _), Nat.sub_self] at e
    cases e
    exact ⟨x, y, hx, hy, hT⟩
theorem zip_loop {A1 : Around} {H0 : Hp} {Rs : Result → Shared → Prop} (hh : A1.in1.handled = none) (D : ZipApart z TI TO i1 i2 a b) (hS : S ∉ [z, TI, TO, i1, i2]) (ha0 : SqL X.K H0 a xs) (hb0 : SqL X.K H0 b ys) (hS0 : H0 S = none)
    (hdone : ∀ ps H s, Inv X pins σ H s → (∀ c o, H0 c = some o → H c = some o) → H S = some (.lst (ps.map V.ref)) → ps.length = min xs.length ys.length → Prs H xs ys ps → Rs (.ok (.ret .none)) s) :
    ∀ (m : Nat) (ps : List Addr) (H : Hp) (s : Shared), ps.length + m = min xs.length ys.length → Inv X pins σ H s → Zst z TI TO i1 i2 a b S ps.length s.heap → (∀ c ∈ [z, TI, TO, i1, i2], FpOk X pins H c) → (∀ c o, H0 c = some o → H c = some o) → H S = some (.lst (ps.map V.ref)) → Prs H xs ys ps →
      codeAny (model X.prog X.w) A1 (.builtin "list.extend.loop" ⟨[.ref S, .ref z, .none], []⟩) Rs s := by
  intro m
  induction m with
  | zero =>
    intro ps H s hm I Z hf hk hSl hp
    refine codeAny_builtin PySem.F.entry_extend_loop ?_
    rw [Around.under_plainId PySem.F.plain_extend_loop _]
    show wpAny _ A1.in1 (pyNext (.ref z) >>= _) _ _ s
    have sm : Same H0 H := hk
    refine wpAny_bind (wpAny_mono (zip_stop (E := fun _ _ => False) hh D Z I hf (sm.seq ha0) (sm.seq hb0) (by omega)) (fun r s' hr => ?_) fun e s' he => he.elim)
    obtain ⟨rfl, I'⟩ := hr
    exact wpAny_pure (hdone ps H s' I' hk hSl (by omega) hp)
  | succ m ih =>
    intro ps H s hm I Z hf hk hSl hp
    refine codeAny_builtin PySem.F.entry_extend_loop ?_
    rw [Around.under_plainId PySem.F.plain_extend_loop _]
    show wpAny _ A1.in1 (pyNext (.ref z) >>= _) _ _ s
    have sm : Same H0 H := hk
    have hx : ps.length < xs.length := by omega
    have hy : ps.length < ys.length := by omega
    have zl := (I.list (sm.seq ha0)).choose_spec.2.2
    refine wpAny_bind (wpAny_mono (zip_turn (E := fun _ _ => False) D hS (by rw [hSl]; exact fun e => nomatch e) Z I hf (sm.seq ha0) (sm.seq hb0) (List.getElem?_eq_getElem hx) (List.getElem?_eq_getElem hy)) (fun r s' hr => ?_) fun e s' he => he.elim)
    obtain ⟨T, rfl, hT, I', Z', hf'⟩ := hr
    show wpAny _ A1.in1 (updateSeq S (·.push (.ref T)) >>= _) _ _ _
    have TS : S ≠ T := ne_of_none hSl hT
    have hSl' : upd H T (.tup [xs[ps.length], ys[ps.length]]) S = some (.lst (ps.map V.ref)) := by rw [upd_ne TS]; exact hSl
    obtain ⟨z0, its, k, r2, hl, e⟩ := I'.lstM hSl'
    have hpl : (ps.map V.ref).length = ps.length := List.length_map _
    refine wpAny_bind (wpAny_updateSeq e rfl (wpAny_pure ⟨plainId_quiet PySem.F.plain_extend_loop _, ?_⟩) (by rw [List.size_toArray]; omega) (by show (its.toArray.push (.ref T)).size ≤ sizeLine + 1; rw [Array.size_push, List.size_toArray]; omega))
    have I2 := I'.lset (f := (·.push (Value.ref T))) (its' := its ++ [.ref T]) (ys := (ps ++ [T]).map V.ref) (t' := s'.toks) hSl' e (by simp) (by rw [List.map_append]; exact r2.append (.cons rfl .nil)) (by rw [List.length_map, List.length_append, List.length_singleton]; omega)
    refine ih (ps ++ [T]) _ _ (by rw [List.length_append, List.length_singleton]; omega) I2 ?_ (fun c hc => ?_) (fun c o ho => ?_) upd_same (prs_snoc hp (fun j U eU o hU => ?_) (List.getElem?_eq_getElem hx) (List.getElem?_eq_getElem hy) ?_)
    · rw [List.length_append, List.length_singleton]
      exact Z'.keep hS fun c o hc q => (Heap.get?_update_other _ _ (Ne.symm hc)).trans q
    · have cS : c ≠ S := fun q => hS (by rw [← q]; exact hc)
      refine ⟨?_, (hf' c hc).2⟩
      rw [upd_ne cS]
      exact (hf' c hc).1
    · have cS : c ≠ S := fun q => by rw [q, hS0] at ho; cases ho
      have cT : c ≠ T := ne_of_none (hk c o ho) hT
      rw [upd_ne cS, upd_ne cT]
      exact hk c o ho
    · have US : U ≠ S := fun q => by rw [q, hSl] at hU; obtain ⟨_, _, _, _, e3⟩ := hp j U eU; rw [q, hSl] at e3; cases e3
      rw [upd_ne US, upd_ne (ne_of_none hU hT)]
      exact hU
    · rw [upd_ne (Ne.symm TS), upd_same]
theorem zip_no_len : typeLookup (.type "zip") "__len__" = pure none := by rw [typeLookup_type, builtinLookup_eq_fast]; kernel_rfl
theorem zip_no_hint : typeLookup (.type "zip") "__length_hint__" = pure none := by rw [typeLookup_type, builtinLookup_eq_fast]; kernel_rfl
theorem zip_hint {M : Model} {A : Around} {E : Value → Shared → Prop} {s : Shared} {Q : Bool → Shared → Prop} (hT : s.TypeIs (.ref z) "zip") (h : Q true s) : wpAny M A (PySem.Builtin.List.listLengthHint (.ref z)) Q E s := by
  unfold PySem.Builtin.List.listLengthHint
  refine wpAny_bind (wpAny_specialOf hT zip_no_len ?_)
  show wpAny _ A (specialOf (Value.ref z) (Str.ofString "__length_hint__") >>= _) _ _ _
  refine wpAny_bind (wpAny_specialOf hT zip_no_hint ?_)
  exact wpAny_pure h
theorem zst0 {h : Heap} (lt : TO < S) (hz : IsZip h z TI TO .none) (hTI : IsPair h TI (.ref i1) (.ref i2)) (hTO : ∃ x y, IsPair h TO x y) (h1 : h.IsListIter i1 a 0) (h2 : h.IsListIter i2 b 0) : Zst z TI TO i1 i2 a b S 0 h := ⟨lt, hTI, h1, h2, .inl ⟨rfl, hz, hTO⟩⟩
theorem zst_typ {i : Nat} {s : Shared} (Z : Zst z TI TO i1 i2 a b S i s.heap) : s.TypeIs (.ref z) "zip" := by
  rcases Z.st with ⟨_, hz, _⟩ | ⟨_, _, _, hz, _⟩
  · exact ⟨_, hz, rfl⟩
  · exact ⟨_, hz, rfl⟩
theorem zst_iter {A : Around} {E : Value → Shared → Prop} {s : Shared} {P : Program} {w : World} {Q : Value → Shared → Prop} (Z : Zst z TI TO i1 i2 a b S 0 s.heap) (h : Q (.ref z) s) : wpAny (model P w) A (pyIter (.ref z)) Q E s := by
  rcases Z.st with ⟨_, hz, _⟩ | ⟨e, _⟩
  · exact wpAny_pyIter_zip hz h
  · exact absurd e (Nat.lt_irrefl 0)
theorem zip_extend {A1 : Around} {H : Hp} {s : Shared} {Rs : Result → Shared → Prop} (hh : A1.in1.handled = none) (D : ZipApart z TI TO i1 i2 a b) (hS : S ∉ [z, TI, TO, i1, i2]) {H0 : Hp} (ha0 : SqL X.K H0 a xs) (hb0 : SqL X.K H0 b ys) (hS0 : H0 S = none)
    (hdone : ∀ ps H s, Inv X pins σ H s → (∀ c o, H0 c = some o → H c = some o) → H S = some (.lst (ps.map V.ref)) → ps.length = min xs.length ys.length → Prs H xs ys ps → Rs (.ok (.ret .none)) s)
    (I : Inv X pins σ H s) (Z : Zst z TI TO i1 i2 a b S 0 s.heap) (hf : ∀ c ∈ [z, TI, TO, i1, i2], FpOk X pins H c) (hk : ∀ c o, H0 c = some o → H c = some o) (hSl : H S = some (.lst [])) :
    wpAny (model X.prog X.w) A1.in1 (PySem.Builtin.List.listExtendWith (.ref S) (.ref z) .none)
      (fun fin s' => match fin with | .done f => Rs (.ok f) s' | .again c' => c'.quiet = true ∧ codeAny (model X.prog X.w) A1 c' Rs s') (fun e s' => Rs (.error e) s') s := by
  have hne : S ≠ z := fun e => hS (by simp [e])
  have go : ∀ s', Inv X pins σ H s' → Zst z TI TO i1 i2 a b S 0 s'.heap → codeAny (model X.prog X.w) A1 (.builtin "list.extend.loop" ⟨[.ref S, .ref z, .none], []⟩) Rs s' := fun s' I' Z' =>
    zip_loop hh D hS ha0 hb0 hS0 hdone _ [] H s' (by rw [List.length_nil]; exact Nat.zero_add _) I' Z' hf hk hSl fun j T e => by simp at e
  unfold PySem.Builtin.List.listExtendWith
  refine wpAny_bind (wpAny_typeOf (zst_typ Z) ?_)
  have h1 : PySem.Builtin.List.listSameRef (.ref S) (.ref z) = false := by simp [PySem.Builtin.List.listSameRef, hne]
  have h2 : (Value.type "zip" == Value.type "list") = false := by decide
  have h3 : (Value.type "zip" == Value.type "tuple") = false := by decide
  simp only [h1, h2, h3, Bool.or_false, Bool.false_eq_true, if_false]
  refine wpAny_bind (zst_iter Z ?_)
  refine wpAny_bind (wpAny_holding (zip_hint (zst_typ Z) ?_))
  obtain ⟨z3, its, k, r3, hl3, e3⟩ := I.lstM hSl
  cases r3
  refine wpAny_ite_split (fun _ => ?_) (fun _ => wpAny_pure ⟨plainId_quiet PySem.F.plain_extend_loop _, go s I Z⟩)
  refine wpAny_bind (wpAny_rule ?_)
  refine wpAny_bind ?_
  show wpAny _ _ (updateSeq S (·.push .none) >>= fun _ => updateSeq S (·.pop)) _ _ _
  refine wpAny_bind (wpAny_updateSeq e3 rfl ?_)
  have I2 := I.lset (f := (·.push Value.none)) (its' := [Value.none]) (ys := [.non]) (t' := s.toks) hSl e3 (by simp) (.cons rfl .nil) (by rw [List.length_singleton, sizeLine_eq]; decide)
  obtain ⟨z4, its4, k4, r4, hl4, e4⟩ := I2.lstM upd_same
  obtain ⟨u4, rfl, ru4⟩ := r4.one
  refine wpAny_updateSeq e4 rfl ?_ (by show 1 ≤ sizeLine; rw [sizeLine_eq]; decide) (by show 0 ≤ sizeLine + 1; exact Nat.zero_le _)
  refine wpAny_pure ⟨plainId_quiet PySem.F.plain_extend_loop _, go _ ?_ ?_⟩
  · have I3 := I2.lset (f := (·.pop)) (its := [u4]) (its' := []) (ys := []) (t' := s.toks) upd_same e4 (by rfl) .nil (Nat.zero_le _)
    rw [upd_upd] at I3
    have hH : upd H S (.lst []) = H := by
      funext c
      by_cases hb : c = S
      · rw [hb, upd_same, hSl]
      · rw [upd_ne hb]
    rw [hH] at I3
    exact I3
  · refine Z.keep hS fun c o hc q => ?_
    exact (Heap.get?_update_other _ _ (Ne.symm hc)).trans ((Heap.get?_update_other _ _ (Ne.symm hc)).trans q)
theorem list_zip {H : Hp} {s : Shared} {Q : VK} (hc : X.calm = true) (D : ZipApart z TI TO i1 i2 a b) (ha : SqL X.K H a xs) (hb : SqL X.K H b ys) (hlt : ∀ c ∈ [z, TI, TO, i1, i2], c < s.heap.objs.size) (hz : IsZip s.heap z TI TO .none) (hTI : IsPair s.heap TI (.ref i1) (.ref i2)) (hTO : ∃ x y, IsPair s.heap TO x y) (h1 : s.heap.IsListIter i1 a 0) (h2 : s.heap.IsListIter i2 b 0)
    (I : Inv X pins σ H s) (hf : ∀ c ∈ [z, TI, TO, i1, i2], FpOk X pins H c)
    (hQ : ∀ S ps H', H S = none → (∀ c o, H c = some o → H' c = some o) → H' S = some (.lst (ps.map V.ref)) → ps.length = min xs.length ys.length → Prs H' xs ys ps → Q (.ref S) H') :
    wpAny (model X.prog X.w) X.A (call (.type "list") [.ref z]) (EP X pins σ Q) X.xe s := by
  refine callType_codes (Q₁ := fun obj s₁ => obj = .ref s.heap.objs.size ∧ s₁ = { s with heap := s.heap.push { cls := .type "list", data := .seq #[] } }) PySem.F.called_list (PySem.F.typeCall_list_1 _) PySem.F.entry_list_init
    (code_list_new _ ⟨rfl, rfl⟩) fun obj s₁ h₁ => ?_
  obtain ⟨rfl, rfl⟩ := h₁
  have hS : (s.heap.push { cls := .type "list", data := .seq #[] }).get? s.heap.objs.size = some { cls := .type "list", data := .seq #[] } := Heap.get?_push_size _ rfl
  refine ⟨⟨_, hS, rfl⟩, PySem.F.args_list_init_2 _ _, ?_⟩
  have fr : H s.heap.objs.size = none := I.hok.fresh (Nat.le_refl _)
  have nS : s.heap.objs.size ∉ [z, TI, TO, i1, i2] := fun m => Nat.lt_irrefl _ (hlt _ m)
  have I1 : Inv X pins σ (upd H s.heap.objs.size (.lst [])) { s with heap := s.heap.push { cls := .type "list", data := .seq #[] } } := I.lnew (its := []) (t' := s.toks) .nil (Nat.zero_le _)
  have Z1 : Zst z TI TO i1 i2 a b s.heap.objs.size 0 (s.heap.push { cls := .type "list", data := .seq #[] }) := zst0 (hlt TO (by simp)) (Heap.get?_push_of_some _ hz) (Heap.get?_push_of_some _ hTI) (hTO.imp fun x h => h.imp fun y h => Heap.get?_push_of_some _ h) (h1.at fun o e => Heap.get?_push_of_some _ e) (h2.at fun o e => Heap.get?_push_of_some _ e)
  show wpAny _ _ (do let old ← PySem.Builtin.List.listItems (.ref s.heap.objs.size); PySem.Builtin.List.listUpdate (.ref s.heap.objs.size) (fun _ => #[]); letGo old.toList.reverse; PySem.Builtin.List.listExtendWith (.ref s.heap.objs.size) (.ref z) .none) _ _ _
  refine wpAny_bind ?_
  unfold PySem.Builtin.List.listItems
  refine wpAny_bind (wpAny_seqItems hS rfl (wpAny_pure ?_))
  show wpAny _ _ (updateSeq s.heap.objs.size (fun _ => #[]) >>= fun _ => letGo (#[] : Array Value).toList.reverse >>= fun _ => PySem.Builtin.List.listExtendWith (.ref s.heap.objs.size) (.ref z) .none) _ _ _
  refine wpAny_bind (wpAny_updateSeq hS rfl ?_)
  have I2 := I1.lset (f := fun _ => #[]) (its := []) (its' := []) (ys := []) (t' := s.toks) upd_same hS rfl .nil (Nat.zero_le _)
  rw [upd_upd] at I2
  refine wpAny_bind (wpAny_letGo ?_)
  refine zip_extend (A1 := X.A.in1) (H0 := H) (Rs := wants (fun r s₂ => r = .none ∧ EP X pins σ Q (.ref s.heap.objs.size) s₂) X.xe) (I.ok.hd hc) D nS ha hb fr
    (fun ps H' s' I' hk hl hn hp => ⟨rfl, .ref s.heap.objs.size, H', I', rfl, hQ _ ps H' fr hk hl hn hp⟩) I2 (Z1.keep nS fun c o hc q => (Heap.get?_update_other _ _ (Ne.symm hc)).trans q) (fun c hc => ?_) (fun c o q => ?_) upd_same
  · refine ⟨?_, (hf c hc).2⟩
    rw [upd_ne (fun e => nS (by rw [← e]; exact hc))]
    exact (hf c hc).1
  · rw [upd_ne (ne_of_none q fr)]
    exact q
/-- list(zip(x, y)) -/
def tListZip (K : PySem.W.Frag) (ta : TA) : TE := fun σ H Q => ta σ H fun vs H1 => ∃ a b xs ys, vs = [.ref a, .ref b] ∧ SqL K H1 a xs ∧ SqL K H1 b ys ∧
  ∀ S ps H', H1 S = none → Same H1 H' → H' S = some (.lst (ps.map V.ref)) → ps.length = min xs.length ys.length → Prs H' xs ys ps → Q (.ref S) H'
theorem pe_listZip {X : Cx} {e e2 : Expr} {ta : TA} {p pos q qos : Pos} (hc : X.calm = true) (hgl : Gl X "list") (hml : X.mg "list" = none) (hg : Gl X "zip") (hm : X.mg "zip" = none) (ha : PA X [e, e2] ta)
    (hs : starEach [e, e2] X.env = (false, eval e X.env) :: starEach [e2] X.env := by rfl) (hpl : (backTo pos (starEach [e2] X.env)).any (·.1) = false := by rfl)
    (na : starEach [Expr.Call (.Name "zip" p) [e, e2] [] pos] X.env = (false, eval (Expr.Call (.Name "zip" p) [e, e2] [] pos) X.env) :: starEach [] X.env := by rfl) :
    PE X (.Call (.Name "list" q) [.Call (.Name "zip" p) [e, e2] [] pos] [] qos) (tListZip X.K ta) := by
  refine ⟨fun pins s σ H Q I h => ?_⟩
  refine Call_ (ld_blt I hgl hml boot_list (PyProof.Rows.callWith_type1 (args_cons (thn (Q := fun v s2 => ∃ z TI TO i1 i2 a b xs ys H1, v = .ref z ∧ Inv X pins σ H1 s2 ∧ ZipApart z TI TO i1 i2 a b ∧ SqL X.K H1 a xs ∧ SqL X.K H1 b ys ∧ (∀ c ∈ [z, TI, TO, i1, i2], c < s2.heap.objs.size) ∧ IsZip s2.heap z TI TO .none ∧ IsPair s2.heap TI (.ref i1) (.ref i2) ∧ (∃ x y, IsPair s2.heap TO x y) ∧ s2.heap.IsListIter i1 a 0 ∧ s2.heap.IsListIter i2 b 0 ∧ (∀ c ∈ [z, TI, TO, i1, i2], FpOk X pins H1 c) ∧
      ∀ S ps H', H1 S = none → Same H1 H' → H' S = some (.lst (ps.map V.ref)) → ps.length = min xs.length ys.length → Prs H' xs ys ps → Q (.ref S) H') ?_ fun v s2 hv => args_nil ?_) na) na rfl))
  · refine Call_ (ld_blt I hg hm PyProof.Rows.boot_zip (PyProof.Rows.callWith_type1 (thn (ha.run pos pins s σ H _ I h) fun us s1 ⟨vs, H1, I1, r1, q1⟩ => ?_) hs hpl))
    obtain ⟨a, b, xs, ys, ex, hqx, hqy, q⟩ := q1
    subst ex
    cases r1 with
    | cons r rr =>
      cases rr with
      | cons r' rr =>
        cases rr
        cases r
        cases r'
        obtain ⟨its, rv, p1, _⟩ := I1.list hqx
        obtain ⟨its2, rv2, p2, _⟩ := I1.list hqy
        have la : a < s1.heap.objs.size := p1.lt
        have lb : b < s1.heap.objs.size := p2.lt
        refine call_zip_2 p1.isList p2.isList fun h' hz hTI hTO h1 h2 hsz hk => ?_
        have I2 : Inv X pins σ H1 { s1 with heap := h' } := I1.kept (t' := s1.toks) hk
        refine ⟨s1.heap.objs.size + 4, s1.heap.objs.size + 2, s1.heap.objs.size + 3, s1.heap.objs.size, s1.heap.objs.size + 1, a, b, xs, ys, H1, rfl, I2, PySem.W.ktu_apart s1.heap.objs.size a b la lb, hqx, hqy, fun c hcm => ?_, hz, hTI, ⟨_, _, hTO⟩, h1, h2, fun c hcm => ?_, q⟩
        · have e' : c = s1.heap.objs.size + 4 ∨ c = s1.heap.objs.size + 2 ∨ c = s1.heap.objs.size + 3 ∨ c = s1.heap.objs.size ∨ c = s1.heap.objs.size + 1 := by simpa using hcm
          show c < h'.objs.size
          rw [hsz]
          rcases e' with q | q | q | q | q
          · rw [q]; exact Nat.add_lt_add_left (by decide) _
          · rw [q]; exact Nat.add_lt_add_left (by decide) _
          · rw [q]; exact Nat.add_lt_add_left (by decide) _
          · rw [q]; exact Nat.lt_add_of_pos_right (by decide)
          · rw [q]; exact Nat.add_lt_add_left (by decide) _
        · have e' : c = s1.heap.objs.size + 4 ∨ c = s1.heap.objs.size + 2 ∨ c = s1.heap.objs.size + 3 ∨ c = s1.heap.objs.size ∨ c = s1.heap.objs.size + 1 := by simpa using hcm
          have hle : s1.heap.objs.size ≤ c := by
            rcases e' with q | q | q | q | q
            · rw [q]; exact Nat.le_add_right _ _
            · rw [q]; exact Nat.le_add_right _ _
            · rw [q]; exact Nat.le_add_right _ _
            · rw [q]; exact Nat.le_refl _
            · rw [q]; exact Nat.le_add_right _ _
          exact I1.fpOk hle (I1.hok.fresh hle)
  · obtain ⟨z, TI, TO, i1, i2, a, b, xs, ys, H1, rfl, I2, D, hqx, hqy, hlt, hz, hTI, hTO, h1, h2, hf, q⟩ := hv
    exact list_zip hc D hqx hqy hlt hz hTI hTO h1 h2 I2 hf q
end
end Sw
/-! zip of a tuple and a list -/
namespace Sw
open PySem PySem.Spec PyProof.Rows L2
def ItTL (K : PySem.W.Frag) (a b : Addr) : It where
  go i H := ∃ (xs ys : List V) (x y : V), SqT K H a xs ∧ SqL K H b ys ∧ xs[i]? = some x ∧ ys[i]? = some y
  yld i H v H' := ∃ T x y, v = .ref T ∧ H T = none ∧ H' = upd H T (.tup [x, y]) ∧ (∀ xs, SqT K H a xs → xs[i]? = some x) ∧ ∀ ys, SqL K H b ys → ys[i]? = some y
  stop i H := ∃ xs ys : List V, SqT K H a xs ∧ SqL K H b ys ∧ (i = xs.length ∨ i = ys.length) ∧ i ≤ xs.length ∧ i ≤ ys.length
theorem turn_zipTL {P : Program} {w : World} {K : PySem.W.Frag} {elts : List Expr} {kk : Nat} {tpos : Pos} {a b z TI TO i1 i2 : Addr} (D : ZipSep2 z TI TO i1 i2 [i1, a] [i2, b]) (ha : a ≠ i1) (hb : b ≠ i2) :
    Turn P w K (.Tuple elts kk tpos) (ItTL K a b) [z, TI, TO, i1, i2] z (fun i h => IsZip h z TI TO .none ∧ IsTupOf2 h TI (.ref i1) (.ref i2) ∧ (∃ a1 a2, IsTupOf2 h TO a1 a2) ∧ h.IsTupleIter i1 a i ∧ h.IsListIter i2 b i) where
  mem := by simp
  obj := fun i h st c hc => by
    obtain ⟨hz, hTI, ⟨x, y, hTO⟩, ⟨o1, e1, _, d1⟩, ⟨o2, e2, _, d2⟩⟩ := st
    have e' : c = z ∨ c = TI ∨ c = TO ∨ c = i1 ∨ c = i2 := by simpa using hc
    rcases e' with q | q | q | q | q
    · rw [q]; exact ⟨_, hz, fun v q => nomatch q⟩
    · rw [q]; exact ⟨_, hTI, fun v q => nomatch q⟩
    · rw [q]; exact ⟨_, hTO, fun v q => nomatch q⟩
    · rw [q]; exact ⟨o1, e1, fun v q => by rw [d1] at q; cases q⟩
    · rw [q]; exact ⟨o2, e2, fun v q => by rw [d2] at q; cases q⟩
  keep := fun i h h' st k => by
    obtain ⟨hz, hTI, ⟨x, y, hTO⟩, h1, h2⟩ := st
    exact ⟨k z (by simp) _ hz, k TI (by simp) _ hTI, ⟨x, y, k TO (by simp) _ hTO⟩, h1.at fun o q => k i1 (by simp) o q, h2.at fun o q => k i2 (by simp) o q⟩
  item := by
    intro X hP hw hK hc i pins s σ H E I hf st hg
    subst hP hw hK
    obtain ⟨hz, hTI, ⟨x0, y0, hTO⟩, h1, h2⟩ := st
    obtain ⟨xs, ys, x, y, hqx, hqy, hx, hy⟩ := hg
    obtain ⟨its, rv, p1, _⟩ := I.tuple hqx
    obtain ⟨its2, rv2, p2, _⟩ := I.list hqy
    have p0 : s.heap.IsTuple a its.toArray := p1
    have p3 : s.heap.IsList b its2.toArray := p2.isList
    obtain ⟨u1, hu1, ru1⟩ := rv.get hx
    obtain ⟨u2, hu2, ru2⟩ := rv2.get hy
    have hu0 : its.toArray[i]? = some u1 := by simpa using hu1
    have hu3 : its2.toArray[i]? = some u2 := by simpa using hu2
    have hzl : z < s.heap.objs.size := Heap.lt_size hz
    have D1 := Draws.tuple (prog := X.prog) (w := X.w) (A := X.A.in1) (I.ok.hd hc) i1 a ha its.toArray
    have D2 := Draws.list (prog := X.prog) (w := X.w) (A := X.A.in1) (I.ok.hd hc) i2 b hb its2.toArray
    refine wpAny_pyNext_zipD2_item D D1 D2 hz hTI hTO ⟨h1, p0⟩ ⟨h2, p3⟩ (Array.getElem?_eq_some_iff.mp hu0).1 (Array.getElem?_eq_some_iff.mp hu3).1 fun x1 x2 h' tk y1 y2 z' TO' h1' h2' hT hsz hk => ?_
    have y1 : its.toArray[i]? = some x1 := y1
    rw [hu0] at y1
    cases y1
    have y2 : its2.toArray[i]? = some x2 := y2
    rw [hu3] at y2
    cases y2
    obtain ⟨h2', _⟩ := h2'
    obtain ⟨h1', _⟩ := h1'
    refine ⟨_, rfl, wpAny_letOwnedTupleGo_zip (s := { s with heap := h', toks := tk }) z' fun h'' z'' sb => ?_⟩
    have hT2 : h''.get? s.heap.objs.size = some { cls := .type "tuple", data := .seq #[u1, u2] } := (sb.2 _ (Nat.ne_of_gt hzl)).trans hT
    have new : ObjOk X.prog X.w (upd H s.heap.objs.size (.tup [x, y])) h'' s.heap.objs.size (.tup [x, y]) :=
      ⟨by show 2 ≤ sizeLine; decide, [u1, u2], .cons ru1 (.cons ru2 .nil), ⟨_, hT2, rfl, _, rfl⟩⟩
    have I1 : Inv X pins σ (upd H s.heap.objs.size (.tup [x, y])) { s with heap := h'', toks := tk } :=
      I.turnedNew (t' := tk) (ch := [z, TI, TO, i1, i2]) (fun c o hb q => (sb.2 c (fun q' => hb (by simp [q']))).trans (hk c o (fun q' => hb (by simp [q'])) (fun q' => hb (by simp [q'])) (fun q' => hb (by simp [q'])) (fun q' => hb (by simp [q'])) q)) hf (Nat.le_refl _) new
    refine ⟨.ref s.heap.objs.size, _, I1, rfl, ⟨_, x, y, rfl, I.hok.fresh (Nat.le_refl _), rfl, fun l hl => by rw [I.tuple_inj hl hqx]; exact hx, fun l hl => by rw [I.list_inj hl hqy]; exact hy⟩, ⟨z'', ?_, ⟨u1, u2, ?_⟩, ?_, ?_⟩, fun c hcm => ?_⟩
    · exact (sb.2 _ D.TIz).trans (hk _ _ D.TIz D.TITO D.TIi1 D.TIi2 hTI)
    · exact (sb.2 _ D.TOz).trans TO'
    · exact h1'.at fun o q => (sb.2 _ D.zi1.symm).trans q
    · exact h2'.at fun o q => (sb.2 _ D.zi2.symm).trans q
    · have hlt : c < s.heap.objs.size := by
        have e' : c = z ∨ c = TI ∨ c = TO ∨ c = i1 ∨ c = i2 := by simpa using hcm
        rcases e' with q | q | q | q | q
        · rw [q]; exact hzl
        · rw [q]; exact Heap.lt_size hTI
        · rw [q]; exact Heap.lt_size hTO
        · rw [q]; obtain ⟨_, e1, _⟩ := h1; exact Heap.lt_size e1
        · rw [q]; obtain ⟨_, e2, _⟩ := h2; exact Heap.lt_size e2
      rw [upd_ne (Nat.ne_of_lt hlt)]
      exact (hf c hcm).1
  done := by
    intro X hP hw hK hc i pins s σ H E I hf st hg
    subst hP hw hK
    obtain ⟨hz, hTI, ⟨x0, y0, hTO⟩, h1, h2⟩ := st
    obtain ⟨xs, ys, hqx, hqy, hend, l1, l2⟩ := hg
    obtain ⟨its, rv, p1, _⟩ := I.tuple hqx
    obtain ⟨its2, rv2, p2, _⟩ := I.list hqy
    have p0 : s.heap.IsTuple a its.toArray := p1
    have p3 : s.heap.IsList b its2.toArray := p2.isList
    have ll := rv2.length
    have ll0 := rv.length
    have sz0 : its.toArray.size = xs.length := by rw [List.size_toArray, ll0]
    have D1 := Draws.tuple (prog := X.prog) (w := X.w) (A := X.A.in1) (I.ok.hd hc) i1 a ha its.toArray
    have D2 := Draws.list (prog := X.prog) (w := X.w) (A := X.A.in1) (I.ok.hd hc) i2 b hb its2.toArray
    have sz : its2.toArray.size = ys.length := by rw [List.size_toArray, ll]
    exact wpAny_pyNext_zipD2_end D D1 D2 hz hTI hTO ⟨h1, p0⟩ ⟨h2, p3⟩ (by rw [sz0]; exact l1) (by rw [sz]; exact l2) (by rw [sz, sz0]; exact hend) fun h' tk hk => ⟨rfl, I.turnedL (t' := tk) (ch := [z, TI, TO, i1, i2]) (fun c o hb q =>
      hk c o (fun q' => hb (by simp [q'])) (fun q' => hb (by simp [q'])) (fun q' => hb (by simp [q'])) (fun q' => hb (by simp [q'])) q) hf⟩
  self := fun A i s Q E st h => wpAny_pyIter_zip st.1 h
theorem sepTL (n a b : Nat) (h0 : a < n) (h : b < n) : ZipSep2 (n + 4) (n + 2) (n + 3) n (n + 1) [n, a] [n + 1, b] := by
  have two : ∀ c : Nat, c ≠ n + 1 → c ≠ b → ¬ List.Mem c [n + 1, b] := fun c h1 h2 e => by
    have e2 : c ∈ [n + 1, b] := e
    simp only [List.mem_cons, List.not_mem_nil, or_false] at e2
    omega
  have one : ∀ c : Nat, c ≠ n → c ≠ a → ¬ List.Mem c [n, a] := fun c h1 h2 e => by
    have e2 : c ∈ [n, a] := e
    simp only [List.mem_cons, List.not_mem_nil, or_false] at e2
    omega
  exact { TIz := by show ¬ ((n + 2 : Nat) = n + 4); omega
          TOz := by show ¬ ((n + 3 : Nat) = n + 4); omega
          TITO := by show ¬ ((n + 2 : Nat) = n + 3); omega
          TIi1 := by show ¬ ((n + 2 : Nat) = n); omega
          mem1 := List.mem_cons_self
          zf1 := one _ (by omega) (by omega)
          Tf1 := one _ (by omega) (by omega)
          TIi2 := by show ¬ ((n + 2 : Nat) = n + 1); omega
          mem2 := List.mem_cons_self
          zf2 := two _ (by omega) (by omega)
          Tf2 := two _ (by omega) (by omega)
          sep1_2 := two _ (by omega) (by omega)
          sep2_1 := one _ (by omega) (by omega) }
def iZipTL (K : PySem.W.Frag) (ta : TA) : TI := fun σ H R => ta σ H fun vs H1 => ∃ a b xs ys, vs = [.ref a, .ref b] ∧ SqT K H1 a xs ∧ SqL K H1 b ys ∧ R (ItTL K a b) H1
theorem pi_zipTL {X : Cx} {e e2 : Expr} {ta : TA} {p pos tpos : Pos} {elts : List Expr} {kk : Nat} (hg : Gl X "zip") (hm : X.mg "zip" = none) (ha : PA X [e, e2] ta)
    (hs : starEach [e, e2] X.env = (false, eval e X.env) :: starEach [e2] X.env := by rfl) (hpl : (backTo pos (starEach [e2] X.env)).any (·.1) = false := by rfl) :
    PI X (.Tuple elts kk tpos) (.Call (.Name "zip" p) [e, e2] [] pos) (iZipTL X.K ta) := by
  refine ⟨fun pins s σ H R I h => ?_⟩
  refine Call_ (ld_blt I hg hm PyProof.Rows.boot_zip (PyProof.Rows.callWith_type1 (thn (ha.run pos pins s σ H _ I h) fun us s1 ⟨vs, H1, I1, r1, q1⟩ => ?_) hs hpl))
  obtain ⟨a, b, xs, ys, ex, hqx, hqy, q⟩ := q1
  subst ex
  cases r1 with
  | @cons _ u1 _ us1 r1 r2 =>
  cases r1
  cases r2 with
  | @cons _ u2 _ us2 r3 r4 =>
  cases r4
  cases r3
  obtain ⟨its, rv, p1, _⟩ := I1.tuple hqx
  obtain ⟨its2, rv2, p2, _⟩ := I1.list hqy
  have p0 : s1.heap.IsTuple a its.toArray := p1
  have p3 : s1.heap.IsList b its2.toArray := p2.isList
  have al : a < s1.heap.objs.size := by
    obtain ⟨ob, e1, _⟩ := id p0
    exact Heap.lt_size e1
  have bl : b < s1.heap.objs.size := p2.lt
  refine zip_begins2 (begins_tuple a its.toArray) (begins_list b its2.toArray) p0 p3 fun h2 hz hTI hTO ho1 ho2 hsz hk => wpAny_pyIter_zip hz ?_
  have I2 : Inv X pins σ H1 { s1 with heap := h2 } := I1.kept (t' := s1.toks) hk
  have D : ZipSep2 (s1.heap.objs.size + 4) (s1.heap.objs.size + 2) (s1.heap.objs.size + 3) s1.heap.objs.size (s1.heap.objs.size + 1) [s1.heap.objs.size, a] [s1.heap.objs.size + 1, b] := sepTL _ _ _ al bl
  refine ⟨s1.heap.objs.size + 4, [s1.heap.objs.size + 4, s1.heap.objs.size + 2, s1.heap.objs.size + 3, s1.heap.objs.size, s1.heap.objs.size + 1], _, _, H1, rfl, I2, turn_zipTL D (Nat.ne_of_lt al) (Nat.ne_of_lt (Nat.lt_succ_of_lt bl)), ⟨hz, hTI, ⟨_, _, hTO⟩, ⟨_, ho1, rfl, rfl⟩, ⟨_, ho2, rfl, rfl⟩⟩, fun c hc => ?_, q⟩
  have le : s1.heap.objs.size ≤ c := le5 _ _ hc
  exact I1.fpOk le (I1.hok.fresh le)
theorem walk_zipTL {K : PySem.W.Frag} {a b : Addr} {xs ys : List V} {n : Nat} (h1 : n = xs.length) (h2 : n = ys.length) : Walk (ItTL K a b) n (fun H => SqT K H a xs ∧ SqL K H b ys) (YPair (fun i => xs[i]?) (fun i => ys[i]?)) := by
  refine ⟨fun i H hi q => ⟨xs, ys, xs[i], ys[i], q.1, q.2, List.getElem?_eq_getElem (by omega), List.getElem?_eq_getElem (by omega)⟩, fun H q => ⟨xs, ys, q.1, q.2, .inl h1, by omega, by omega⟩, fun i H v H' hi q y => ?_⟩
  obtain ⟨T, x0, y0, e1, e2, e3, e4, e5⟩ := y
  exact ⟨T, _, y0, e1, e2, e3, e4 xs q.1, e5 ys q.2⟩
end Sw
namespace M35
abbrev Mat := Nat → Nat → Int
def det : Nat → Mat → Int
  | 0, _ => 1
  | 1, f => f 0 0
  | 2, f => f 0 0 * f 1 1 - f 0 1 * f 1 0
  | 3, f => f 0 0 * (f 1 1 * f 2 2 - f 1 2 * f 2 1) - f 0 1 * (f 1 0 * f 2 2 - f 1 2 * f 2 0) + f 0 2 * (f 1 0 * f 2 1 - f 1 1 * f 2 0)
  | 4, f => f 0 0 * (f 1 1 * (f 2 2 * f 3 3 - f 2 3 * f 3 2) - f 1 2 * (f 2 1 * f 3 3 - f 2 3 * f 3 1) + f 1 3 * (f 2 1 * f 3 2 - f 2 2 * f 3 1))
      - f 0 1 * (f 1 0 * (f 2 2 * f 3 3 - f 2 3 * f 3 2) - f 1 2 * (f 2 0 * f 3 3 - f 2 3 * f 3 0) + f 1 3 * (f 2 0 * f 3 2 - f 2 2 * f 3 0))
      + f 0 2 * (f 1 0 * (f 2 1 * f 3 3 - f 2 3 * f 3 1) - f 1 1 * (f 2 0 * f 3 3 - f 2 3 * f 3 0) + f 1 3 * (f 2 0 * f 3 1 - f 2 1 * f 3 0))
      - f 0 3 * (f 1 0 * (f 2 1 * f 3 2 - f 2 2 * f 3 1) - f 1 1 * (f 2 0 * f 3 2 - f 2 2 * f 3 0) + f 1 2 * (f 2 0 * f 3 1 - f 2 1 * f 3 0))
  | _, _ => 0
def D (A : Mat) (k i j : Nat) : Int := det (k + 1) fun r c => A (if r < k then r else i) (if c < k then c else j)
def pv (A : Mat) : Nat → Int
  | 0 => 1
  | k + 1 => D A k k k
def E (A : Mat) (k i j : Nat) : Int := det k fun r c => A r (if c = i then j else c)
def grd (A : Mat) (k i j : Nat) : Int := if i < k then E A k i j else D A k i j
theorem det_congr {n : Nat} {f g : Mat} (h : ∀ r, r < n → ∀ c, c < n → f r c = g r c) : det n f = det n g := by
  match n, h with
  | 0, _ => rfl
  | 1, h => simp [det, h]
  | 2, h => simp [det, h]
  | 3, h => simp [det, h]
  | 4, h => simp [det, h]
  | _ + 5, _ => rfl
theorem grd_zero (A : Mat) (i j : Nat) : grd A 0 i j = A i j := by simp [grd, D, det]
theorem grd_piv (A : Mat) (k : Nat) : grd A k k k = pv A (k + 1) := by simp [grd, pv]
theorem grd_row (A : Mat) (k j : Nat) : grd A (k + 1) k j = grd A k k j := by
  unfold grd
  rw [if_pos (Nat.lt_succ_self k), if_neg (Nat.lt_irrefl k)]
  unfold E D
  refine det_congr fun r hr c hc => ?_
  have e1 : (if r < k then r else k) = r := by split <;> omega
  have e2 : (if c = k then j else c) = (if c < k then c else j) := by
    split <;> split <;> first | rfl | omega
  rw [e1, e2]
theorem dstep (A : Mat) : ∀ k i j, k < 3 → pv A (k + 1) * D A k i j - D A k i k * D A k k j = pv A k * D A (k + 1) i j := by
  intro k i j hk
  match k with
  | 0 => simp [pv, D, det]; grind
  | 1 => simp [pv, D, det]; grind
  | 2 => simp [pv, D, det]; grind
  | k + 3 => omega
theorem estep (A : Mat) : ∀ k i j, k < 4 → i < k → pv A (k+1) * E A k i j - E A k i k * D A k k j = pv A k * E A (k+1) i j := by
  intro k i j hk hi
  match k, i with
  | 0, i => omega
  | 1, 0 => simp [pv, D, E, det]; grind
  | 2, 0 => simp [pv, D, E, det]; grind
  | 2, 1 => simp [pv, D, E, det]; grind
  | 3, 0 => simp [pv, D, E, det]; grind
  | 3, 1 => simp [pv, D, E, det]; grind
  | 3, 2 => simp [pv, D, E, det]; grind
  | 1, i+1 => omega
  | 2, i+2 => omega
  | 3, i+3 => omega
  | k+4, i => omega
theorem grd_step (A : Mat) {k i : Nat} (j : Nat) (hk : k < 4) (hi : i < 4) (hik : i ≠ k) : pv A (k + 1) * grd A k i j - grd A k i k * grd A k k j = pv A k * grd A (k + 1) i j := by
  unfold grd
  rw [if_neg (Nat.lt_irrefl k)]
  by_cases h : i < k
  · rw [if_pos h, if_pos h, if_pos (by omega)]
    exact estep A k i j hk h
  · rw [if_neg h, if_neg h, if_neg (by omega)]
    exact dstep A k i j (by omega)
/-! two rows exchanged -/
def sw (k p r : Nat) : Nat := if r = k then p else if r = p then k else r
def swp (k p : Nat) (A : Mat) : Mat := fun r c => A (sw k p r) c
theorem sw_lt {k p r : Nat} (h : r < k) (hp : k ≤ p) : sw k p r = r := by
  unfold sw
  rw [if_neg (by omega), if_neg (by omega)]
theorem sw_ge {k p r : Nat} (h : k ≤ r) (hp : k ≤ p) : k ≤ sw k p r := by
  unfold sw
  split
  · exact hp
  · split
    · exact Nat.le_refl _
    · exact h
theorem sw_bd {k p r n : Nat} (h : r < n) (hk : k < n) (hp : p < n) : sw k p r < n := by
  unfold sw
  split
  · exact hp
  · split
    · exact hk
    · exact h
theorem sw_sw (k p r : Nat) : sw k p (sw k p r) = r := by
  unfold sw
  repeat' split
  all_goals first | omega | rfl
theorem D_swp (A : Mat) {k p i : Nat} (j : Nat) (hp : k ≤ p) : D (swp k p A) k i j = D A k (sw k p i) j := by
  unfold D swp
  refine det_congr fun r _ c _ => ?_
  congr 1
  by_cases h : r < k
  · rw [if_pos h, if_pos h, sw_lt h hp]
  · rw [if_neg h, if_neg h]
theorem E_swp (A : Mat) {k p i : Nat} (j : Nat) (hp : k ≤ p) : E (swp k p A) k i j = E A k i j := by
  unfold E swp
  refine det_congr fun r hr c _ => ?_
  rw [sw_lt hr hp]
theorem pv_swp (A : Mat) {k p : Nat} (hp : k ≤ p) : pv (swp k p A) k = pv A k := by
  match k with
  | 0 => rfl
  | m + 1 =>
    unfold pv D swp
    refine det_congr fun r hr c _ => ?_
    congr 1
    have : (if r < m then r else m) < m + 1 := by split <;> omega
    rw [sw_lt this hp]
theorem grd_swp (A : Mat) {k p i : Nat} (j : Nat) (hp : k ≤ p) : grd (swp k p A) k i j = grd A k (sw k p i) j := by
  unfold grd
  by_cases h : i < k
  · rw [if_pos h, sw_lt h hp, if_pos h, E_swp A j hp]
  · have := sw_ge (Nat.not_lt.mp h) hp
    rw [if_neg h, if_neg (by omega), D_swp A j hp]
theorem det_swp (A : Mat) : ∀ n k p, n ≤ 4 → k ≤ p → p < n → (det n (swp k p A) = 0 ↔ det n A = 0) := by
  intro n k p hn hk hp
  by_cases e : k = p
  · subst e
    have : det n (swp k k A) = det n A := det_congr fun r _ c _ => by
      unfold swp sw
      split
      · rename_i h; rw [h]
      · rfl
    rw [this]
  · have : det n (swp k p A) = - det n A := by
      match n, k, p with
      | 0, _, _ => omega
      | 1, k, p => omega
      | 2, 0, 1 => simp [det, swp, sw]; grind
      | 3, 0, 1 => simp [det, swp, sw]; grind
      | 3, 0, 2 => simp [det, swp, sw]; grind
      | 3, 1, 2 => simp [det, swp, sw]; grind
      | 4, 0, 1 => simp [det, swp, sw]; grind
      | 4, 0, 2 => simp [det, swp, sw]; grind
      | 4, 0, 3 => simp [det, swp, sw]; grind
      | 4, 1, 2 => simp [det, swp, sw]; grind
      | 4, 1, 3 => simp [det, swp, sw]; grind
      | 4, 2, 3 => simp [det, swp, sw]; grind
      | 2, k+1, p => omega
      | 2, 0, 0 => omega
      | 2, 0, p+2 => omega
      | 3, 0, 0 => omega
      | 3, 0, p+3 => omega
      | 3, 1, 0 => omega
      | 3, 1, 1 => omega
      | 3, 1, p+3 => omega
      | 3, k+2, p => omega
      | 4, 0, 0 => omega
      | 4, 0, p+4 => omega
      | 4, 1, 0 => omega
      | 4, 1, 1 => omega
      | 4, 1, p+4 => omega
      | 4, 2, 0 => omega
      | 4, 2, 1 => omega
      | 4, 2, 2 => omega
      | 4, 2, p+4 => omega
      | 4, k+3, p => omega
      | n+5, _, _ => omega
    rw [this]
    omega
/-! no pivot -/
theorem D_dup (A : Mat) : ∀ k i j, k < 4 → i < k → D A k i j = 0 := by
  intro k i j hk hi
  match k, i with
  | 0, i => omega
  | 1, 0 => simp [D, det]; grind
  | 2, 0 => simp [D, det]; grind
  | 2, 1 => simp [D, det]; grind
  | 3, 0 => simp [D, det]; grind
  | 3, 1 => simp [D, det]; grind
  | 3, 2 => simp [D, det]; grind
  | 1, i+1 => omega
  | 2, i+2 => omega
  | 3, i+3 => omega
  | k+4, i => omega
theorem col (A : Mat) : ∀ n k, n ≤ 4 → k < n → pv A k * det n A = det n fun r c => if c = k then D A k r k else A r c := by
  intro n k hn hk
  match n, k with
  | 0, _ => omega
  | 1, 0 => simp [pv, D, det]
  | 2, 0 => simp [pv, D, det]
  | 2, 1 => simp [pv, D, det]; grind
  | 3, 0 => simp [pv, D, det]
  | 3, 1 => simp [pv, D, det]; grind
  | 3, 2 => simp [pv, D, det]; grind
  | 4, 0 => simp [pv, D, det]
  | 4, 1 => simp [pv, D, det]; grind
  | 4, 2 => simp [pv, D, det]; grind
  | 4, 3 => simp [pv, D, det]; grind
  | 1, k+1 => omega
  | 2, k+2 => omega
  | 3, k+3 => omega
  | 4, k+4 => omega
  | n+5, _ => omega
theorem det_col0 (f : Mat) : ∀ n k, n ≤ 4 → k < n → (∀ r, r < n → f r k = 0) → det n f = 0 := by
  intro n k hn hk h
  match n, k with
  | 0, _ => omega
  | 1, 0 => simp [det, h]
  | 2, 0 => simp [det, h]
  | 2, 1 => simp [det, h]
  | 3, 0 => simp [det, h]
  | 3, 1 => simp [det, h]
  | 3, 2 => simp [det, h]
  | 4, 0 => simp [det, h]
  | 4, 1 => simp [det, h]
  | 4, 2 => simp [det, h]
  | 4, 3 => simp [det, h]
  | 1, k+1 => omega
  | 2, k+2 => omega
  | 3, k+3 => omega
  | 4, k+4 => omega
  | n+5, _ => omega
theorem no_pivot (A : Mat) {n k : Nat} (hn : n ≤ 4) (hk : k < n) (hp : pv A k ≠ 0) (h : ∀ i, k ≤ i → i < n → D A k i k = 0) : det n A = 0 := by
  have e := (col A n k hn hk).trans (det_col0 (fun r c => if c = k then D A k r k else A r c) n k hn hk fun r hr => by
    show (if k = k then D A k r k else A r k) = 0
    rw [if_pos rfl]
    by_cases hrk : r < k
    · exact D_dup A k r k (by omega) hrk
    · exact h r (by omega) hr)
  exact (Int.mul_eq_zero.mp e).resolve_left hp
theorem pv_det (A : Mat) {n : Nat} (hn : n ≤ 4) : pv A n = det n A := by
  match n with
  | 0 => rfl
  | m + 1 =>
    unfold pv D
    refine det_congr fun r hr c hc => ?_
    have e1 : (if r < m then r else m) = r := by split <;> omega
    have e2 : (if c < m then c else m) = c := by split <;> omega
    rw [e1, e2]
/-! the pivots one by one -/
def pivG (G : Nat → Int) : Nat → Nat → Option Nat
  | 0, _ => none
  | m + 1, i => if G i ≠ 0 then some i else pivG G m (i + 1)
theorem pivG_some {G : Nat → Int} : ∀ {m i p}, pivG G m i = some p → i ≤ p ∧ p < i + m ∧ G p ≠ 0
  | 0, _, _, h => nomatch h
  | m + 1, i, p, h => by
    unfold pivG at h
    split at h
    · cases h
      refine ⟨Nat.le_refl _, by omega, by assumption⟩
    · obtain ⟨a, b, c⟩ := pivG_some h
      exact ⟨by omega, by omega, c⟩
theorem pivG_none {G : Nat → Int} : ∀ {m i}, pivG G m i = none → ∀ j, i ≤ j → j < i + m → G j = 0
  | 0, _, _, _, _, _ => by omega
  | m + 1, i, h, j, h1, h2 => by
    unfold pivG at h
    split at h
    · cases h
    · rename_i h0
      by_cases e : j = i
      · subst e
        exact Classical.not_not.mp h0
      · exact pivG_none h j (by omega) (by omega)
def piv (n : Nat) (A : Mat) (k : Nat) : Option Nat := pivG (fun i => grd A k i k) (n - k) k
def goF (n : Nat) : Nat → Nat → Mat → Option Mat
  | 0, _, A => some A
  | m + 1, k, A => match piv n A k with
    | none => none
    | some p => goF n m (k + 1) (swp k p A)
theorem piv_pv {n : Nat} {A : Mat} {k p : Nat} (h : piv n A k = some p) : k ≤ p ∧ (k ≤ n → p < n) ∧ pv (swp k p A) (k + 1) ≠ 0 := by
  obtain ⟨a, b, c⟩ := pivG_some h
  refine ⟨a, fun _ => by omega, ?_⟩
  rw [← grd_piv, grd_swp A k a]
  have : sw k p k = p := if_pos rfl
  rw [this]
  exact c
theorem goF_none {n : Nat} (hn : n ≤ 4) : ∀ {m k A}, goF n m k A = none → k + m = n → pv A k ≠ 0 → det n A = 0
  | 0, _, _, h, _, _ => nomatch h
  | m + 1, k, A, h, e, hp => by
    unfold goF at h
    split at h
    · rename_i hq
      refine no_pivot A hn (by omega) hp fun i h1 h2 => ?_
      have := pivG_none hq i h1 (by omega)
      unfold grd at this
      rw [if_neg (by omega)] at this
      exact this
    · rename_i p hq
      obtain ⟨a, b, c⟩ := piv_pv hq
      exact (det_swp A n k p hn a (b (by omega))).mp (goF_none hn h (by omega) c)
theorem goF_some {n : Nat} (hn : n ≤ 4) : ∀ {m k A B}, goF n m k A = some B → k + m = n → pv A k ≠ 0 → pv B n ≠ 0 ∧ (∀ r, r < n → ∃ i, i < n ∧ ∀ c, A r c = B i c) ∧ (det n B = 0 ↔ det n A = 0)
  | 0, k, A, B, h, e, hp => by
    cases h
    rw [Nat.add_zero] at e
    subst e
    exact ⟨hp, fun r hr => ⟨r, hr, fun _ => rfl⟩, Iff.rfl⟩
  | m + 1, k, A, B, h, e, hp => by
    unfold goF at h
    split at h
    · cases h
    · rename_i p hq
      obtain ⟨a, b, c⟩ := piv_pv hq
      have hpn := b (by omega)
      obtain ⟨h1, h2, h3⟩ := goF_some hn h (by omega) c
      refine ⟨h1, fun r hr => ?_, h3.trans (det_swp A n k p hn a hpn)⟩
      obtain ⟨i, hi, hc⟩ := h2 (sw k p r) (sw_bd hr (by omega) hpn)
      refine ⟨i, hi, fun c => ?_⟩
      rw [← hc c]
      unfold swp
      rw [sw_sw]
/-- each equation is kept -/
theorem cram (A : Mat) : ∀ n i j, n ≤ 4 → i < n → ((List.range n).map fun c => A i c * E A n c j).sum = pv A n * A i j := by
  intro n i j hn hi
  match n, i with
  | 0, _ => omega
  | 1, 0 => simp [List.range_succ, pv, D, E, det]
  | 2, 0 => simp [List.range_succ, pv, D, E, det]; grind
  | 2, 1 => simp [List.range_succ, pv, D, E, det]; grind
  | 3, 0 => simp [List.range_succ, pv, D, E, det]; grind
  | 3, 1 => simp [List.range_succ, pv, D, E, det]; grind
  | 3, 2 => simp [List.range_succ, pv, D, E, det]; grind
  | 4, 0 => simp [List.range_succ, pv, D, E, det]; grind
  | 4, 1 => simp [List.range_succ, pv, D, E, det]; grind
  | 4, 2 => simp [List.range_succ, pv, D, E, det]; grind
  | 4, 3 => simp [List.range_succ, pv, D, E, det]; grind
  | 1, k+1 => omega
  | 2, k+2 => omega
  | 3, k+3 => omega
  | 4, k+4 => omega
  | n+5, _ => omega
/-! how great -/
theorem bmul {x y : Int} {X Y : Nat} (h1 : x.natAbs ≤ X) (h2 : y.natAbs ≤ Y) : (x * y).natAbs ≤ X * Y := by
  rw [Int.natAbs_mul]
  exact Nat.mul_le_mul h1 h2
theorem badd {x y : Int} {X Y : Nat} (h1 : x.natAbs ≤ X) (h2 : y.natAbs ≤ Y) : (x + y).natAbs ≤ X + Y := by omega
theorem bsub {x y : Int} {X Y : Nat} (h1 : x.natAbs ≤ X) (h2 : y.natAbs ≤ Y) : (x - y).natAbs ≤ X + Y := by omega
theorem det_bd {f : Mat} {B : Nat} (hB : 1 ≤ B) : ∀ n, (∀ r, r < n → ∀ c, c < n → (f r c).natAbs ≤ B) → (det n f).natAbs ≤ 24 * B ^ 4 := by
  intro n h
  have p1 : 1 ≤ B ^ 4 := Nat.one_le_pow _ _ (by omega)
  have q1 : B ≤ B ^ 4 := by
    have := Nat.pow_le_pow_right (n := B) (by omega) (show 1 ≤ 4 by omega)
    rw [Nat.pow_one] at this
    exact this
  have q2 : B * B ≤ B ^ 4 := by
    have := Nat.pow_le_pow_right (n := B) (by omega) (show 2 ≤ 4 by omega)
    rw [Nat.pow_two] at this
    exact this
  have q3 : B * (B * B) ≤ B ^ 4 := by
    have := Nat.pow_le_pow_right (n := B) (by omega) (show 3 ≤ 4 by omega)
    have e : B ^ 3 = B * (B * B) := by grind
    rw [e] at this
    exact this
  have q4 : B * (B * (B * B)) = B ^ 4 := by grind
  match n, h with
  | 0, h => show (1 : Int).natAbs ≤ _; simp; omega
  | 1, h =>
    have := h 0 (by omega) 0 (by omega)
    show (f 0 0).natAbs ≤ _
    omega
  | 2, h =>
    have g : ∀ r c, r < 2 → c < 2 → (f r c).natAbs ≤ B := fun r c h1 h2 => h r h1 c h2
    have : (det 2 f).natAbs ≤ B * B + B * B := bsub (bmul (g _ _ (by omega) (by omega)) (g _ _ (by omega) (by omega))) (bmul (g _ _ (by omega) (by omega)) (g _ _ (by omega) (by omega)))
    omega
  | 3, h =>
    have g : ∀ r c, r < 3 → c < 3 → (f r c).natAbs ≤ B := fun r c h1 h2 => h r h1 c h2
    have m2 : ∀ a b c d e i j k, a < 3 → b < 3 → c < 3 → d < 3 → e < 3 → i < 3 → j < 3 → k < 3 → (f a b * f c d - f e i * f j k).natAbs ≤ B * B + B * B := fun a b c d e i j k h1 h2 h3 h4 h5 h6 h7 h8 => bsub (bmul (g _ _ h1 h2) (g _ _ h3 h4)) (bmul (g _ _ h5 h6) (g _ _ h7 h8))
    have : (det 3 f).natAbs ≤ B * (B * B + B * B) + B * (B * B + B * B) + B * (B * B + B * B) :=
      badd (bsub (bmul (g _ _ (by omega) (by omega)) (m2 _ _ _ _ _ _ _ _ (by omega) (by omega) (by omega) (by omega) (by omega) (by omega) (by omega) (by omega))) (bmul (g _ _ (by omega) (by omega)) (m2 _ _ _ _ _ _ _ _ (by omega) (by omega) (by omega) (by omega) (by omega) (by omega) (by omega) (by omega)))) (bmul (g _ _ (by omega) (by omega)) (m2 _ _ _ _ _ _ _ _ (by omega) (by omega) (by omega) (by omega) (by omega) (by omega) (by omega) (by omega)))
    have e : B * (B * B + B * B) + B * (B * B + B * B) + B * (B * B + B * B) = 6 * (B * (B * B)) := by grind
    omega
  | 4, h =>
    have g : ∀ r c, r < 4 → c < 4 → (f r c).natAbs ≤ B := fun r c h1 h2 => h r h1 c h2
    have m2 : ∀ a b c d e i j k, a < 4 → b < 4 → c < 4 → d < 4 → e < 4 → i < 4 → j < 4 → k < 4 → (f a b * f c d - f e i * f j k).natAbs ≤ B * B + B * B := fun a b c d e i j k h1 h2 h3 h4 h5 h6 h7 h8 => bsub (bmul (g _ _ h1 h2) (g _ _ h3 h4)) (bmul (g _ _ h5 h6) (g _ _ h7 h8))
    have m3 : ∀ {x y z u v w : Int}, x.natAbs ≤ B → y.natAbs ≤ B → z.natAbs ≤ B → u.natAbs ≤ B * B + B * B → v.natAbs ≤ B * B + B * B → w.natAbs ≤ B * B + B * B → (x * u - y * v + z * w).natAbs ≤ 6 * (B * (B * B)) := fun {x y z u v w} h1 h2 h3 h4 h5 h6 => by
      have := badd (bsub (bmul h1 h4) (bmul h2 h5)) (bmul h3 h6)
      have e : B * (B * B + B * B) + B * (B * B + B * B) + B * (B * B + B * B) = 6 * (B * (B * B)) := by grind
      omega
    have : (det 4 f).natAbs ≤ B * (6 * (B * (B * B))) + B * (6 * (B * (B * B))) + B * (6 * (B * (B * B))) + B * (6 * (B * (B * B))) := by
      refine bsub (badd (bsub (bmul (g _ _ (by omega) (by omega)) ?_) (bmul (g _ _ (by omega) (by omega)) ?_)) (bmul (g _ _ (by omega) (by omega)) ?_)) (bmul (g _ _ (by omega) (by omega)) ?_)
      all_goals exact m3 (g _ _ (by omega) (by omega)) (g _ _ (by omega) (by omega)) (g _ _ (by omega) (by omega)) (m2 _ _ _ _ _ _ _ _ (by omega) (by omega) (by omega) (by omega) (by omega) (by omega) (by omega) (by omega)) (m2 _ _ _ _ _ _ _ _ (by omega) (by omega) (by omega) (by omega) (by omega) (by omega) (by omega) (by omega)) (m2 _ _ _ _ _ _ _ _ (by omega) (by omega) (by omega) (by omega) (by omega) (by omega) (by omega) (by omega))
    have e : B * (6 * (B * (B * B))) + B * (6 * (B * (B * B))) + B * (6 * (B * (B * B))) + B * (6 * (B * (B * B))) = 24 * (B * (B * (B * B))) := by grind
    omega
  | n + 5, _ => show (0 : Int).natAbs ≤ _; simp
/-! rows by fractions -/
abbrev MatQ := Nat → Nat → Rat
def detQ : Nat → MatQ → Rat
  | 0, _ => 1
  | 1, f => f 0 0
  | 2, f => f 0 0 * f 1 1 - f 0 1 * f 1 0
  | 3, f => f 0 0 * (f 1 1 * f 2 2 - f 1 2 * f 2 1) - f 0 1 * (f 1 0 * f 2 2 - f 1 2 * f 2 0) + f 0 2 * (f 1 0 * f 2 1 - f 1 1 * f 2 0)
  | 4, f => f 0 0 * (f 1 1 * (f 2 2 * f 3 3 - f 2 3 * f 3 2) - f 1 2 * (f 2 1 * f 3 3 - f 2 3 * f 3 1) + f 1 3 * (f 2 1 * f 3 2 - f 2 2 * f 3 1))
      - f 0 1 * (f 1 0 * (f 2 2 * f 3 3 - f 2 3 * f 3 2) - f 1 2 * (f 2 0 * f 3 3 - f 2 3 * f 3 0) + f 1 3 * (f 2 0 * f 3 2 - f 2 2 * f 3 0))
      + f 0 2 * (f 1 0 * (f 2 1 * f 3 3 - f 2 3 * f 3 1) - f 1 1 * (f 2 0 * f 3 3 - f 2 3 * f 3 0) + f 1 3 * (f 2 0 * f 3 1 - f 2 1 * f 3 0))
      - f 0 3 * (f 1 0 * (f 2 1 * f 3 2 - f 2 2 * f 3 1) - f 1 1 * (f 2 0 * f 3 2 - f 2 2 * f 3 0) + f 1 2 * (f 2 0 * f 3 1 - f 2 1 * f 3 0))
  | _, _ => 0
theorem det_cast (A : Mat) : ∀ n, ((det n A : Int) : Rat) = detQ n fun i j => (A i j : Rat)
  | 0 => by simp [det, detQ]
  | 1 => by simp [det, detQ]
  | 2 => by simp [det, detQ]
  | 3 => by simp [det, detQ]
  | 4 => by simp [det, detQ]
  | n + 5 => by simp [det, detQ]
theorem detQ_scale {c : Nat → Rat} {q : MatQ} {A : Mat} {n : Nat} (hn : n ≤ 4) (hc : ∀ i, i < n → c i ≠ 0) (h : ∀ i, i < n → ∀ j, j < n → (A i j : Rat) = c i * q i j) : det n A = 0 ↔ detQ n q = 0 := by
  have e : ((det n A : Int) : Rat) = ((List.range n).map c).foldr (· * ·) 1 * detQ n q := by
    rw [det_cast]
    match n, h with
    | 0, h => simp [detQ]
    | 1, h => simp [detQ, List.range_succ, h]
    | 2, h => simp [detQ, List.range_succ, h]; grind
    | 3, h => simp [detQ, List.range_succ, h]; grind
    | 4, h => simp [detQ, List.range_succ, h]; grind
    | n + 5, _ => omega
  have hp : ((List.range n).map c).foldr (· * ·) 1 ≠ 0 := by
    match n, hc with
    | 0, hc => simp
    | 1, hc => simp [List.range_succ]; have := hc 0 (by omega); grind
    | 2, hc => simp [List.range_succ]; have := hc 0 (by omega); have := hc 1 (by omega); grind
    | 3, hc => simp [List.range_succ]; have := hc 0 (by omega); have := hc 1 (by omega); have := hc 2 (by omega); grind
    | 4, hc => simp [List.range_succ]; have := hc 0 (by omega); have := hc 1 (by omega); have := hc 2 (by omega); have := hc 3 (by omega); grind
    | n + 5, _ => omega
  constructor
  · intro z
    rw [z] at e
    have : ((0 : Int) : Rat) = 0 := rfl
    rw [this] at e
    grind
  · intro z
    rw [z] at e
    have : ((det n A : Int) : Rat) = ((0 : Int) : Rat) := by
      rw [e]
      grind
    exact_mod_cast this
end M35
namespace M35
/-! the rows led to steps: each row stays once it leads -/
def stp (A : Mat) (k i j : Nat) : Int := if i < k then D A i i j else D A k i j
theorem stp_zero (A : Mat) (i j : Nat) : stp A 0 i j = A i j := by simp [stp, D, det]
theorem stp_piv (A : Mat) (k : Nat) : stp A k k k = pv A (k + 1) := by simp [stp, pv]
theorem stp_low (A : Mat) {k i : Nat} (j : Nat) (h : i ≤ k) : stp A (k + 1) i j = stp A k i j := by
  unfold stp
  rw [if_pos (by omega)]
  by_cases e : i < k
  · rw [if_pos e]
  · rw [if_neg e]
    have : i = k := by omega
    subst this
    rfl
theorem stp_step (A : Mat) {k i : Nat} (j : Nat) (h : k < i) (hi : i < 4) : pv A (k + 1) * stp A k i j - stp A k i k * stp A k k j = pv A k * stp A (k + 1) i j := by
  unfold stp
  simp only [if_neg (show ¬ i < k by omega), if_neg (show ¬ k < k by omega), if_neg (show ¬ i < k + 1 by omega)]
  exact dstep A k i j (by omega)
theorem D_dupC (A : Mat) : ∀ k i j, k < 4 → j < k → D A k i j = 0 := by
  intro k i j hk hj
  match k, j with
  | 1, 0 => simp [D, det]
  | 2, 0 => simp [D, det]; grind
  | 2, 1 => simp [D, det]; grind
  | 3, 0 => simp [D, det]; grind
  | 3, 1 => simp [D, det]; grind
  | 3, 2 => simp [D, det]; grind
  | 1, j+1 => omega
  | 2, j+2 => omega
  | 3, j+3 => omega
  | k+4, j => omega
/-- behind a step: noughts up to it -/
theorem stp_nought (A : Mat) {k i j : Nat} (h : k ≤ i) (hi : i < 4) (hj : j < k) : stp A k i j = 0 := by
  unfold stp
  rw [if_neg (by omega)]
  exact D_dupC A k i j (by omega) hj
theorem stp_swp (A : Mat) {k p i : Nat} (j : Nat) (hp : k ≤ p) : stp (swp k p A) k i j = stp A k (sw k p i) j := by
  unfold stp
  by_cases h : i < k
  · rw [if_pos h, sw_lt h hp, if_pos h]
    unfold D swp
    refine det_congr fun r hr c _ => ?_
    have : (if r < i then r else i) < k := by split <;> omega
    rw [sw_lt this hp]
  · have := sw_ge (Nat.not_lt.mp h) hp
    rw [if_neg h, if_neg (by omega), D_swp A j hp]
theorem pv_swpL (A : Mat) {m k p : Nat} (hm : m ≤ k) (hp : k ≤ p) : pv (swp k p A) m = pv A m := by
  match m with
  | 0 => rfl
  | m + 1 =>
    unfold pv D swp
    refine det_congr fun r hr c _ => ?_
    congr 1
    have : (if r < m then r else m) < k := by split <;> omega
    rw [sw_lt this hp]
theorem pivG_congr {G G' : Nat → Int} : ∀ {m k : Nat}, (∀ i, k ≤ i → G i = G' i) → pivG G m k = pivG G' m k
  | 0, _, _ => rfl
  | m + 1, k, h => by
    unfold pivG
    rw [h k (Nat.le_refl _), pivG_congr (m := m) (k := k + 1) fun i hi => h i (by omega)]
theorem piv_stp {n : Nat} {A : Mat} {k : Nat} : pivG (fun i => stp A k i k) (n - k) k = piv n A k := by
  unfold piv
  refine pivG_congr fun i hi => ?_
  unfold stp grd
  rw [if_neg (by omega), if_neg (by omega)]
theorem key43 (A : Mat) (e0 e1 e2 e3 d : Int) : D A 3 3 3 * e3 - d * D A 3 3 4 = (A 0 0 * (A 1 1 * A 2 2 - A 1 2 * A 2 1) - A 0 1 * (A 1 0 * A 2 2 - A 1 2 * A 2 0) + A 0 2 * (A 1 0 * A 2 1 - A 1 1 * A 2 0)) * (A 3 0 * e0 + A 3 1 * e1 + A 3 2 * e2 + A 3 3 * e3 - d * A 3 4) - (A 0 0 * (A 1 1 * A 3 2 - A 1 2 * A 3 1) - A 0 1 * (A 1 0 * A 3 2 - A 1 2 * A 3 0) + A 0 2 * (A 1 0 * A 3 1 - A 1 1 * A 3 0)) * (A 2 0 * e0 + A 2 1 * e1 + A 2 2 * e2 + A 2 3 * e3 - d * A 2 4) + (A 0 0 * (A 2 1 * A 3 2 - A 2 2 * A 3 1) - A 0 1 * (A 2 0 * A 3 2 - A 2 2 * A 3 0) + A 0 2 * (A 2 0 * A 3 1 - A 2 1 * A 3 0)) * (A 1 0 * e0 + A 1 1 * e1 + A 1 2 * e2 + A 1 3 * e3 - d * A 1 4) - (A 1 0 * (A 2 1 * A 3 2 - A 2 2 * A 3 1) - A 1 1 * (A 2 0 * A 3 2 - A 2 2 * A 3 0) + A 1 2 * (A 2 0 * A 3 1 - A 2 1 * A 3 0)) * (A 0 0 * e0 + A 0 1 * e1 + A 0 2 * e2 + A 0 3 * e3 - d * A 0 4) := by
  simp [D, det]
  grind
/-- what lies behind the step in a row, times what was found -/
def beh (A : Mat) (n i m : Nat) : Int := ((List.range m).map fun t => D A i i (i + 1 + t) * E A n (i + 1 + t) n).sum
theorem back (A : Mat) : ∀ n i, n ≤ 4 → i < n → beh A n i (n - (i + 1)) + D A i i i * E A n i n = pv A n * D A i i n := by
  intro n i hn hi
  match n, i with
  | 0, _ => omega
  | 1, 0 =>
    have h0 := cram A 1 0 1 (by omega) (by omega)
    simp [List.range_succ] at h0
    simp [beh, D, det]
    exact h0
  | 2, 0 =>
    have h0 := cram A 2 0 2 (by omega) (by omega)
    simp [List.range_succ] at h0
    simp [beh, D, det, List.range_succ]
    grind
  | 2, 1 =>
    simp [beh, D, det, List.range_succ]
    have h0 := cram A 2 0 2 (by omega) (by omega)
    have h1 := cram A 2 1 2 (by omega) (by omega)
    simp [List.range_succ] at h0 h1
    generalize E A 2 0 2 = e0 at *
    generalize E A 2 1 2 = e1 at *
    generalize pv A 2 = d at *
    grind
  | 3, 0 =>
    have h0 := cram A 3 0 3 (by omega) (by omega)
    simp [List.range_succ] at h0
    simp [beh, D, det, List.range_succ]
    grind
  | 3, 1 =>
    simp [beh, D, det, List.range_succ]
    have h0 := cram A 3 0 3 (by omega) (by omega)
    have h1 := cram A 3 1 3 (by omega) (by omega)
    simp [List.range_succ] at h0 h1
    generalize E A 3 0 3 = e0 at *
    generalize E A 3 1 3 = e1 at *
    generalize E A 3 2 3 = e2 at *
    generalize pv A 3 = d at *
    grind
  | 3, 2 =>
    simp [beh, D, det, List.range_succ]
    have h0 := cram A 3 0 3 (by omega) (by omega)
    have h1 := cram A 3 1 3 (by omega) (by omega)
    have h2 := cram A 3 2 3 (by omega) (by omega)
    simp [List.range_succ] at h0 h1 h2
    generalize E A 3 0 3 = e0 at *
    generalize E A 3 1 3 = e1 at *
    generalize E A 3 2 3 = e2 at *
    generalize pv A 3 = d at *
    have k0 := congrArg (fun x => (A 1 0 * A 2 1 - A 1 1 * A 2 0) * x) h0
    have k1 := congrArg (fun x => (A 0 0 * A 2 1 - A 0 1 * A 2 0) * x) h1
    have k2 := congrArg (fun x => (A 0 0 * A 1 1 - A 0 1 * A 1 0) * x) h2
    grind
  | 4, 0 =>
    have h0 := cram A 4 0 4 (by omega) (by omega)
    simp [List.range_succ] at h0
    simp [beh, D, det, List.range_succ]
    grind
  | 4, 1 =>
    simp [beh, D, det, List.range_succ]
    have h0 := cram A 4 0 4 (by omega) (by omega)
    have h1 := cram A 4 1 4 (by omega) (by omega)
    simp [List.range_succ] at h0 h1
    generalize E A 4 0 4 = e0 at *
    generalize E A 4 1 4 = e1 at *
    generalize E A 4 2 4 = e2 at *
    generalize E A 4 3 4 = e3 at *
    generalize pv A 4 = d at *
    grind
  | 4, 2 =>
    simp [beh, D, det, List.range_succ]
    have h0 := cram A 4 0 4 (by omega) (by omega)
    have h1 := cram A 4 1 4 (by omega) (by omega)
    have h2 := cram A 4 2 4 (by omega) (by omega)
    simp [List.range_succ] at h0 h1 h2
    generalize E A 4 0 4 = e0 at *
    generalize E A 4 1 4 = e1 at *
    generalize E A 4 2 4 = e2 at *
    generalize E A 4 3 4 = e3 at *
    generalize pv A 4 = d at *
    have k0 := congrArg (fun x => (A 1 0 * A 2 1 - A 1 1 * A 2 0) * x) h0
    have k1 := congrArg (fun x => (A 0 0 * A 2 1 - A 0 1 * A 2 0) * x) h1
    have k2 := congrArg (fun x => (A 0 0 * A 1 1 - A 0 1 * A 1 0) * x) h2
    grind
  | 4, 3 =>
    have h0 := cram A 4 0 4 (by omega) (by omega)
    have h1 := cram A 4 1 4 (by omega) (by omega)
    have h2 := cram A 4 2 4 (by omega) (by omega)
    have h3 := cram A 4 3 4 (by omega) (by omega)
    simp [List.range_succ] at h0 h1 h2 h3
    have k := key43 A (E A 4 0 4) (E A 4 1 4) (E A 4 2 4) (E A 4 3 4) (pv A 4)
    rw [show A 0 0 * E A 4 0 4 + A 0 1 * E A 4 1 4 + A 0 2 * E A 4 2 4 + A 0 3 * E A 4 3 4 - pv A 4 * A 0 4 = 0 by omega,
      show A 1 0 * E A 4 0 4 + A 1 1 * E A 4 1 4 + A 1 2 * E A 4 2 4 + A 1 3 * E A 4 3 4 - pv A 4 * A 1 4 = 0 by omega,
      show A 2 0 * E A 4 0 4 + A 2 1 * E A 4 1 4 + A 2 2 * E A 4 2 4 + A 2 3 * E A 4 3 4 - pv A 4 * A 2 4 = 0 by omega,
      show A 3 0 * E A 4 0 4 + A 3 1 * E A 4 1 4 + A 3 2 * E A 4 2 4 + A 3 3 * E A 4 3 4 - pv A 4 * A 3 4 = 0 by omega] at k
    simp only [Int.mul_zero] at k
    have z : beh A 4 3 (4 - (3 + 1)) = 0 := by simp [beh]
    rw [z]
    omega
  | 1, i+1 => omega
  | 2, i+2 => omega
  | 3, i+3 => omega
  | 4, i+4 => omega
  | n+5, _ => omega
theorem detQ_scaleC {c : Nat → Rat} {q : MatQ} {A : Mat} {n : Nat} (hn : n ≤ 4) (hc : ∀ i, i < n → c i ≠ 0) (h : ∀ i, i < n → ∀ j, j < n → (A i j : Rat) = c j * q i j) : det n A = 0 ↔ detQ n q = 0 := by
  have e : ((det n A : Int) : Rat) = ((List.range n).map c).foldr (· * ·) 1 * detQ n q := by
    rw [det_cast]
    match n, h with
    | 0, h => simp [detQ]
    | 1, h => simp [detQ, List.range_succ, h]
    | 2, h => simp [detQ, List.range_succ, h]; grind
    | 3, h => simp [detQ, List.range_succ, h]; grind
    | 4, h => simp [detQ, List.range_succ, h]; grind
    | n + 5, _ => omega
  have hp : ((List.range n).map c).foldr (· * ·) 1 ≠ 0 := by
    match n, hc with
    | 0, hc => simp
    | 1, hc => simp [List.range_succ]; have := hc 0 (by omega); grind
    | 2, hc => simp [List.range_succ]; have := hc 0 (by omega); have := hc 1 (by omega); grind
    | 3, hc => simp [List.range_succ]; have := hc 0 (by omega); have := hc 1 (by omega); have := hc 2 (by omega); grind
    | 4, hc => simp [List.range_succ]; have := hc 0 (by omega); have := hc 1 (by omega); have := hc 2 (by omega); have := hc 3 (by omega); grind
    | n + 5, _ => omega
  constructor
  · intro z
    rw [z] at e
    have : ((0 : Int) : Rat) = 0 := rfl
    rw [this] at e
    grind
  · intro z
    rw [z] at e
    have : ((det n A : Int) : Rat) = ((0 : Int) : Rat) := by
      rw [e]
      grind
    exact_mod_cast this
end M35
namespace K35
open PySem PySem.Spec PyProof.Rows L2 Sw
def topS (i : Nat) : Stmt := PySem.Challenge.pw_soldwhole_k35_linear_rows.main.body.getD i (.Pass ⟨0, 0, 0, 0⟩)
/-- a drawn FRACTION above 0, its lower number small -/
def NumQ (n m : Int) : Prop := 1 ≤ n ∧ n ≤ 1000000000000 ∧ 1 ≤ m ∧ m ≤ 1000 ∧ gI n m = 1
def NumE (d : PyData) : Prop := ∃ n m, d = .tuple [.int n, .int m] ∧ NumQ n m
def spNumE (K : PySem.W.Frag) : Sp := fun vs H Q E => ∃ most : Int, 0 < most ∧ most ≤ 100000000 ∧ spG K [.int most] NumE vs H Q E
theorem numE {n m : Int} (h : NumQ n m) : NumE (.tuple [.int n, .int m]) := ⟨n, m, rfl, h⟩
theorem NumE.not {H : Hp} {v : V} {d : PyData} (h : NumE d) : Own H v d := by
  obtain ⟨n, m, rfl, _⟩ := h
  exact own_not fun _ z => nomatch z
section
variable {P : Program} {w : World} {K : PySem.W.Frag} {mg : Str → Option Value} {base : Heap}
/-- the common divisor of two integers' sizes -/
def spCommon : Sp := fun vs H Q _ => ∃ a b : Int, vs = [.int a, .int b] ∧ Q (.int (gI a b)) H
abbrev s_law_common : Stmt := topS 17
theorem sc__law_common : FnScope ["one", "other"] ["one", "other"] (defScope s_law_common) := ⟨rfl, rfl, rfl, by decide +kernel, rfl, by decide +kernel, by decide +kernel⟩
theorem ok__law_common {f : Addr} {fd : FuncData} (F : Fun K "_law_common" "_law_common" s_law_common f fd) (B : Bt mg) : FnG P w K mg base 1 f fd ["one", "other"] spCommon := by
  refine Fun.okG F sc__law_common (fun vs H Q E h => ?_) (fun cdv A outer s H vs Q E hg hr h => ?_)
  · obtain ⟨a, b, rfl, _⟩ := h
    rfl
  obtain ⟨a, b, rfl, k⟩ := h
  refine ⟨_, (pss_cons (ps_par (i := 0) (j := 1) rfl sc__law_common.nd rfl rfl (by decide) rfl rfl (pa_cons (pe_callB call_abs (by rfl) B.abs bb_abs (pa_cons (pv 0) pa_nil)) (pa_cons (pe_callB call_abs (by rfl) B.abs bb_abs (pa_cons (pv 1) pa_nil)) pa_nil)) (by rfl))
    (pss_cons (ps_while PassesOwn.never (pt_cmpR op_gt (pv 1) pe_int (nomark _))
      (pss_one (ps_par (i := 0) (j := 1) rfl sc__law_common.nd rfl rfl (by decide) rfl rfl (pa_cons (pv 1) (pa_cons (pe_op op_mod (pe_callTy call_int1 (by rfl) B.int bb_int (pa_cons (pv 0) pa_nil)) (pv 1)) pa_nil)) (by rfl))))
    (pss_one (ps_ret (pv 0))))), ?_⟩
  have ab : ∀ i : Int, (if i < 0 then -i else i) = (i.natAbs : Int) := fun i => by split <;> omega
  refine ⟨_, rfl, a, rfl, _, rfl, b, rfl, _, _, rfl, ?_⟩
  rw [ab a, ab b]
  refine while_by (fun σ H1 => ∃ x y : Nat, σ = [some (.int x), some (.int y)] ∧ Nat.gcd x y = Nat.gcd a.natAbs b.natAbs ∧ H1 = H) (fun σ _ => match σ with | [_, some (.int j)] => j.toNat | _ => 0) ⟨a.natAbs, b.natAbs, rfl, rfl, rfl⟩ ?_ ?_
  · rintro σ H1 ⟨x, y, rfl, e, rfl⟩
    refine ⟨_, rfl, _, _, rfl, rfl, _, rfl, iteP (fun h => ?_) fun h => ?_⟩
    · refine ⟨_, rfl, _, rfl, .inl ⟨_, rfl, _, rfl, _, _, rfl, rfl, h, _, _, rfl, ?_⟩⟩
      refine ⟨⟨y, x % y, ?_, (gcd_step x y).trans e, rfl⟩, ?_⟩
      · show [some (V.int (y : Int)), some (V.int ((x : Int) % (y : Int)))] = _
        rw [← Int.natCast_emod]
      · show ((x : Int) % (y : Int)).toNat < ((y : Nat) : Int).toNat
        have := Int.emod_lt_of_pos (x : Int) h
        have := Int.emod_nonneg (x : Int) (show (y : Int) ≠ 0 by omega)
        omega
    · have hy : y = 0 := by omega
      subst hy
      rw [Nat.gcd_zero_right] at e
      rw [e] 
      exact ⟨_, rfl, k⟩
  · rintro σ H1 R R' hh ⟨v, e1, i, j, e2, e3, c, e4, q⟩
    exact ⟨v, e1, i, j, e2, e3, c, e4, hh _ _ q⟩
abbrev s_law_take : Stmt := topS 13
theorem sc__law_take : FnScope ["bag", "many", "cell", "stirred", "value", "begin", "second"] ["bag", "many"] (defScope s_law_take) := ⟨rfl, rfl, rfl, by decide +kernel, rfl, by decide +kernel, by decide +kernel⟩
theorem ok__law_take {f : Addr} {fd : FuncData} (F : Fun K "_law_take" "_law_take" s_law_take f fd) (B : Bt mg) : FnG P w K mg base 1 f fd ["bag", "many"] spTake := by
  refine Fun.okG F sc__law_take (fun vs H Q E h => ?_) (fun cdv A outer s H vs Q E hg hr h => ?_)
  · obtain ⟨b, m, rfl, _⟩ := h
    rfl
  obtain ⟨b, many, rfl, hb, hm0, hm1, k⟩ := h
  refine ⟨_, (C8.pss_cut (ps_if (pt_cmpR op_eq (pe_ix ix_list (pv 0) pe_int (fun _ _ => rfl)) pe_int (nomark _))
      (pss_cons (ps_set (i := 2) sc__law_take.nd rfl (Or.inl rfl) (pe_ix ix_list (pe_op op_cat (pe_slice sl_list (pe_ix ix_list (pv 0) pe_int (fun _ _ => rfl)) (po_some (pe_ix ix_list (pv 0) pe_int (fun _ _ => rfl))) po_none) (pe_lst (pa_cons pe_int pa_nil))) pe_int (fun _ _ => rfl)))
      (pss_cons (ps_augS (pv 0) pe_int get_list pe_int ip_add set_list)
      (C8.pss_cut (ps_if (pt_cmpR op_ge (pv 2) (pe_op op_pow pe_int pe_int) (nomark _))
        (pss_one (ps_asg (pv 2) (pg_sub (pv 0) pe_int set_list)))
        pss_nil)
      (pss_cons (ps_set (i := 3) sc__law_take.nd rfl (Or.inl rfl) (pe_op op_add (pe_op op_add (pe_op op_mul (pe_ix ix_list (pv 0) pe_int (fun _ _ => rfl)) pe_int) (pe_op op_mod (pe_callTy call_int1 (by rfl) B.int bb_int (pa_cons (pv 2) pa_nil)) pe_int)) (pe_op op_mul pe_int (pe_ix ix_list (pv 0) pe_int (fun _ _ => rfl)))))
      (pss_one (ps_asg (pe_op op_mod (pe_callTy call_int1 (by rfl) B.int bb_int (pa_cons (pv 3) pa_nil)) pe_int) (pg_sub (pv 0) pe_int set_list)))))))
      pss_nil)
    (pss_cons (ps_if (pt_cmpR op_gt (pe_ix ix_list (pv 0) pe_int (fun _ _ => rfl)) pe_int (nomark _))
      (pss_cons (ps_set (i := 4) sc__law_take.nd rfl (Or.inl rfl) (pe_op op_mod (pe_callTy call_int1 (by rfl) B.int bb_int (pa_cons (pe_ix ix_list (pv 0) pe_int (fun _ _ => rfl)) pa_nil)) (pv 1)))
      (pss_cons (ps_asg (pe_op op_fdiv (pe_callTy call_int1 (by rfl) B.int bb_int (pa_cons (pe_ix ix_list (pv 0) pe_int (fun _ _ => rfl)) pa_nil)) (pv 1)) (pg_sub (pv 0) pe_int set_list))
      (pss_one (ps_ret (pv 4)))))
      pss_nil)
    (pss_cons (ps_set (i := 5) sc__law_take.nd rfl (Or.inl rfl) (pe_op op_mod (pe_callTy call_int1 (by rfl) B.int bb_int (pa_cons (pe_op op_mul (pe_op op_add (pe_ix ix_list (pv 0) pe_int (fun _ _ => rfl)) pe_int) pe_int) pa_nil)) pe_int))
    (pss_cons (ps_set (i := 6) sc__law_take.nd rfl (Or.inl rfl) (pe_op op_mod (pe_callTy call_int1 (by rfl) B.int bb_int (pa_cons (pe_op op_mul (pe_op op_mod (pe_callTy call_int1 (by rfl) B.int bb_int (pa_cons (pe_op op_mul (pv 5) (pv 5)) pa_nil)) pe_int) pe_int) pa_nil)) pe_int))
    (pss_one (ps_ret (pe_op op_mod (pe_callTy call_int1 (by rfl) B.int bb_int (pa_cons (pe_op op_fdiv (pv 6) pe_int) pa_nil)) (pv 1)))))))), ?_⟩
  obtain ⟨x, y, z, l, cs, h1, h2, hlb, hx, hy0, hy1, hz, hcl, hc⟩ := hb
  refine ⟨fun σ H' => ∃ v2 v3, σ = [some (.ref b), some (.int many), v2, v3, none, none, none] ∧ Rel b H H', ?_, ?_⟩
  · refine ⟨_, rfl, b, _, 0, .int x, rfl, rfl, .of h1, atI_nat (j := 0) rfl, rfl, _, rfl, iteEq (fun e => ?_) fun e => ?_⟩
    · -- cell = (bag[3][bag[2]:] + [0])[0]
      refine ⟨_, rfl, b, _, 3, .ref l, rfl, rfl, .of h1, atI_nat (j := 3) rfl, _, rfl, b, _, 2, .int z, rfl, rfl, .of h1, atI_nat (j := 2) rfl, z, rfl, l, _, rfl, .of h2, fun p1 n1 => ?_⟩
      refine ⟨by show 1 ≤ sizeLine; decide, fun p2 n2 => ?_⟩
      have s1 := same_upd (o := .lst (cutV (cs.map V.int) (some z) none)) n1
      have s2 := same_upd (o := .lst [.int 0]) n2
      have hle : (cutV (cs.map V.int) (some z) none).length ≤ 63 := Nat.le_trans (cut_len _ _ _) (by rw [List.length_map]; exact hcl)
      refine ⟨p1, p2, _, _, rfl, rfl, s2 _ _ upd_same, upd_same, Nat.le_of_lt (small1000 (by show _ + 1 ≤ 1000; omega)), fun p3 n3 => ?_⟩
      have s3 := same_upd (o := .lst (cutV (cs.map V.int) (some z) none ++ [.int 0])) n3
      obtain ⟨c, hc0, hcv⟩ := head_cell hc (some z) none
      refine ⟨p3, _, 0, .int c, rfl, rfl, .of upd_same, atI_nat (j := 0) hcv, ?_⟩
      have s13 := (s1.trans s2).trans s3
      clear s1 s2 s3 n1 n2 n3 hle hcv
      revert s13
      generalize upd (upd (upd H p1 (.lst (cutV (cs.map V.int) (some z) none))) p2 (.lst [.int 0])) p3 (.lst (cutV (cs.map V.int) (some z) none ++ [.int 0])) = H3
      intro s13
      have g1 := s13 _ _ h1
      have g2 := s13 _ _ h2
      -- bag[2] += 1
      refine ⟨_, rfl, b, _, 2, .int z, rfl, rfl, .of g1, rfl, z, 1, rfl, rfl, b, _, 2, 2, rfl, rfl, g1, rfl, ?_⟩
      have r1 : Rel b H (upd H3 b (.lst [.int x, .int y, .int (z + 1), .ref l])) := ⟨fun a o n e => by rw [upd_ne n]; exact s13 a o e, fun k z => by rw [z.eq h1]; exact ⟨_, _, _, upd_same⟩, x, y, z + 1, l, cs, upd_same, by rw [upd_ne hlb]; exact g2, hlb, hx, hy0, hy1, by omega, hcl, hc⟩
      -- if cell >= 10 ** 18: bag[0] = cell
      refine ⟨fun σ H' => ∃ x', σ = [some (.ref b), some (.int many), some (.int c), none, none, none, none] ∧ Rel b H H' ∧ H' b = some (.lst [.int x', .int y, .int (z + 1), .ref l]) ∧ 0 ≤ x', ?_, ?_⟩
      · refine ⟨_, rfl, _, _, rfl, rfl, ⟨by decide, by decide, by decide⟩, _, _, rfl, rfl, _, rfl, iteP (fun h => ?_) fun h => ?_⟩
        · refine ⟨_, rfl, _, rfl, b, _, 0, 0, rfl, rfl, upd_same, rfl, c, rfl, ⟨fun a o n e => by rw [upd_ne n]; exact r1.keep a o n e, fun k z => by rw [z.eq h1]; exact ⟨_, _, _, upd_same⟩, c, y, z + 1, l, cs, upd_same, by rw [upd_ne hlb, upd_ne hlb]; exact g2, hlb, hc0, hy0, hy1, by omega, hcl, hc⟩, upd_same, hc0⟩
        · exact ⟨x, rfl, r1, upd_same, hx⟩
      · rintro σ H' ⟨x', rfl, R, hB, hx'⟩
        have e1 : l ≠ b := hlb
        have g3 : H' l = some (.lst (cs.map V.int)) := R.keep _ _ hlb h2
        refine ⟨_, rfl, b, _, 1, .int y, rfl, rfl, .of hB, atI_nat (j := 1) rfl, _, _, rfl, rfl, .inl ⟨by omega, by omega⟩, _, rfl, .inl ⟨_, rfl, _, _, rfl, rfl, (by show (0 : Int) < _; decide), _, _, rfl, rfl, _, rfl, b, _, 2, .int (z + 1), rfl, rfl, .of hB, atI_nat (j := 2) rfl, _, _, rfl, rfl, .inl ⟨by decide, by decide⟩, _, _, rfl, rfl, ?_⟩⟩
        refine ⟨_, rfl, .inl ⟨_, rfl, _, _, rfl, rfl, (by show (0 : Int) < _; decide), _, rfl, b, _, 1, 1, rfl, rfl, hB, rfl, _, _, rfl, ?_⟩⟩
        exact ⟨fun a o n e => by rw [upd_ne n]; exact R.keep a o n e, fun k z => by rw [z.eq h1]; exact ⟨_, _, _, upd_same⟩, x', _, z + 1, l, cs, upd_same, by rw [upd_ne hlb]; exact g3, hlb, hx', Int.emod_nonneg _ (by decide), Int.emod_lt_of_pos _ (by decide), by omega, hcl, hc⟩
    · exact ⟨_, _, rfl, .refl ⟨x, y, z, l, cs, h1, h2, hlb, hx, hy0, hy1, hz, hcl, hc⟩⟩
  · rintro σ H' ⟨v2, v3, rfl, R⟩
    obtain ⟨x, y, z, l, cs, h1, h2, hlb, hx, hy0, hy1, hz, hcl, hc⟩ := id R.bag
    refine ⟨_, rfl, b, _, 0, .int x, rfl, rfl, .of h1, atI_nat (j := 0) rfl, _, _, rfl, rfl, _, rfl, iteP (fun h => ?_) fun h => ?_⟩
    · refine ⟨_, rfl, b, _, 0, .int x, rfl, rfl, .of h1, atI_nat (j := 0) rfl, .inl ⟨_, rfl, _, rfl, _, _, rfl, rfl, hm0, ?_⟩⟩
      refine ⟨_, rfl, b, _, 0, .int x, rfl, rfl, .of h1, atI_nat (j := 0) rfl, .inl ⟨_, rfl, _, rfl, _, _, rfl, rfl, ⟨hm0, hm1⟩, _, rfl, b, _, 0, 0, rfl, rfl, h1, rfl, ?_⟩⟩
      refine ⟨_, rfl, k _ _ (Int.emod_nonneg _ (by omega)) (Int.emod_lt_of_pos _ hm0) ⟨fun a o n e => by rw [upd_ne n]; exact R.keep a o n e, fun k z => by rw [(R.cell k z).eq h1]; exact ⟨_, _, _, upd_same⟩, _, y, z, l, cs, upd_same, by rw [upd_ne hlb]; exact h2, hlb, Int.ediv_nonneg hx (by omega), hy0, hy1, hz, hcl, hc⟩⟩
    · have f1 := Int.emod_nonneg ((y + 1) * 39373) (show (1000000007 : Int) ≠ 0 by decide)
      have f2 := Int.emod_lt_of_pos ((y + 1) * 39373) (show (0 : Int) < 1000000007 by decide)
      refine ⟨_, rfl, b, _, 1, .int y, rfl, rfl, .of h1, atI_nat (j := 1) rfl, _, _, rfl, rfl, _, _, rfl, rfl, .inl ⟨by omega, by omega⟩, .inl ⟨_, rfl, _, _, rfl, rfl, (by show (0 : Int) < _; decide), ?_⟩⟩
      refine ⟨_, rfl, _, rfl, _, _, rfl, rfl, .inl ⟨by omega, by omega⟩, .inl ⟨_, rfl, _, _, rfl, rfl, (by show (0 : Int) < _; decide), _, _, rfl, rfl, .inr ⟨by decide, by decide⟩, .inl ⟨_, rfl, _, _, rfl, rfl, (by show (0 : Int) < _; decide), ?_⟩⟩⟩
      refine ⟨_, rfl, _, _, rfl, rfl, ⟨by decide, by decide⟩, .inl ⟨_, rfl, _, rfl, _, _, rfl, rfl, hm0, k _ _ (Int.emod_nonneg _ (by omega)) (Int.emod_lt_of_pos _ hm0) R⟩⟩
abbrev s_law_some : Stmt := topS 14
theorem sc__law_some : FnScope ["bag", "things"] ["bag", "things"] (defScope s_law_some) := ⟨rfl, rfl, rfl, by decide +kernel, rfl, by decide +kernel, by decide +kernel⟩
theorem ok__law_some {f : Addr} {fd : FuncData} (F : Fun K "_law_some" "_law_some" s_law_some f fd) (B : Bt mg) (c__law_take : CalG P w K mg base 1 "_law_take" spTake) : FnG P w K mg base 2 f fd ["bag", "things"] spSome := by
  refine Fun.okG F sc__law_some (fun vs H Q E h => ?_) (fun cdv A outer s H vs Q E hg hr h => ?_)
  · obtain ⟨b, t, xs, rfl, _⟩ := h
    rfl
  obtain ⟨b, t, xs, rfl, hb, ht, h1, h2, h3, k⟩ := h
  refine ⟨_, (pss_one (ps_ret (pe_ix ix_list (pv 1) (pc c__law_take hg hr (by decide) (by rfl) (pa_cons (pv 0) (pa_cons (pe_callB call_lenA (by rfl) B.len boot_len (pa_cons (pv 1) pa_nil)) pa_nil))) (fun _ _ => rfl)))), ?_⟩
  refine ⟨_, rfl, _, rfl, _, rfl, _, xs.length, rfl, .inl ⟨xs, .of h1, rfl⟩, b, _, rfl, hb, by omega, by omega, fun v H' v0 v1 R => ?_⟩
  obtain ⟨i, rfl⟩ : ∃ i : Nat, v = (i : Int) := ⟨v.toNat, by omega⟩
  have hi : i < xs.length := by omega
  exact ⟨t, xs, i, xs[i], rfl, rfl, .of (R.keep _ _ ht h1), atI_nat (List.getElem?_eq_getElem hi), k i _ H' (List.getElem?_eq_getElem hi) R⟩
/-- the FRACTION n / d -/
def spRed : Sp := fun vs H Q _ => ∃ n d : Int, vs = [.int n, .int d] ∧ d ≠ 0 ∧ d.natAbs < 2 ^ 8000 ∧ ∀ p, H p = none → Q (.ref p) (upd H p (.tup [.int (redI n d).1, .int (redI n d).2]))
abbrev s_law_reduced : Stmt := topS 18
theorem sc__law_reduced : FnScope ["n", "d", "shared"] ["n", "d"] (defScope s_law_reduced) := ⟨rfl, rfl, rfl, by decide +kernel, rfl, by decide +kernel, by decide +kernel⟩
theorem ok__law_reduced {f : Addr} {fd : FuncData} (F : Fun K "_law_reduced" "_law_reduced" s_law_reduced f fd) (B : Bt mg) (c__law_common : CalG P w K mg base 1 "_law_common" spCommon) : FnG P w K mg base 2 f fd ["n", "d"] spRed := by
  refine Fun.okG F sc__law_reduced (fun vs H Q E h => ?_) (fun cdv A outer s H vs Q E hg hr h => ?_)
  · obtain ⟨n, d, rfl, _⟩ := h
    rfl
  obtain ⟨n, d, rfl, h0, h1, k⟩ := h
  refine ⟨_, (pss_cons (ps_set (i := 2) sc__law_reduced.nd rfl (Or.inl rfl) (pe_callB (call_max2 rfl) (by rfl) B.max bb_max (pa_cons pe_int (pa_cons (pc c__law_common hg hr (by decide) (by rfl) (pa_cons (pv 0) (pa_cons (pv 1) pa_nil))) pa_nil))))
    (pss_cons (ps_if (pt_cmpR op_lt (pv 1) pe_int (nomark _))
      (pss_one (ps_ret (pe_tup (pa_cons (pe_op op_fdivW (pe_un un_neg (pv 0)) (pv 2)) (pa_cons (pe_op op_fdivW (pe_un un_neg (pv 1)) (pv 2)) pa_nil)))))
      pss_nil)
    (pss_one (ps_ret (pe_tup (pa_cons (pe_op op_fdivW (pv 0) (pv 2)) (pa_cons (pe_op op_fdivW (pv 1) (pv 2)) pa_nil))))))), ?_⟩
  have hw : CDivW 0 (sh n d) := wide_div (sh_pos n d) (Nat.lt_of_le_of_lt (sh_le h0) h1) (by decide) (by decide)
  have e1 : (if gI n d > 1 then gI n d else 1) = sh n d := rfl
  refine ⟨_, rfl, _, rfl, n, d, rfl, _, _, rfl, ?_⟩
  rw [e1]
  refine ⟨_, rfl, _, _, rfl, rfl, _, rfl, iteP (fun h => ?_) fun h => ?_⟩
  · have e2 : redI n d = ((-n) / sh n d, (-d) / sh n d) := if_pos h
    rw [e2] at k
    refine ⟨_, rfl, _, rfl, _, rfl, _, _, rfl, rfl, hw, _, rfl, _, rfl, _, rfl, _, _, rfl, rfl, hw, by show 2 ≤ sizeLine; decide, fun p np => k p np⟩
  · have e2 : redI n d = (n / sh n d, d / sh n d) := if_neg h
    rw [e2] at k
    refine ⟨_, rfl, _, rfl, _, _, rfl, rfl, hw, _, rfl, _, rfl, _, _, rfl, rfl, hw, by show 2 ≤ sizeLine; decide, fun p np => k p np⟩
abbrev s_law_number : Stmt := topS 22
theorem sc__law_number : FnScope ["bag", "most", "way"] ["bag", "most"] (defScope s_law_number) := ⟨rfl, rfl, rfl, by decide +kernel, rfl, by decide +kernel, by decide +kernel⟩
theorem ok__law_number {f : Addr} {fd : FuncData} (F : Fun K "_law_number" "_law_number" s_law_number f fd) (B : Bt mg) (c__law_take : CalG P w K mg base 1 "_law_take" spTake) (c__law_some : CalG P w K mg base 2 "_law_some" spSome) (c__law_reduced : CalG P w K mg base 2 "_law_reduced" spRed) :
    FnG P w K mg base 3 f fd ["bag", "most"] (spNumE K) := by
  refine Fun.okG F sc__law_number (fun vs H Q E h => ?_) (fun cdv A outer s H vs Q E hg hr h => ?_)
  · obtain ⟨most, _, _, b, mu, rfl, _⟩ := h
    rfl
  obtain ⟨most, hm0, hm1, b, mu, rfl, hmu, hb, hM, k⟩ := h
  refine ⟨_, (pss_cons (ps_set (i := 2) sc__law_number.nd rfl (Or.inl rfl) (pc c__law_take hg hr (by decide) (by rfl) (pa_cons (pv 0) (pa_cons pe_int pa_nil))))
    (pss_cons (ps_if (pt_cmpR op_eq (pv 2) pe_int (nomark _))
      (pss_one (ps_ret (pc c__law_reduced hg hr (by decide) (by rfl) (pa_cons (pe_op op_add pe_int (pc c__law_take hg hr (by decide) (by rfl) (pa_cons (pv 0) (pa_cons (pe_op op_mul pe_int (pv 1)) pa_nil)))) (pa_cons (pc c__law_some hg hr (by decide) (by rfl) (pa_cons (pv 0) (pa_cons (pe_lst (pa_cons pe_int (pa_cons pe_int (pa_cons pe_int pa_nil)))) pa_nil))) pa_nil)))))
      pss_nil)
    (pss_cons (ps_if (pt_cmpR op_eq (pv 2) pe_int (nomark _))
      (pss_one (ps_ret (pc c__law_some hg hr (by decide) (by rfl) (pa_cons (pv 0) (pa_cons (pe_lst (pa_cons (pe_tup (pa_cons pe_int (pa_cons pe_int pa_nil))) (pa_cons (pe_tup (pa_cons pe_int (pa_cons pe_int pa_nil))) (pa_cons (pe_tup (pa_cons pe_int (pa_cons pe_int pa_nil))) (pa_cons (pe_tup (pa_cons pe_int (pa_cons pe_int pa_nil))) (pa_cons (pe_tup (pa_cons pe_int (pa_cons pe_int pa_nil))) pa_nil)))))) pa_nil)))))
      pss_nil)
    (pss_one (ps_ret (pe_tup (pa_cons (pe_op op_add pe_int (pc c__law_take hg hr (by decide) (by rfl) (pa_cons (pv 0) (pa_cons (pv 1) pa_nil)))) (pa_cons pe_int pa_nil)))))))), ?_⟩
  -- way = _law_take(bag, 12)
  refine ⟨_, rfl, b, _, rfl, hb, by decide, by decide, fun way H1 w0 w1 R1 => ?_⟩
  have M1 := hM.rel R1
  refine ⟨_, rfl, rfl, _, rfl, iteEq (fun e => ?_) fun e => ?_⟩
  · -- _law_reduced(1 + _law_take(bag, 3 * most), _law_some(bag, [2, 3, 7]))
    refine ⟨_, rfl, _, rfl, _, _, rfl, rfl, .inl ⟨by decide, by decide⟩, b, _, rfl, R1.bag, by omega, by omega, fun t H2 t0 t1 R2 => ⟨_, _, rfl, rfl, ?_⟩⟩
    have M2 := M1.rel R2
    refine gv_some (K := K) (mu := mu) (D := fun d => ∃ j : Int, d = .int j ∧ 2 ≤ j ∧ j ≤ 7) (n := 3) hmu rfl (gvA_cons hmu (ge_int.gv ⟨2, rfl, by decide, by decide⟩) (gvA_cons hmu (ge_int.gv ⟨3, rfl, by decide, by decide⟩) (gvA_cons hmu (ge_int.gv ⟨7, rfl, by decide, by decide⟩) gvA_nil))) (by decide) (by decide) H2 (.refl R2.bag) M2 _ fun v H3 d hd R3 hv _ => ?_
    obtain ⟨j, rfl, j0, j1⟩ := hd
    cases hv
    have hp : (7 : Nat) < 2 ^ 8000 := by decide +kernel
    refine ⟨_, _, rfl, by omega, Nat.lt_of_le_of_lt (show j.natAbs ≤ 7 by omega) hp, fun p np => ?_⟩
    have R := (R1.trans R2).trans R3
    obtain ⟨q1, q2, q3, q4, q5⟩ := redI_pos (show 0 < 1 + t by omega) (show 0 < j by omega)
    exact k (.ref p) _ _ ⟨_, _, rfl, q1, by omega, q3, by omega, q5⟩ (R.same (same_upd np)) (.tup (.inl upd_same) (.cons (.int _) (.cons (.int _) .nil))) (own_not fun _ z => nomatch z)
  · refine ⟨_, rfl, rfl, _, rfl, iteEq (fun e1 => ?_) fun e1 => ?_⟩
    · have g : ∀ {σ : L2.St} {H0 : Hp} {n m : Int}, NumQ n m → Gv K b mu σ H0 (tTup (tCons (tC (.int n)) (tCons (tC (.int m)) tNil))) NumE := fun {σ H0 n m} h => (ge_tup hmu (geA_cons hmu ge_int (geA_cons hmu ge_int geA_nil)) (show 2 ≤ 1000 by decide)).gv (numE h)
      refine gv_some (K := K) (mu := mu) (D := NumE) (n := 5) hmu rfl (gvA_cons hmu (g ⟨by decide, by decide, by decide, by decide, by decide⟩) (gvA_cons hmu (g ⟨by decide, by decide, by decide, by decide, by decide⟩) (gvA_cons hmu (g ⟨by decide, by decide, by decide, by decide, by decide⟩) (gvA_cons hmu (g ⟨by decide, by decide, by decide, by decide, by decide⟩) (gvA_cons hmu (g ⟨by decide, by decide, by decide, by decide, by decide⟩) gvA_nil))))) (by decide) (by decide) H1 (.refl R1.bag) M1 _ fun v H3 d hd R3 hv _ => ?_
      exact k v H3 d hd (R1.trans R3) hv hd.not
    · refine ⟨_, rfl, _, rfl, b, _, rfl, R1.bag, by omega, by omega, fun t H2 t0 t1 R2 => ⟨_, _, rfl, rfl, by show 2 ≤ sizeLine; decide, fun p np => ?_⟩⟩
      refine k (.ref p) _ _ ⟨_, _, rfl, by omega, by omega, by decide, by decide, ?_⟩ ((R1.trans R2).same (same_upd np)) (.tup (.inl upd_same) (.cons (.int _) (.cons (.int _) .nil))) (own_not fun _ z => nomatch z)
      unfold gI
      simp
/-- a thing that is the same as itself by == -/
def Selfs (K : PySem.W.Frag) (H : Hp) (x y : V) : Prop := ∃ n, n ≤ 60 ∧ EqR K H (EqV K H n) x y
def spAlike (K : PySem.W.Frag) : Sp := fun vs H Q _ => ∃ (x y : V) (mu : Addr → Prop) (d : PyData), vs = [x, y] ∧ Dt K mu H x d ∧ Dt K mu H y d ∧ Ok d ∧ (d.hasDict = false ∨ (mu sysModules ∧ Selfs K H x y)) ∧ Q (.bl true) H
abbrev s_law_alike : Stmt := topS 15
theorem sc__law_alike : FnScope ["found", "due"] ["found", "due"] (defScope s_law_alike) := ⟨rfl, rfl, rfl, by decide +kernel, rfl, by decide +kernel, by decide +kernel⟩
theorem ok__law_alike {f : Addr} {fd : FuncData} (F : Fun K "_law_alike" "_law_alike" s_law_alike f fd) (B : Bt mg) : FnG P w K mg base 1 f fd ["found", "due"] (spAlike K) := by
  refine Fun.okG F sc__law_alike (fun vs H Q E h => ?_) (fun cdv A outer s H vs Q E hg hr h => ?_)
  · obtain ⟨x, y, mu, d, rfl, _⟩ := h
    rfl
  obtain ⟨x, y, mu, d, rfl, hx, hy, ho, hn, k⟩ := h
  have hu := Room.u64 hr
  refine ⟨_, (pss_one (ps_ret (pe_and (pe_cmpR (op_eqA hu) (pv 0) (pv 1) (nomark _)) (pe_one (pe_cmpR op_eq (pe_callB (call_repr hg hu) (by rfl) B.repr bb_repr (pa_cons (pv 0) pa_nil)) (pe_callB (call_repr hg hu) (by rfl) B.repr bb_repr (pa_cons (pv 1) pa_nil)) (nomark _)))))), ?_⟩
  have key : ∀ Q' : VK, Q' (.bl true) H → rEqA K x y H Q' := fun Q' q => by
    rcases hn with n | ⟨_, n, h1, h2⟩
    · refine .inl ⟨mu, d, d, hx, hy, ho.shaped n, ho.shaped n, ?_⟩
      rw [eqv_same (ok_lay d ho.ok n)]
      exact q
    · exact .inr (.inl ⟨n, h1, h2, q⟩)
  have hm : d.hasDict = false ∨ mu sysModules := hn.imp id And.left
  refine ⟨_, rfl, _, rfl, key _ ?_⟩
  refine ⟨_, rfl, iteT ⟨_, rfl, ?_⟩⟩
  refine ⟨x, mu, d, rfl, hx, ho.show, hm, by have := ho.dp; omega, ho.fits, ?_⟩
  refine ⟨_, rfl, ?_⟩
  refine ⟨y, mu, d, rfl, hy, ho.show, hm, by have := ho.dp; omega, ho.fits, ?_⟩
  have e : decide (V.str d.shown = V.str d.shown) = true := decide_eq_true rfl
  first
    | (show Q (.bl (decide (V.str d.shown = V.str d.shown))) H; rw [e]; exact k)
    | (refine ⟨rfl, ?_⟩; rw [e]; exact k)
    | (refine ⟨rfl, rfl, ?_⟩; rw [e]; exact k)
def spBag (K : PySem.W.Frag) : Sp := fun vs H Q _ => ∃ (a : Addr) (ns : List Int), vs = [.ref a] ∧ SqL K H a (ns.map V.int) ∧ ns.length ≤ 63 ∧ ∀ b H', Same H H' → H b = none → BagAt H' b → Q (.ref b) H'
abbrev s_law_bag : Stmt := topS 12
theorem sc__law_bag : FnScope ["script", "cell"] ["script"] (defScope s_law_bag) := ⟨rfl, rfl, rfl, by decide +kernel, rfl, by decide +kernel, by decide +kernel⟩
theorem ok__law_bag {f : Addr} {fd : FuncData} (F : Fun K "_law_bag" "_law_bag" s_law_bag f fd) (B : Bt mg) : FnG P w K mg base 1 f fd ["script"] (spBag K) := by
  refine Fun.okG F sc__law_bag (fun vs H Q E h => ?_) (fun cdv A outer s H vs Q E hg hr h => ?_)
  · obtain ⟨a, ns, rfl, _⟩ := h
    rfl
  obtain ⟨a, ns, rfl, hS, hl, k⟩ := h
  refine ⟨_, (pss_one (ps_ret (pe_lst (pa_cons pe_int (pa_cons pe_int (pa_cons pe_int (pa_cons (pe_lc (own := [("cell", 1)]) rfl sc__law_bag.nd (pi_list (pe_slice sl_list (pv 0) po_none (po_some pe_int))) (blkOk_by (own := [("cell", 1)]) (N := ["script", "cell"]) (sc := (defScope s_law_bag)) (by decide +kernel)) (fun _ _ _ _ _ => (pg_name (i := 1) sc__law_bag.nd rfl (Or.inl rfl))) (fun _ _ _ _ _ => pts_nil) (fun _ _ _ _ _ => (pe_callB call_abs (by rfl) B.abs bb_abs (pa_cons (pv 1) pa_nil)))) pa_nil))))))), ?_⟩
  refine ⟨_, rfl, 63, rfl, a, _, rfl, hS, fun p np => ?_⟩
  have sp := same_upd (o := .lst (cutV (ns.map V.int) none (some 63))) np
  obtain ⟨ms, em, hms⟩ : ∃ ms : List Int, cutV (ns.map V.int) none (some 63) = ms.map V.int ∧ ms.length ≤ 63 := by
    refine ⟨(ns.drop (HT.sIx ns.length 0 none)).take (HT.sIx ns.length ns.length (some 63) - HT.sIx ns.length 0 none), ?_, ?_⟩
    · unfold cutV
      rw [List.map_take, List.map_drop, List.length_map]
    · rw [List.length_take, List.length_drop]
      omega
  rw [em] at sp ⊢
  refine ⟨p, rfl, ⟨_, .inl (.inl upd_same)⟩, fun D nD => ?_⟩
  have sD := same_upd (o := .lst []) nD
  have nDp : p ≠ D := fun z => by
    rw [← z, upd_same] at nD
    cases nD
  refine lc_it (walk_list (xs := ms.map V.int) (a := p)) (fun i H' => Same H H' ∧ H' p = some (.lst (ms.map V.int)) ∧ H' D = some (.lst (((ms.take i).map fun c => if c < 0 then -c else c).map V.int))) ⟨sp.trans sD, sD _ _ upd_same, by rw [upd_same]; rfl⟩ (fun i H' _ h => .inl (.inl h.2.1)) (fun i x H2 H3 hi h y => ?_) fun H2 h => ?_
  · obtain ⟨h1, h2, h3⟩ := h
    obtain ⟨rfl, hx⟩ := y
    rw [List.getElem?_map] at hx
    have hi' : i < ms.length := by simpa using hi
    rw [List.getElem?_eq_getElem hi'] at hx
    cases hx
    refine ⟨rfl, _, rfl, _, rfl, _, h3, Nat.lt_of_le_of_lt (by rw [List.length_map, List.length_map, List.length_take]; exact Nat.min_le_left _ _) (small1000 (show i ≤ 1000 by omega)), fun q o e => ?_, ?_, ?_⟩
    · have nq : q ≠ D := fun z => by
        have e2 := sp _ _ e
        rw [z, nD] at e2
        cases e2
      rw [upd_ne nq]
      exact h1 q o e
    · rw [upd_ne nDp]
      exact h2
    · rw [upd_same, List.take_add_one, List.getElem?_eq_getElem hi', List.map_append, List.map_append]
      rfl
  · obtain ⟨h1, h2, h3⟩ := h
    rw [show List.take (ms.map V.int).length ms = ms from List.take_of_length_le (by rw [List.length_map]; exact Nat.le_refl _)] at h3
    refine ⟨by show 4 ≤ sizeLine; decide, fun b nb => ?_⟩
    have s3 := same_upd (o := .lst [.int 0, .int 1234567891, .int 0, .ref D]) nb
    have nbD : D ≠ b := fun z => by
      rw [z, nb] at h3
      cases h3
    have hb0 : H b = none := by
      cases e : H b with
      | none => rfl
      | some o =>
        rw [h1 _ _ e] at nb
        cases nb
    refine k b _ (h1.trans s3) hb0 ⟨0, 1234567891, 0, D, ms.map fun c => if c < 0 then -c else c, upd_same, s3 _ _ h3, nbD, by decide, by decide, by decide, by decide, by rw [List.length_map]; exact hms, fun c hc => ?_⟩
    obtain ⟨z, _, rfl⟩ := List.mem_map.mp hc
    split <;> omega
end
end K35
namespace K35
open PySem PySem.Spec PyProof.Rows L2 Sw
structure Tx (mg : Str → Option Value) : Prop where
  gcd : mg "gcd" = some (.builtin "math.gcd")
  lcm : mg "lcm" = some (.builtin "math.lcm")
/-- not too great -/
def Bg (n : Int) : Prop := n.natAbs < 2 ^ 3900
theorem Bg.w {n : Int} (h : Bg n) : n.natAbs < 2 ^ 8000 := Nat.lt_of_lt_of_le h (Nat.pow_le_pow_right (by decide) (by decide))
theorem Bg.div {n c : Int} (h : Bg n) : Bg (n / c) := Nat.lt_of_le_of_lt div_le h
theorem Bg.gcd {n c : Int} (h : Bg c) (h0 : c ≠ 0) : Bg (gI n c) := Nat.lt_of_le_of_lt (gI_le h0) h
theorem Bg.neg {n : Int} (h : Bg n) : Bg (-n) := by
  unfold Bg
  rw [Int.natAbs_neg]
  exact h
section
variable {P : Program} {w : World} {K : PySem.W.Frag} {mg : Str → Option Value} {base : Heap}
def spReduced : Sp := fun vs H Q _ => ∃ n d : Int, vs = [.int n, .int d] ∧ d ≠ 0 ∧ Bg d ∧ Res Q H (redI n d)
abbrev sreduced : Stmt := topS 2
theorem sc_reduced : FnScope ["n", "d", "common"] ["n", "d"] (defScope sreduced) := ⟨rfl, rfl, rfl, by decide +kernel, rfl, by decide +kernel, by decide +kernel⟩
theorem ok_reduced {f : Addr} {fd : FuncData} (F : Fun K "reduced" "reduced" sreduced f fd) (B : Bt mg) (T : Tx mg) : FnG P w K mg base 1 f fd ["n", "d"] spReduced := by
  refine Fun.okG F sc_reduced (fun vs H Q E h => ?_) (fun cdv A outer s H vs Q E hg hr h => ?_)
  · obtain ⟨n, d, rfl, _⟩ := h
    rfl
  obtain ⟨n, d, rfl, h0, hb, k⟩ := h
  refine ⟨_, (pss_cons (ps_set (i := 2) sc_reduced.nd rfl (Or.inl rfl) (pe_callBfun cr_gcd (by rfl) T.gcd (pa_cons (pv 0) (pa_cons (pv 1) pa_nil))))
    (pss_cons (ps_if (pt_cmpR op_lt (pv 1) pe_int (nomark _))
      (pss_one (ps_set (i := 2) sc_reduced.nd rfl (Or.inl rfl) (pe_un un_neg (pv 2))))
      pss_nil)
    (pss_one (ps_ret (pe_tup (pa_cons (pe_op op_fdivA (pv 0) (pv 2)) (pa_cons (pe_op op_fdivA (pv 1) (pv 2)) pa_nil))))))), ?_⟩
  have g := gI_pos (a := n) h0
  have lg := log_lt (hb.gcd (n := n) h0).w
  have k' := k.now (.refl H) (red_fdiv h0).symm
  refine ⟨_, rfl, _, rfl, n, d, rfl, ?_⟩
  refine ⟨_, rfl, _, _, rfl, rfl, _, rfl, iteP (fun h => ?_) fun h => ?_⟩
  · rw [if_pos h] at k'
    have hc : CDivA 0 (-gI n d) := ⟨by omega, by rw [Int.natAbs_neg]; exact lg⟩
    exact ⟨_, rfl, _, rfl, _, rfl, _, rfl, _, _, rfl, rfl, hc, _, rfl, _, rfl, _, _, rfl, rfl, hc, by show 2 ≤ sizeLine; decide, k'⟩
  · rw [if_neg h] at k'
    have hc : CDivA 0 (gI n d) := ⟨by omega, lg⟩
    exact ⟨_, rfl, _, rfl, _, _, rfl, rfl, hc, _, rfl, _, rfl, _, _, rfl, rfl, hc, by show 2 ≤ sizeLine; decide, k'⟩
/-- two FRACTIONS -/
def spTwo (K : PySem.W.Frag) (r : Int → Int → Int → Int → Int × Int) : Sp := fun vs H Q _ => ∃ (x y : V) (n d m e : Int), vs = [x, y] ∧ Cpl K H x n d ∧ Cpl K H y m e ∧ Fr n d ∧ Fr m e ∧ Bg n ∧ Bg d ∧ Bg m ∧ Bg e ∧ Res Q H (r n d m e)
def addF (n d m e : Int) : Int × Int := redI (n * e + m * d) (d * e)
def subF (n d m e : Int) : Int × Int := redI (n * e - m * d) (d * e)
def mulF (n d m e : Int) : Int × Int := redI (n * m) (d * e)
end
theorem spTwo_len {K : PySem.W.Frag} {r : Int → Int → Int → Int → Int × Int} {a b : Str} : ∀ vs H Q E, spTwo K r vs H Q E → vs.length = [a, b].length := fun vs H Q E h => by
  obtain ⟨_, _, _, _, _, _, rfl, _⟩ := h
  rfl
theorem Bg.mul {n m : Int} (h : Bg n) (k : Bg m) : (n * m).natAbs < 2 ^ 7800 := natAbs_lt_mul h k
theorem w6 {n : Int} (h : n.natAbs < 2 ^ 7800) : n.natAbs < 2 ^ 8000 := Nat.lt_of_lt_of_le h (Nat.pow_le_pow_right (by decide) (by decide))
section
variable {P : Program} {w : World} {K : PySem.W.Frag} {mg : Str → Option Value} {base : Heap}
theorem den_ok {d e : Int} (f1 : 0 < d) (f2 : 0 < e) (bd : Bg d) (be : Bg e) : d * e ≠ 0 ∧ (d * e).natAbs < 2 ^ 8000 := ⟨Int.mul_ne_zero (by omega) (by omega), w6 (bd.mul be)⟩
theorem res_p {Q : VK} {H H1 : Hp} {r : Int × Int} (k : Res Q H r) (s : Same H H1) : ∀ p, H1 p = none → Q (.ref p) (upd H1 p (.tup [.int r.1, .int r.2])) := k.now s rfl
abbrev s_law_added : Stmt := topS 19
theorem sc__law_added : FnScope ["one", "other"] ["one", "other"] (defScope s_law_added) := ⟨rfl, rfl, rfl, by decide +kernel, rfl, by decide +kernel, by decide +kernel⟩
theorem ok__law_added {f : Addr} {fd : FuncData} (F : Fun K "_law_added" "_law_added" s_law_added f fd) (B : Bt mg) (c__law_reduced : CalG P w K mg base 2 "_law_reduced" spRed) : FnG P w K mg base 3 f fd ["one", "other"] (spTwo K addF) := by
  refine Fun.okG F sc__law_added spTwo_len (fun cdv A outer s H vs Q E hg hr h => ?_)
  obtain ⟨x, y, n, d, m, e, rfl, ⟨a, rfl, ha⟩, ⟨b, rfl, hb⟩, f1, f2, bn, bd, bm, be, k⟩ := h
  refine ⟨_, (pss_one (ps_ret (pc c__law_reduced hg hr (by decide) (by rfl) (pa_cons (pe_op op_add (pe_op op_mulW (pe_ix ix_tup (pv 0) pe_int (fun _ _ => rfl)) (pe_ix ix_tup (pv 1) pe_int (fun _ _ => rfl))) (pe_op op_mulW (pe_ix ix_tup (pv 1) pe_int (fun _ _ => rfl)) (pe_ix ix_tup (pv 0) pe_int (fun _ _ => rfl)))) (pa_cons (pe_op op_mulW (pe_ix ix_tup (pv 0) pe_int (fun _ _ => rfl)) (pe_ix ix_tup (pv 1) pe_int (fun _ _ => rfl))) pa_nil))))), ?_⟩
  refine ⟨_, rfl, a, _, 0, _, rfl, rfl, ha, atI_nat (j := 0) rfl, _, rfl, b, _, 1, _, rfl, rfl, hb, atI_nat (j := 1) rfl, _, _, rfl, rfl, mulW bn.w be.w, ?_⟩
  refine ⟨_, rfl, b, _, 0, _, rfl, rfl, hb, atI_nat (j := 0) rfl, _, rfl, a, _, 1, _, rfl, rfl, ha, atI_nat (j := 1) rfl, _, _, rfl, rfl, mulW bm.w bd.w, _, _, rfl, rfl, ?_⟩
  refine ⟨_, rfl, a, _, 1, _, rfl, rfl, ha, atI_nat (j := 1) rfl, _, rfl, b, _, 1, _, rfl, rfl, hb, atI_nat (j := 1) rfl, _, _, rfl, rfl, mulW bd.w be.w, ?_⟩
  obtain ⟨z1, z2⟩ := den_ok f1.pos f2.pos bd be
  exact ⟨_, _, rfl, z1, z2, res_p k (.refl H)⟩
abbrev s_law_multiplied : Stmt := topS 20
theorem sc__law_multiplied : FnScope ["one", "other"] ["one", "other"] (defScope s_law_multiplied) := ⟨rfl, rfl, rfl, by decide +kernel, rfl, by decide +kernel, by decide +kernel⟩
theorem ok__law_multiplied {f : Addr} {fd : FuncData} (F : Fun K "_law_multiplied" "_law_multiplied" s_law_multiplied f fd) (B : Bt mg) (c__law_reduced : CalG P w K mg base 2 "_law_reduced" spRed) : FnG P w K mg base 3 f fd ["one", "other"] (spTwo K mulF) := by
  refine Fun.okG F sc__law_multiplied spTwo_len (fun cdv A outer s H vs Q E hg hr h => ?_)
  obtain ⟨x, y, n, d, m, e, rfl, ⟨a, rfl, ha⟩, ⟨b, rfl, hb⟩, f1, f2, bn, bd, bm, be, k⟩ := h
  refine ⟨_, (pss_one (ps_ret (pc c__law_reduced hg hr (by decide) (by rfl) (pa_cons (pe_op op_mulW (pe_ix ix_tup (pv 0) pe_int (fun _ _ => rfl)) (pe_ix ix_tup (pv 1) pe_int (fun _ _ => rfl))) (pa_cons (pe_op op_mulW (pe_ix ix_tup (pv 0) pe_int (fun _ _ => rfl)) (pe_ix ix_tup (pv 1) pe_int (fun _ _ => rfl))) pa_nil))))), ?_⟩
  refine ⟨_, rfl, a, _, 0, _, rfl, rfl, ha, atI_nat (j := 0) rfl, _, rfl, b, _, 0, _, rfl, rfl, hb, atI_nat (j := 0) rfl, _, _, rfl, rfl, mulW bn.w bm.w, ?_⟩
  refine ⟨_, rfl, a, _, 1, _, rfl, rfl, ha, atI_nat (j := 1) rfl, _, rfl, b, _, 1, _, rfl, rfl, hb, atI_nat (j := 1) rfl, _, _, rfl, rfl, mulW bd.w be.w, ?_⟩
  obtain ⟨z1, z2⟩ := den_ok f1.pos f2.pos bd be
  exact ⟨_, _, rfl, z1, z2, res_p k (.refl H)⟩
end
end K35
namespace K35
open PySem PySem.Spec PyProof.Rows L2 Sw M35
/-! what a couple stands for -/
def vf (f : Int × Int) : Rat := (f.1 : Rat) / (f.2 : Rat)
theorem ne_cast {y : Int} (h : y ≠ 0) : (y : Rat) ≠ 0 := by simp [h]
theorem cast_eq {a b : Int} (h : (a : Rat) = (b : Rat)) : a = b := by exact_mod_cast h
theorem vf_red {x y : Int} (h : y ≠ 0) : vf (redI x y) = (x : Rat) / (y : Rat) := by
  obtain ⟨f, e⟩ := redI_fr (x := x) h
  have h1 : ((redI x y).1 : Rat) * (y : Rat) = (x : Rat) * ((redI x y).2 : Rat) := by exact_mod_cast e
  have h2 := ne_cast h
  have h3 := ne_cast (show (redI x y).2 ≠ 0 by have := f.pos; omega)
  unfold vf
  grind
theorem vf_add {n d m e : Int} (hd : d ≠ 0) (he : e ≠ 0) : vf (addF n d m e) = vf (n, d) + vf (m, e) := by
  unfold addF
  rw [vf_red (Int.mul_ne_zero hd he)]
  have h2 := ne_cast hd
  have h3 := ne_cast he
  have e1 : ((n * e + m * d : Int) : Rat) = (n : Rat) * e + (m : Rat) * d := by simp
  have e2 : ((d * e : Int) : Rat) = (d : Rat) * e := by simp
  rw [e1, e2]
  unfold vf
  grind
theorem vf_mul {n d m e : Int} (hd : d ≠ 0) (he : e ≠ 0) : vf (mulF n d m e) = vf (n, d) * vf (m, e) := by
  unfold mulF
  rw [vf_red (Int.mul_ne_zero hd he)]
  have h2 := ne_cast hd
  have h3 := ne_cast he
  have e1 : ((n * m : Int) : Rat) = (n : Rat) * m := by simp
  have e2 : ((d * e : Int) : Rat) = (d : Rat) * e := by simp
  rw [e1, e2]
  unfold vf
  grind
theorem vf_inj {f g : Int × Int} (hf : Fr f.1 f.2) (hg : Fr g.1 g.2) (e : vf f = vf g) : f = g := by
  have h2 := ne_cast (show f.2 ≠ 0 by have := hf.pos; omega)
  have h3 := ne_cast (show g.2 ≠ 0 by have := hg.pos; omega)
  unfold vf at e
  have e1 : (f.1 : Rat) * g.2 = (g.1 : Rat) * f.2 := by grind
  have e2 : f.1 * g.2 = g.1 * f.2 := cast_eq (by simpa using e1)
  obtain ⟨a, b⟩ := fr_eq hf hg e2
  exact Prod.ext a b
theorem vf_zero {f : Int × Int} (hf : Fr f.1 f.2) : vf f = 0 ↔ f.1 = 0 := by
  have h2 := ne_cast (show f.2 ≠ 0 by have := hf.pos; omega)
  unfold vf
  constructor
  · intro e
    have e1 : (f.1 : Rat) = ((0 : Int) : Rat) := by
      have : ((0 : Int) : Rat) = 0 := rfl
      rw [this]
      grind
    exact cast_eq e1
  · intro e
    rw [e]
    have : ((0 : Int) : Rat) = 0 := rfl
    rw [this]
    grind
theorem vf_neg (n d : Int) : vf (-n, d) = - vf (n, d) := by
  unfold vf
  have : ((-n : Int) : Rat) = - (n : Rat) := by simp
  show ((-n : Int) : Rat) / (d : Rat) = _
  rw [this]
  grind
/-! a FRACTION of a size -/
structure Sz (a b : Nat) (f : Int × Int) : Prop where
  fr : Fr f.1 f.2
  n : f.1.natAbs < 2 ^ a
  d : f.2.natAbs < 2 ^ b
theorem p2 {a b : Nat} (h : a ≤ b) : (2 : Nat) ^ a ≤ 2 ^ b := Nat.pow_le_pow_right (by decide) h
theorem Sz.nd {a b : Nat} {f : Int × Int} (h : Sz a b f) : f.2 ≠ 0 := by
  have := h.fr.pos
  omega
theorem Sz.mono {a b a' b' : Nat} {f : Int × Int} (h : Sz a b f) (ha : a ≤ a') (hb : b ≤ b') : Sz a' b' f := ⟨h.fr, Nat.lt_of_lt_of_le h.n (p2 ha), Nat.lt_of_lt_of_le h.d (p2 hb)⟩
theorem Sz.bn {a b : Nat} {f : Int × Int} (h : Sz a b f) (ha : a ≤ 3900) : Bg f.1 := Nat.lt_of_lt_of_le h.n (p2 ha)
theorem Sz.bd {a b : Nat} {f : Int × Int} (h : Sz a b f) (hb : b ≤ 3900) : Bg f.2 := Nat.lt_of_lt_of_le h.d (p2 hb)
theorem Sz.mul {a b a' b' : Nat} {f g : Int × Int} (h : Sz a b f) (k : Sz a' b' g) : Sz (a + a') (b + b') (mulF f.1 f.2 g.1 g.2) := by
  have hd := Int.mul_ne_zero h.nd k.nd
  obtain ⟨l1, l2⟩ := redI_le (x := f.1 * g.1) hd
  exact ⟨(redI_fr hd).1, Nat.lt_of_le_of_lt l1 (natAbs_lt_mul h.n k.n), Nat.lt_of_le_of_lt l2 (natAbs_lt_mul h.d k.d)⟩
theorem Sz.add {a b a' b' c : Nat} {f g : Int × Int} (h : Sz a b f) (k : Sz a' b' g) (h1 : a + b' + 1 ≤ c) (h2 : a' + b + 1 ≤ c) : Sz c (b + b') (addF f.1 f.2 g.1 g.2) := by
  have hd := Int.mul_ne_zero h.nd k.nd
  obtain ⟨l1, l2⟩ := redI_le (x := f.1 * g.2 + g.1 * f.2) hd
  refine ⟨(redI_fr hd).1, Nat.lt_of_le_of_lt l1 ?_, Nat.lt_of_le_of_lt l2 (natAbs_lt_mul h.d k.d)⟩
  have e : c = (c - 1) + 1 := by omega
  rw [e]
  exact natAbs_lt_add (Nat.lt_of_lt_of_le (natAbs_lt_mul h.n k.d) (p2 (by omega))) (Nat.lt_of_lt_of_le (natAbs_lt_mul k.n h.d) (p2 (by omega)))
theorem Sz.neg {a b : Nat} {n d : Int} (h : Sz a b (n, d)) : Sz a b (-n, d) := ⟨h.fr.neg, by show (-n).natAbs < _; rw [Int.natAbs_neg]; exact h.n, h.d⟩
theorem sz_zero : Sz 0 1 (0, 1) := ⟨⟨by decide, gI_cp.mp (by decide)⟩, by decide, by decide⟩
theorem sz_one : Sz 1 1 (1, 1) := ⟨⟨by decide, gI_cp.mp (by decide)⟩, by decide, by decide⟩
/-! the sum of a row -/
def sumF (fs : List (Int × Int)) : Int × Int := fs.foldl (fun s f => addF s.1 s.2 f.1 f.2) (0, 1)
theorem sumF_snoc (fs : List (Int × Int)) (f : Int × Int) : sumF (fs ++ [f]) = addF (sumF fs).1 (sumF fs).2 f.1 f.2 := by
  unfold sumF
  rw [List.foldl_append]
  rfl
theorem sum_sz {a b : Nat} : ∀ (fs : List (Int × Int)) (i : Nat), (∀ f ∈ fs, Sz a b f) → i ≤ fs.length → Sz (a + i * (b + 1) + 1) (1 + i * b) (sumF (fs.take i)) ∧ vf (sumF (fs.take i)) = ((fs.take i).map vf).sum
  | fs, 0, _, _ => by
    refine ⟨sz_zero.mono (by omega) (by omega), ?_⟩
    show vf (0, 1) = 0
    unfold vf
    have : ((0 : Int) : Rat) = 0 := rfl
    show ((0 : Int) : Rat) / ((1 : Int) : Rat) = 0
    rw [this]
    grind
  | fs, i + 1, h, hi => by
    have hlt : i < fs.length := hi
    have e : fs.take (i + 1) = fs.take i ++ [fs[i]] := by
      rw [List.take_add_one, List.getElem?_eq_getElem hlt]
      rfl
    obtain ⟨h1, h2⟩ := sum_sz fs i h (by omega)
    have h3 := h fs[i] (List.getElem_mem hlt)
    rw [e, sumF_snoc]
    have e2 : (i + 1) * (b + 1) = i * (b + 1) + (b + 1) := Nat.succ_mul _ _
    have e3 : (i + 1) * b = i * b + b := Nat.succ_mul _ _
    have e4 : i * (b + 1) = i * b + i := Nat.mul_succ _ _
    refine ⟨(h1.add h3 (c := a + (i + 1) * (b + 1) + 1) (by omega) (by omega)).mono (Nat.le_refl _) (by omega), ?_⟩
    rw [vf_add h1.nd h3.nd, List.map_append, List.sum_append, ← h2, List.map_cons, List.map_nil, List.sum_cons, List.sum_nil]
    show vf (sumF (fs.take i)) + vf fs[i] = _
    grind
/-! determinants by cofactors of the first row -/
def mnr (q : MatQ) (a : Nat) : MatQ := fun i j => q (i + 1) (if j < a then j else j + 1)
def sgn (a : Nat) : Int := if a % 2 = 0 then 1 else -1
theorem sgn_succ (a : Nat) : sgn (a + 1) = - sgn a := by
  unfold sgn
  by_cases h : a % 2 = 0
  · rw [if_pos h, if_neg (by omega)]
  · rw [if_neg h, if_pos (by omega)]
    rfl
theorem sgn_or (a : Nat) : sgn a = 1 ∨ sgn a = -1 := by
  unfold sgn
  split
  · exact .inl rfl
  · exact .inr rfl
def lap (m : Nat) (q : MatQ) : Nat → Rat
  | 0 => 0
  | a + 1 => lap m q a + (sgn a : Rat) * (q 0 a * detQ m (mnr q a))
theorem lap_det (q : MatQ) : ∀ m, m < 4 → lap m q (m + 1) = detQ (m + 1) q := by
  intro m hm
  match m with
  | 0 => simp [lap, detQ, mnr, sgn]; grind
  | 1 => simp [lap, detQ, mnr, sgn]; grind
  | 2 => simp [lap, detQ, mnr, sgn]; grind
  | 3 => simp [lap, detQ, mnr, sgn]; grind
  | m + 4 => omega
theorem detQ_congr {n : Nat} {f g : MatQ} (h : ∀ r, r < n → ∀ c, c < n → f r c = g r c) : detQ n f = detQ n g := by
  match n, h with
  | 0, _ => rfl
  | 1, h => simp [detQ, h]
  | 2, h => simp [detQ, h]
  | 3, h => simp [detQ, h]
  | 4, h => simp [detQ, h]
  | _ + 5, _ => rfl
/-- how great a determinant is -/
def aW : Nat → Nat
  | 0 => 1
  | m + 1 => 81 + aW m + (m + 1) * (21 + bW m)
where bW : Nat → Nat
  | 0 => 1
  | m + 1 => 1 + (m + 1) * (20 + bW m)
abbrev bW := aW.bW
theorem aW_le : ∀ m, m ≤ 4 → aW m ≤ 2500 ∧ bW m ≤ 2500 := by decide +kernel
end K35
namespace K35
open PySem PySem.Spec PyProof.Rows L2 Sw M35 StX RZ
/-! rows of integers -/
abbrev rowV (r : Nat → Int) (m : Nat) : List V := (List.range m).map fun j => .int (r j)
def RowZ (K : PySem.W.Frag) (H : Hp) (a : Addr) (r : Nat → Int) (m : Nat) : Prop := H a = some (.lst (rowV r m)) ∧ K = K
theorem RowZ.sq {K : PySem.W.Frag} {H : Hp} {a : Addr} {r : Nat → Int} {m : Nat} (h : RowZ K H a r m) : SqL K H a (rowV r m) := .inl (.inl h.1)
theorem rowV_get {r : Nat → Int} {m j : Nat} (h : j < m) : (rowV r m)[j]? = some (.int (r j)) := by
  rw [List.getElem?_map, List.getElem?_range h]
  rfl
theorem rowV_len (r : Nat → Int) (m : Nat) : (rowV r m).length = m := by rw [List.length_map, List.length_range]
theorem rowV_succ (r : Nat → Int) (m : Nat) : rowV r (m + 1) = rowV r m ++ [.int (r m)] := by
  unfold rowV
  rw [List.range_succ, List.map_append]
  rfl
structure GridZ (K : PySem.W.Frag) (H : Hp) (a : Addr) (G : Mat) (n m : Nat) : Prop where
  ex : ∃ rs : List Addr, H a = some (.lst (rs.map V.ref)) ∧ rs.length = n ∧ ∀ i r, rs[i]? = some r → r ≠ a ∧ RowZ K H r (G i) m
theorem seqL_upd {K : PySem.W.Frag} {H : Hp} {r a : Addr} {o : HO} {xs : List V} (h : SqL K H r xs) (n : r ≠ a) : SqL K (upd H a o) r xs := by
  rcases h with (h | ⟨ob, h⟩) | h
  · exact .inl (.inl (by rw [upd_ne n]; exact h))
  · exact .inl (.inr ⟨ob, by rw [upd_ne n]; exact h⟩)
  · exact .inr h
theorem RowZ.same {K : PySem.W.Frag} {H H' : Hp} {a : Addr} {r : Nat → Int} {m : Nat} (h : RowZ K H a r m) (s : Same H H') : RowZ K H' a r m := ⟨s _ _ h.1, rfl⟩
theorem RowZ.upd {K : PySem.W.Frag} {H : Hp} {a b : Addr} {o : HO} {r : Nat → Int} {m : Nat} (h : RowZ K H a r m) (n : a ≠ b) : RowZ K (upd H b o) a r m := ⟨by rw [upd_ne n]; exact h.1, rfl⟩
/-- the row of a list of integers -/
def getZ (ws : List Int) (j : Nat) : Int := ws.getD j 0
theorem rowV_of (ws : List Int) : rowV (getZ ws) ws.length = ws.map V.int := by
  apply List.ext_getElem?
  intro i
  by_cases h : i < ws.length
  · rw [rowV_get h, List.getElem?_map, List.getElem?_eq_getElem h]
    show some (V.int (ws.getD i 0)) = _
    rw [List.getD_eq_getElem?_getD, List.getElem?_eq_getElem h]
    rfl
  · rw [List.getElem?_eq_none (by rw [rowV_len]; omega), List.getElem?_eq_none (by rw [List.length_map]; omega)]
/-! a row of FRACTIONS made whole -/
def scaleF (fs : List (Int × Int)) : Nat := fs.foldl (fun s f => Nat.lcm s f.2.natAbs) 1
theorem scaleF_snoc (fs : List (Int × Int)) (f : Int × Int) : scaleF (fs ++ [f]) = Nat.lcm (scaleF fs) f.2.natAbs := by
  unfold scaleF
  rw [List.foldl_append]
  rfl
def wholeL (fs : List (Int × Int)) : List Int := fs.map fun f => f.1 * ((scaleF fs : Int) / f.2)
def commonF (ws : List Int) : Nat := ws.foldl (fun g w => Nat.gcd g w.natAbs) 0
theorem commonF_snoc (ws : List Int) (w : Int) : commonF (ws ++ [w]) = Nat.gcd (commonF ws) w.natAbs := by
  unfold commonF
  rw [List.foldl_append]
  rfl
def wholeF (fs : List (Int × Int)) : List Int := if 1 < commonF (wholeL fs) then (wholeL fs).map (· / (commonF (wholeL fs) : Int)) else wholeL fs
theorem take_snoc {α : Type} {l : List α} {i : Nat} {x : α} (h : l[i]? = some x) : l.take (i + 1) = l.take i ++ [x] := by
  rw [List.take_add_one, h]
  rfl
theorem scale_take {a b : Nat} (fs : List (Int × Int)) (h : ∀ f ∈ fs, Sz a b f) : ∀ i, i ≤ fs.length → 0 < scaleF (fs.take i) ∧ scaleF (fs.take i) < 2 ^ (1 + b * i) ∧ ∀ f ∈ fs.take i, f.2.natAbs ∣ scaleF (fs.take i)
  | 0, _ => ⟨(show 0 < 1 by decide), by show 1 < 2 ^ (1 + b * 0); rw [Nat.mul_zero]; decide, fun f hf => by simp at hf⟩
  | i + 1, hi => by
    have hlt : i < fs.length := hi
    have e := take_snoc (List.getElem?_eq_getElem hlt)
    obtain ⟨h1, h2, h3⟩ := scale_take fs h i (by omega)
    have sz := h fs[i] (List.getElem_mem hlt)
    have p := sz.fr.pos
    rw [e, scaleF_snoc]
    refine ⟨Nat.lcm_pos h1 (by omega), ?_, fun f hf => ?_⟩
    · have e2 : 1 + b * (i + 1) = (1 + b * i) + b := by rw [Nat.mul_succ]; omega
      rw [e2, Nat.pow_add]
      exact Nat.lt_of_le_of_lt (lcm_le_mul (by omega) h1) (Nat.mul_lt_mul'' h2 sz.d)
    · rcases List.mem_append.mp hf with hf | hf
      · exact Nat.dvd_trans (h3 f hf) (Nat.dvd_lcm_left _ _)
      · rw [List.mem_singleton.mp hf]
        exact Nat.dvd_lcm_right _ _
theorem common_dvd (ws : List Int) : ∀ i, i ≤ ws.length → ∀ w ∈ ws.take i, (commonF (ws.take i) : Int) ∣ w
  | 0, _ => fun w hw => by simp at hw
  | i + 1, hi => by
    have hlt : i < ws.length := hi
    have e := take_snoc (List.getElem?_eq_getElem hlt)
    intro w hw
    rw [e, commonF_snoc]
    rw [e] at hw
    rcases List.mem_append.mp hw with hw | hw
    · exact Int.dvd_trans (Int.ofNat_dvd.mpr (Nat.gcd_dvd_left _ _)) (common_dvd ws i (by omega) w hw)
    · rw [List.mem_singleton.mp hw]
      exact Int.ofNat_dvd_left.mpr (Nat.gcd_dvd_right _ _)
theorem common_le (ws : List Int) (B : Nat) (hb : ∀ w ∈ ws, w.natAbs < B) : ∀ i, i ≤ ws.length → 0 < B → commonF (ws.take i) < B
  | 0, _, h0 => h0
  | i + 1, hi, h0 => by
    have hlt : i < ws.length := hi
    have e := take_snoc (List.getElem?_eq_getElem hlt)
    rw [e, commonF_snoc]
    have h1 := common_le ws B hb i (by omega) h0
    have h2 := hb ws[i] (List.getElem_mem hlt)
    by_cases z : commonF (ws.take i) = 0
    · rw [z, Nat.gcd_zero_left]
      exact h2
    · exact Nat.lt_of_le_of_lt (Nat.gcd_le_left _ (by omega)) h1
theorem whole_fact {fs : List (Int × Int)} (h : ∀ f ∈ fs, Sz 80 20 f) (hl : fs.length ≤ 5) : ∀ f ∈ fs, ((f.1 * ((scaleF fs : Int) / f.2) : Int) : Rat) = (scaleF fs : Rat) * vf f ∧ (f.1 * ((scaleF fs : Int) / f.2)).natAbs < 2 ^ 181 := fun f hf => by
  obtain ⟨h1, h2, h3⟩ := scale_take fs h fs.length (Nat.le_refl _)
  rw [List.take_length] at h1 h2 h3
  have sz := h f hf
  have p := sz.fr.pos
  have hd : f.2 ∣ (scaleF fs : Int) := by
    have := h3 f hf
    exact Int.ofNat_dvd_right.mpr this
  obtain ⟨k, hk⟩ := hd
  have e : (scaleF fs : Int) / f.2 = k := Int.ediv_eq_of_eq_mul_right (by omega) hk
  rw [e]
  have hc : ((scaleF fs : Int) : Rat) = (f.2 : Rat) * (k : Rat) := by rw [hk]; simp
  have hc2 : (scaleF fs : Rat) = (f.2 : Rat) * (k : Rat) := hc
  have nz := ne_cast (show f.2 ≠ 0 by omega)
  refine ⟨?_, ?_⟩
  · rw [hc2]
    unfold vf
    have : ((f.1 * k : Int) : Rat) = (f.1 : Rat) * (k : Rat) := by simp
    rw [this]
    grind
  · have hk2 : k.natAbs ≤ scaleF fs := by
      have := congrArg Int.natAbs hk
      rw [Int.natAbs_natCast, Int.natAbs_mul] at this
      rw [this]
      exact Nat.le_mul_of_pos_left _ (by omega)
    have hk3 : k.natAbs < 2 ^ 101 := Nat.lt_of_le_of_lt hk2 (Nat.lt_of_lt_of_le h2 (p2 (by omega)))
    exact natAbs_lt_mul sz.n hk3
theorem wholeL_get {fs : List (Int × Int)} {i : Nat} {f : Int × Int} (h : fs[i]? = some f) : (wholeL fs)[i]? = some (f.1 * ((scaleF fs : Int) / f.2)) := by
  unfold wholeL
  rw [List.getElem?_map, h]
  rfl
theorem wholeF_len (fs : List (Int × Int)) : (wholeF fs).length = fs.length := by
  unfold wholeF wholeL
  split <;> simp
theorem wholeL_small {fs : List (Int × Int)} (h : ∀ f ∈ fs, Sz 80 20 f) (hl : fs.length ≤ 5) : ∀ w ∈ wholeL fs, w.natAbs < 2 ^ 181 := fun w hw => by
  obtain ⟨f, hf, rfl⟩ := List.mem_map.mp hw
  exact (whole_fact h hl f hf).2
/-- so many times the row -/
theorem wholeF_spec {fs : List (Int × Int)} (h : ∀ f ∈ fs, Sz 80 20 f) (hl : fs.length ≤ 5) : ∃ c : Rat, c ≠ 0 ∧ ∀ i f, fs[i]? = some f → (getZ (wholeF fs) i : Rat) = c * vf f ∧ (getZ (wholeF fs) i).natAbs < 2 ^ 181 := by
  obtain ⟨h1, _, _⟩ := scale_take fs h fs.length (Nat.le_refl _)
  rw [List.take_length] at h1
  have s0 : (scaleF fs : Rat) ≠ 0 := by
    have : ((scaleF fs : Int) : Rat) ≠ 0 := ne_cast (by omega)
    exact this
  unfold wholeF
  by_cases hc : 1 < commonF (wholeL fs)
  · rw [if_pos hc]
    have c0 : (commonF (wholeL fs) : Rat) ≠ 0 := by
      have : ((commonF (wholeL fs) : Int) : Rat) ≠ 0 := ne_cast (by omega)
      exact this
    refine ⟨(scaleF fs : Rat) / (commonF (wholeL fs) : Rat), by grind, fun i f hf => ?_⟩
    have hm := List.mem_of_getElem? hf
    have hg := wholeL_get hf
    obtain ⟨w1, w2⟩ := whole_fact h hl f hm
    have hd := common_dvd (wholeL fs) (wholeL fs).length (Nat.le_refl _) _ (by rw [List.take_length]; exact List.mem_of_getElem? hg)
    rw [List.take_length] at hd
    have eg : getZ ((wholeL fs).map (· / (commonF (wholeL fs) : Int))) i = (f.1 * ((scaleF fs : Int) / f.2)) / (commonF (wholeL fs) : Int) := by
      unfold getZ
      rw [List.getD_eq_getElem?_getD, List.getElem?_map, hg]
      rfl
    rw [eg]
    obtain ⟨k, hk⟩ := hd
    have e : (f.1 * ((scaleF fs : Int) / f.2)) / (commonF (wholeL fs) : Int) = k := Int.ediv_eq_of_eq_mul_right (by omega) hk
    refine ⟨?_, Nat.lt_of_le_of_lt div_le w2⟩
    rw [e]
    have hk2 : ((f.1 * ((scaleF fs : Int) / f.2) : Int) : Rat) = (commonF (wholeL fs) : Rat) * (k : Rat) := by
      rw [hk, Rat.intCast_mul]
      rfl
    rw [w1] at hk2
    grind
  · rw [if_neg hc]
    refine ⟨(scaleF fs : Rat), s0, fun i f hf => ?_⟩
    have eg : getZ (wholeL fs) i = f.1 * ((scaleF fs : Int) / f.2) := by
      unfold getZ
      rw [List.getD_eq_getElem?_getD, wholeL_get hf]
      rfl
    rw [eg]
    exact whole_fact h hl f (List.mem_of_getElem? hf)
end K35
namespace K35
open PySem PySem.Spec PyProof.Rows L2 Sw M35 StX RZ
theorem cutV_from (xs : List V) (n : Nat) : cutV xs (some (n : Int)) none = xs.drop n := by
  unfold cutV
  rw [HT.sIx_none, HT.sIx_nat]
  by_cases h : n ≤ xs.length
  · rw [Nat.min_eq_left h]
    exact List.take_of_length_le (by rw [List.length_drop]; omega)
  · rw [List.drop_eq_nil_of_le (by omega), List.drop_eq_nil_of_le (by omega), List.take_nil]
theorem cutV_to (xs : List V) (n : Nat) : cutV xs none (some (n : Int)) = xs.take n := by
  unfold cutV
  rw [HT.sIx_none, HT.sIx_nat, List.drop_zero, Nat.sub_zero]
  by_cases h : n ≤ xs.length
  · rw [Nat.min_eq_left h]
  · rw [Nat.min_eq_right (by omega), List.take_length, List.take_of_length_le (by omega)]
theorem nopart {σ : L2.St} {H : Hp} {Q : Option Int → Hp → Prop} (h : Q none H) : tNoPart σ H Q := h
section
variable {P : Program} {w : World} {K : PySem.W.Frag} {mg : Str → Option Value} {base : Heap}
def spLcm (K : PySem.W.Frag) : Sp := fun vs H Q _ => ∃ (a : Addr) (xs : List V) (fs : List (Int × Int)), vs = [.ref a] ∧ (SqL K H a xs ∨ SqT K H a xs) ∧ RowF K H xs fs ∧ (∀ f ∈ fs, Sz 80 20 f) ∧ fs.length ≤ 5 ∧ Q (.int (scaleF fs)) H
abbrev scommon_multiple : Stmt := topS 7
theorem sc_common_multiple : FnScope ["fractions", "scale", "one"] ["fractions"] (defScope scommon_multiple) := ⟨rfl, rfl, rfl, by decide +kernel, rfl, by decide +kernel, by decide +kernel⟩
theorem ok_common_multiple {f : Addr} {fd : FuncData} (F : Fun K "common_multiple" "common_multiple" scommon_multiple f fd) (B : Bt mg) (T : Tx mg) : FnG P w K mg base 1 f fd ["fractions"] (spLcm K) := by
  refine Fun.okG F sc_common_multiple (fun vs H Q E h => ?_) (fun cdv A outer s H vs Q E hg hr h => ?_)
  · obtain ⟨_, _, _, rfl, _⟩ := h
    rfl
  obtain ⟨a, xs, fs, rfl, hq, hrow, hsz, hl, k⟩ := h
  have hlen := hrow.len
  rcases hq with hq | hq
  · refine ⟨_, (pss_cons (ps_set (i := 1) sc_common_multiple.nd rfl (Or.inl rfl) pe_int)
      (pss_cons (ps_for PassesOwn.never rfl (pi_list (pv 0)) (pg_name (i := 2) sc_common_multiple.nd rfl (Or.inl rfl))
        (pss_one (ps_set (i := 1) sc_common_multiple.nd rfl (Or.inl rfl) (pe_callBfun cr_lcm (by rfl) T.lcm (pa_cons (pv 1) (pa_cons (pe_ix ix_tup (pv 2) pe_int (fun _ _ => rfl)) pa_nil))))))
      (pss_one (ps_ret (pv 1))))), ?_⟩
    refine ⟨_, rfl, a, rfl, ⟨xs, hq⟩, for_it (walk_list (K := K) (xs := xs) (a := a)) (fun i σ H' => H' = H ∧ ∃ o, σ = [some (.ref a), some (.int (scaleF (fs.take i))), o]) ⟨rfl, _, rfl⟩ (fun i σ H' _ h => by
      obtain ⟨rfl, _⟩ := h
      exact hq) (fun i x σ H1 H2 hi h y => ?_) fun σ H1 h => ?_⟩
    · obtain ⟨rfl, o, rfl⟩ := h
      obtain ⟨rfl, hx⟩ := y
      obtain ⟨f, ef, z, rfl, hz⟩ := hrow.get hx
      have sz := hsz f (List.mem_of_getElem? ef)
      have p := sz.fr.pos
      obtain ⟨l1, l2, _⟩ := scale_take fs hsz i (by omega)
      have e := take_snoc ef
      refine ⟨_, rfl, _, rfl, z, _, 1, _, rfl, rfl, hz, atI_nat (j := 1) rfl, _, _, rfl, by omega, p, Nat.lt_of_lt_of_le (by rw [Int.natAbs_natCast]; exact l2) (p2 (by omega)), Nat.lt_of_lt_of_le sz.d (p2 (by omega)), rfl, some (.ref z), ?_⟩
      rw [e, scaleF_snoc]
      rfl
    · obtain ⟨rfl, o, rfl⟩ := h
      rw [hlen, List.take_length]
      exact ⟨_, rfl, k⟩
  · refine ⟨_, (pss_cons (ps_set (i := 1) sc_common_multiple.nd rfl (Or.inl rfl) pe_int)
      (pss_cons (ps_for PassesOwn.never rfl (pi_tup (pv 0)) (pg_name (i := 2) sc_common_multiple.nd rfl (Or.inl rfl))
        (pss_one (ps_set (i := 1) sc_common_multiple.nd rfl (Or.inl rfl) (pe_callBfun cr_lcm (by rfl) T.lcm (pa_cons (pv 1) (pa_cons (pe_ix ix_tup (pv 2) pe_int (fun _ _ => rfl)) pa_nil))))))
      (pss_one (ps_ret (pv 1))))), ?_⟩
    refine ⟨_, rfl, a, rfl, ⟨xs, hq⟩, for_it (walk_tup (K := K) (xs := xs) (a := a)) (fun i σ H' => H' = H ∧ ∃ o, σ = [some (.ref a), some (.int (scaleF (fs.take i))), o]) ⟨rfl, _, rfl⟩ (fun i σ H' _ h => by
      obtain ⟨rfl, _⟩ := h
      exact hq) (fun i x σ H1 H2 hi h y => ?_) fun σ H1 h => ?_⟩
    · obtain ⟨rfl, o, rfl⟩ := h
      obtain ⟨rfl, hx⟩ := y
      obtain ⟨f, ef, z, rfl, hz⟩ := hrow.get hx
      have sz := hsz f (List.mem_of_getElem? ef)
      have p := sz.fr.pos
      obtain ⟨l1, l2, _⟩ := scale_take fs hsz i (by omega)
      have e := take_snoc ef
      refine ⟨_, rfl, _, rfl, z, _, 1, _, rfl, rfl, hz, atI_nat (j := 1) rfl, _, _, rfl, by omega, p, Nat.lt_of_lt_of_le (by rw [Int.natAbs_natCast]; exact l2) (p2 (by omega)), Nat.lt_of_lt_of_le sz.d (p2 (by omega)), rfl, some (.ref z), ?_⟩
      rw [e, scaleF_snoc]
      rfl
    · obtain ⟨rfl, o, rfl⟩ := h
      rw [hlen, List.take_length]
      exact ⟨_, rfl, k⟩
/-- a row of FRACTIONS times the scales of its places -/
def whR (fs : List (Int × Int)) (ss : List Int) : List Int := List.zipWith (fun f s => f.1 * (s / f.2)) fs ss
def spWholeRow (K : PySem.W.Frag) : Sp := fun vs H Q _ => ∃ (a b : Addr) (xs : List V) (fs : List (Int × Int)) (ss : List Int), vs = [.ref a, .ref b] ∧ SqT K H a xs ∧ RowF K H xs fs ∧ (SqL K H b (ss.map V.int) ∨ SqT K H b (ss.map V.int)) ∧ (∀ f ∈ fs, Sz 80 20 f) ∧ (∀ s ∈ ss, s.natAbs < 2 ^ 101) ∧ fs.length = ss.length ∧ fs.length ≤ 5 ∧ ∀ p H', Same H H' → H p = none → H' p = some (.lst ((whR fs ss).map V.int)) → Q (.ref p) H'
abbrev swhole_row : Stmt := topS 8
theorem sc_whole_row : FnScope ["row", "scales", "n", "d", "scale"] ["row", "scales"] (defScope swhole_row) := ⟨rfl, rfl, rfl, by decide +kernel, rfl, by decide +kernel, by decide +kernel⟩
theorem ok_whole_row {f : Addr} {fd : FuncData} (F : Fun K "whole_row" "whole_row" swhole_row f fd) (B : Bt mg) : FnG P w K mg base 1 f fd ["row", "scales"] (spWholeRow K) := by
  refine Fun.okG F sc_whole_row (fun vs H Q E h => ?_) (fun cdv A outer s H vs Q E hg hr h => ?_)
  · obtain ⟨_, _, _, _, _, rfl, _⟩ := h
    rfl
  obtain ⟨a, b, xs, fs, ss, rfl, ha, hrow, hb, hsz, hss, hl, h5, q⟩ := h
  have hlen := hrow.len
  have hwl : (whR fs ss).length = fs.length := by
    unfold whR
    rw [List.length_zipWith, ← hl, Nat.min_self]
  have hsl : (ss.map V.int).length = fs.length := by rw [List.length_map, hl]
  have turn : ∀ (i : Nat) (x y : V), xs[i]? = some x → (ss.map V.int)[i]? = some y → ∃ (z : Addr) (f : Int × Int) (s : Int), x = .ref z ∧ y = .int s ∧ SqT K H z [.int f.1, .int f.2] ∧ CDivW s f.2 ∧ CMulW f.1 (s / f.2) ∧ (whR fs ss)[i]? = some (f.1 * (s / f.2)) := fun i x y hx hy => by
    obtain ⟨f, ef, z, rfl, hz⟩ := hrow.get hx
    rw [List.getElem?_map] at hy
    cases es : ss[i]? with
    | none =>
      rw [es] at hy
      cases hy
    | some s =>
      rw [es] at hy
      cases hy
      have sz := hsz f (List.mem_of_getElem? ef)
      have ls := hss s (List.mem_of_getElem? es)
      have p := sz.fr.pos
      have hd : f.2.natAbs < 2 ^ 8000 := Nat.lt_of_lt_of_le sz.d (p2 (by omega))
      refine ⟨z, f, s, rfl, rfl, hz, divW p hd, wide_mul (a := 80) (b := 101) sz.n (Nat.lt_of_le_of_lt div_le ls) (by decide) (by decide) (by decide), ?_⟩
      unfold whR
      rw [List.getElem?_zipWith, ef, es]
  rcases hb with hb | hb
  · refine ⟨_, (pss_one (ps_ret (pe_lc (own := [("n", 2), ("d", 3), ("scale", 4)]) rfl sc_whole_row.nd (pi_zipTL (by rfl) B.zip (pa_cons (pv 0) (pa_cons (pv 1) pa_nil))) (blkOk_by (own := [("n", 2), ("d", 3), ("scale", 4)]) (N := ["row", "scales", "n", "d", "scale"]) (sc := (defScope swhole_row)) (by decide +kernel)) (fun _ _ _ _ _ => (pg_tupK (K := K) (hK := rfl) (n := 2) rfl (pgs_cons (pg_tupK (K := K) (hK := rfl) (n := 2) rfl (pgs_cons (pg_name (i := 2) sc_whole_row.nd rfl (Or.inl rfl)) (pgs_cons (pg_name (i := 3) sc_whole_row.nd rfl (Or.inl rfl)) pgs_nil))) (pgs_cons (pg_name (i := 4) sc_whole_row.nd rfl (Or.inl rfl)) pgs_nil)))) (fun _ _ _ _ _ => pts_nil) (fun _ _ _ _ _ => (pe_op op_mulW (pv 2) (pe_op op_fdivW (pv 4) (pv 3))))))), ?_⟩
    refine ⟨_, rfl, _, rfl, a, b, xs, ss.map V.int, rfl, ha, hb, fun D hD => lc_it (walk_zipTL (K := K) (a := a) (b := b) (xs := xs) (ys := ss.map V.int) (n := fs.length) hlen.symm hsl.symm) (fun i H' => Same H H' ∧ H' D = some (.lst (((whR fs ss).take i).map V.int))) ?_ (fun i H' _ h => ⟨h.1.seqT ha, h.1.seq hb⟩) ?_ ?_⟩
    · exact ⟨same_upd hD, by rw [upd_same]; rfl⟩
    · rintro i x H2 H3 hi ⟨sm, hDa⟩ ⟨T, x1, y1, rfl, nT, rfl, hx1, hy1⟩
      obtain ⟨z, f, sc, rfl, rfl, hz, cd, cm, ew⟩ := turn i x1 y1 hx1 hy1
      have TD : T ≠ D := fun e => by
        rw [e, hDa] at nT
        cases nT
      have sT := sm.trans (same_upd (o := .tup [.ref z, .int sc]) nT)
      refine ⟨T, _, rfl, .inl (.inl upd_same), rfl, _, _, rfl, ?_⟩
      refine ⟨z, _, rfl, sT.seqT hz, rfl, _, _, rfl, _, _, rfl, rfl, _, _, rfl, rfl, rfl, ?_⟩
      refine ⟨_, rfl, _, rfl, _, rfl, _, _, rfl, rfl, cd, _, _, rfl, rfl, cm, _, (by rw [upd_ne (Ne.symm TD)]; exact hDa), ?_, fun c o e => ?_, ?_⟩
      · rw [List.length_map]
        have := List.length_take_le i (whR fs ss)
        exact small1000 (by omega)
      · rw [upd_ne (ne_of_none e hD)]
        exact sT _ _ e
      · rw [upd_same, take_snoc ew, List.map_append]
        rfl
    · rintro H2 ⟨sm, hDa⟩
      rw [List.take_of_length_le (by omega)] at hDa
      exact q D H2 sm hD hDa
  · refine ⟨_, (pss_one (ps_ret (pe_lc (own := [("n", 2), ("d", 3), ("scale", 4)]) rfl sc_whole_row.nd (pi_zipA (by rfl) B.zip (pa_cons (pv 0) (pa_cons (pv 1) pa_nil))) (blkOk_by (own := [("n", 2), ("d", 3), ("scale", 4)]) (N := ["row", "scales", "n", "d", "scale"]) (sc := (defScope swhole_row)) (by decide +kernel)) (fun _ _ _ _ _ => (pg_tupK (K := K) (hK := rfl) (n := 2) rfl (pgs_cons (pg_tupK (K := K) (hK := rfl) (n := 2) rfl (pgs_cons (pg_name (i := 2) sc_whole_row.nd rfl (Or.inl rfl)) (pgs_cons (pg_name (i := 3) sc_whole_row.nd rfl (Or.inl rfl)) pgs_nil))) (pgs_cons (pg_name (i := 4) sc_whole_row.nd rfl (Or.inl rfl)) pgs_nil)))) (fun _ _ _ _ _ => pts_nil) (fun _ _ _ _ _ => (pe_op op_mulW (pv 2) (pe_op op_fdivW (pv 4) (pv 3))))))), ?_⟩
    refine ⟨_, rfl, _, rfl, a, b, xs, ss.map V.int, rfl, .inr ⟨ha, hb, fun D hD => lc_it (walk_zipT (K := K) (a := a) (b := b) (xs := xs) (ys := ss.map V.int) (n := fs.length) (by rw [hsl, hlen, Nat.min_self])) (fun i H' => Same H H' ∧ H' D = some (.lst (((whR fs ss).take i).map V.int))) ?_ (fun i H' _ h => ⟨h.1.seqT ha, h.1.seqT hb⟩) ?_ ?_⟩⟩
    · exact ⟨same_upd hD, by rw [upd_same]; rfl⟩
    · rintro i x H2 H3 hi ⟨sm, hDa⟩ ⟨T, x1, y1, rfl, nT, rfl, hx1, hy1⟩
      obtain ⟨z, f, sc, rfl, rfl, hz, cd, cm, ew⟩ := turn i x1 y1 hx1 hy1
      have TD : T ≠ D := fun e => by
        rw [e, hDa] at nT
        cases nT
      have sT := sm.trans (same_upd (o := .tup [.ref z, .int sc]) nT)
      refine ⟨T, _, rfl, .inl (.inl upd_same), rfl, _, _, rfl, ?_⟩
      refine ⟨z, _, rfl, sT.seqT hz, rfl, _, _, rfl, _, _, rfl, rfl, _, _, rfl, rfl, rfl, ?_⟩
      refine ⟨_, rfl, _, rfl, _, rfl, _, _, rfl, rfl, cd, _, _, rfl, rfl, cm, _, (by rw [upd_ne (Ne.symm TD)]; exact hDa), ?_, fun c o e => ?_, ?_⟩
      · rw [List.length_map]
        have := List.length_take_le i (whR fs ss)
        exact small1000 (by omega)
      · rw [upd_ne (ne_of_none e hD)]
        exact sT _ _ e
      · rw [upd_same, take_snoc ew, List.map_append]
        rfl
    · rintro H2 ⟨sm, hDa⟩
      rw [List.take_of_length_le (by omega)] at hDa
      exact q D H2 sm hD hDa
/-- the first row from this one on with a number other than 0 in the column -/
def oN : Option Nat → V
  | none => .non
  | some p => .int p
def spPivot (K : PySem.W.Frag) : Sp := fun vs H Q _ => ∃ (a : Addr) (G : Mat) (n m k : Nat), vs = [.ref a, .int k] ∧ GridZ K H a G n m ∧ k ≤ n ∧ k < m ∧ n ≤ 4 ∧ Q (oN (pivG (fun i => G i k) (n - k) k)) H
abbrev spivot_place : Stmt := topS 9
theorem sc_pivot_place : FnScope ["grid", "place", "other"] ["grid", "place"] (defScope spivot_place) := ⟨rfl, rfl, rfl, by decide +kernel, rfl, by decide +kernel, by decide +kernel⟩
theorem ok_pivot_place {f : Addr} {fd : FuncData} (F : Fun K "pivot_place" "pivot_place" spivot_place f fd) (B : Bt mg) : FnG P w K mg base 1 f fd ["grid", "place"] (spPivot K) := by
  refine Fun.okG F sc_pivot_place (fun vs H Q E h => ?_) (fun cdv A outer s H vs Q E hg hr h => ?_)
  · obtain ⟨_, _, _, _, _, rfl, _⟩ := h
    rfl
  obtain ⟨a, G, n, m, k, rfl, ⟨rs, hrs, hn, hrow⟩, hk, hkm, hn4, q⟩ := h
  refine ⟨_, (pss_cons (ps_for PassesOwn.never rfl (pi_range2 (by rfl) B.range (pa_cons (pv 1) (pa_cons (pe_callB call_lenA (by rfl) B.len boot_len (pa_cons (pv 0) pa_nil)) pa_nil))) (pg_name (i := 2) sc_pivot_place.nd rfl (Or.inl rfl))
      (pss_one (ps_if (pt_cmpR op_ne (pe_ix ix_list (pe_ix ix_list (pv 0) (pv 2) (fun _ _ => rfl)) (pv 1) (fun _ _ => rfl)) pe_int (nomark _))
        (pss_one (ps_ret (pv 2)))
        pss_nil)))
    (pss_one (ps_ret pe_non))), ?_⟩
  have hq : SqL K H a (rs.map V.ref) := .inl (.inl hrs)
  have en : ((n : Int) - (k : Int)).toNat = n - k := by omega
  refine ⟨_, rfl, _, rfl, .ref a, n, rfl, .inl ⟨_, hq, by rw [List.length_map, hn]⟩, k, n, rfl, ⟨by omega, by omega, by omega, by omega⟩, ?_⟩
  rw [en]
  refine for_it (walk_range (lo := (k : Int)) (n := n - k)) (fun t σ H' => H' = H ∧ t ≤ n - k ∧ ∃ o, σ = [some (.ref a), some (.int k), o] ∧ pivG (fun i => G i k) (n - k) k = pivG (fun i => G i k) (n - k - t) (k + t)) ⟨rfl, Nat.zero_le _, _, rfl, rfl⟩ (fun _ _ _ _ _ => trivial) (fun t x σ H1 H2 ht h y => ?_) fun σ H1 h => ?_
  · obtain ⟨rfl, _, o, rfl, e⟩ := h
    obtain ⟨rfl, hx⟩ := y
    have hx : x = .int ((k + t : Nat) : Int) := hx.trans (congrArg V.int (show (k : Int) + (t : Nat) = ((k + t : Nat) : Int) by omega))
    subst hx
    have hlt : k + t < rs.length := by omega
    have er : (rs.map V.ref)[k + t]? = some (.ref rs[k + t]) := by
      rw [List.getElem?_map, List.getElem?_eq_getElem hlt]
      rfl
    have hr2 := (hrow (k + t) _ (List.getElem?_eq_getElem hlt)).2
    have e2 : n - k - t = (n - k - (t + 1)) + 1 := by omega
    rw [e2] at e
    have e := e.trans (show pivG (fun i => G i k) ((n - k - (t + 1)) + 1) (k + t) = if G (k + t) k ≠ 0 then some (k + t) else pivG (fun i => G i k) (n - k - (t + 1)) (k + t + 1) from rfl)
    refine ⟨_, rfl, _, rfl, a, _, ((k + t : Nat) : Int), _, rfl, rfl, hq, atI_nat er, _, rfl, rs[k + t], _, (k : Int), _, rfl, rfl, hr2.sq, atI_nat (rowV_get hkm), rfl, _, rfl, iteNe (fun h => ?_) fun h => ?_⟩
    · have e : pivG (fun i => G i k) (n - k) k = some (k + t) := e.trans (if_pos h)
      rw [e] at q
      exact ⟨_, rfl, q⟩
    · exact ⟨rfl, by omega, _, rfl, e.trans (if_neg fun z => z h)⟩
  · obtain ⟨rfl, _, o, rfl, e⟩ := h
    rw [Nat.sub_self] at e
    rw [e] at q
    exact q
def spCleared (K : PySem.W.Frag) : Sp := fun vs H Q _ => ∃ (a b : Addr) (r l : Nat → Int) (m k : Nat) (d : Int), vs = [.ref a, .ref b, .int k, .int d] ∧ RowZ K H a r m ∧ RowZ K H b l m ∧ k < m ∧ m ≤ 5 ∧ d ≠ 0 ∧ d.natAbs < 2 ^ 8000 ∧
  (∀ j, j < m → (r j).natAbs < 2 ^ 2000 ∧ (l j).natAbs < 2 ^ 2000) ∧ ∀ p H', Same H H' → H p = none → H' p = some (.lst (rowV (fun j => if j ≤ k then 0 else (l k * r j - r k * l j).fdiv d) m)) → Q (.ref p) H'
theorem mul2000 {i j : Int} (h1 : i.natAbs < 2 ^ 2000) (h2 : j.natAbs < 2 ^ 2000) : CMulW i j := wide_mul h1 h2 (by decide) (by decide) (by decide)
abbrev scleared : Stmt := topS 10
theorem sc_cleared : FnScope ["row", "lead", "place", "divisor", "factor", "rest", "one", "other"] ["row", "lead", "place", "divisor"] (defScope scleared) := ⟨rfl, rfl, rfl, by decide +kernel, rfl, by decide +kernel, by decide +kernel⟩
theorem ok_cleared {f : Addr} {fd : FuncData} (F : Fun K "cleared" "cleared" scleared f fd) (B : Bt mg) : FnG P w K mg base 1 f fd ["row", "lead", "place", "divisor"] (spCleared K) := by
  refine Fun.okG F sc_cleared (fun vs H Q E h => ?_) (fun cdv A outer s H vs Q E hg hr h => ?_)
  · obtain ⟨_, _, _, _, _, _, _, rfl, _⟩ := h
    rfl
  obtain ⟨a, b, r, l, m, k, d, rfl, ha, hb, hk, hm, d0, d1, hs, q⟩ := h
  refine ⟨_, (pss_cons (ps_asg (pe_tup (pa_cons (pe_ix ix_list (pv 0) (pv 2) (fun _ _ => rfl)) (pa_cons (pe_slice sl_list (pe_listZip rfl (by rfl) B.list (by rfl) B.zip (pa_cons (pv 0) (pa_cons (pv 1) pa_nil))) (po_some (pe_op op_add (pv 2) pe_int)) po_none) pa_nil))) (pg_tup (n := 2) rfl (pgs_cons (pg_name (i := 4) sc_cleared.nd rfl (Or.inr rfl)) (pgs_cons (pg_name (i := 5) sc_cleared.nd rfl (Or.inl rfl)) pgs_nil))))
    (pss_one (ps_ret (pe_op op_cat (pe_op op_rep (pe_lst (pa_cons pe_int pa_nil)) (pe_op op_add (pv 2) pe_int)) (pe_lc (own := [("one", 6), ("other", 7)]) rfl sc_cleared.nd (pi_list (pv 5)) (blkOk_by (own := [("one", 6), ("other", 7)]) (N := ["row", "lead", "place", "divisor", "factor", "rest", "one", "other"]) (sc := (defScope scleared)) (by decide +kernel)) (fun _ _ _ _ _ => (pg_tupK (K := K) (hK := rfl) (n := 2) rfl (pgs_cons (pg_name (i := 6) sc_cleared.nd rfl (Or.inl rfl)) (pgs_cons (pg_name (i := 7) sc_cleared.nd rfl (Or.inl rfl)) pgs_nil)))) (fun _ _ _ _ _ => pts_nil) (fun _ _ _ _ _ => (pe_op op_fdivA (pe_op op_sub (pe_op op_mulW (pe_ix (ix_listK (K := K) rfl) (pv 1) (pv 2) (fun _ _ => rfl)) (pv 6)) (pe_op op_mulW (pv 4) (pv 7))) (pv 3)))))))), ?_⟩
  have hki := hs k hk
  refine ⟨_, rfl, _, rfl, a, rowV r m, k, .int (r k), rfl, rfl, ha.sq, atI_nat (rowV_get hk), _, rfl, _, rfl, a, b, rowV r m, rowV l m, rfl, ha.sq, hb.sq, fun S ps H1 hS sm1 hL hlp hp => ?_⟩
  rw [rowV_len, rowV_len, Nat.min_self] at hlp
  refine ⟨_, rfl, _, _, rfl, rfl, _, rfl, nopart ⟨S, ps.map V.ref, rfl, .inl (.inl hL), fun q1 nq1 => ?_⟩⟩
  rw [show (k : Int) + 1 = ((k + 1 : Nat) : Int) from by omega, cutV_from]
  refine ⟨by show 2 ≤ sizeLine; decide, fun t nt => ⟨t, _, rfl, .of upd_same, rfl, _, _, rfl, _, _, rfl, rfl, ?_⟩⟩
  have s2 := same_upd (o := .lst ((ps.map V.ref).drop (k + 1))) nq1
  have s3 := same_upd (o := .tup [.int (r k), .ref q1]) nt
  have hq1 := s3 _ _ (show (upd H1 q1 (.lst ((ps.map V.ref).drop (k + 1)))) q1 = _ from upd_same)
  have S3 := sm1.trans (s2.trans s3)
  have hp3 : Prs (upd (upd H1 q1 (.lst ((ps.map V.ref).drop (k + 1)))) t (.tup [.int (r k), .ref q1])) (rowV r m) (rowV l m) ps := fun j T e => by
    obtain ⟨x, y, e1, e2, e3⟩ := hp j T e
    exact ⟨x, y, e1, e2, (s2.trans s3) _ _ e3⟩
  revert hq1 S3 hp3
  generalize upd (upd H1 q1 (.lst ((ps.map V.ref).drop (k + 1)))) t (.tup [.int (r k), .ref q1]) = H3
  intro hq1 S3 hp3
  refine ⟨by show 1 ≤ sizeLine; decide, fun u nu => ⟨_, rfl, _, _, rfl, rfl, u, _, _, rfl, rfl, upd_same, by omega, by omega, by show 1 * _ ≤ _; rw [sizeLine_eq]; omega, fun zr nzr => ?_⟩⟩
  have ez : (List.replicate ((k : Int) + 1).toNat [V.int 0]).flatten = List.replicate (k + 1) (V.int 0) := by
    rw [show ((k : Int) + 1).toNat = k + 1 by omega]
    have : ∀ n : Nat, (List.replicate n [V.int 0]).flatten = List.replicate n (V.int 0) := fun n => by
      induction n with
      | zero => rfl
      | succ n ih => rw [List.replicate_succ, List.flatten_cons, ih]; rfl
    exact this _
  rw [ez]
  have s4 := (same_upd (o := .lst [.int 0]) nu).trans (same_upd (o := .lst (List.replicate (k + 1) (V.int 0))) nzr)
  have hzr : (upd (upd H3 u (.lst [.int 0])) zr (.lst (List.replicate (k + 1) (V.int 0)))) zr = some (.lst (List.replicate (k + 1) (V.int 0))) := upd_same
  have S4 := S3.trans s4
  have hq4 := s4 _ _ hq1
  have hp4 : Prs (upd (upd H3 u (.lst [.int 0])) zr (.lst (List.replicate (k + 1) (V.int 0)))) (rowV r m) (rowV l m) ps := fun j T e => by
    obtain ⟨x, y, e1, e2, e3⟩ := hp3 j T e
    exact ⟨x, y, e1, e2, s4 _ _ e3⟩
  revert hzr S4 hq4 hp4
  generalize upd (upd H3 u (.lst [.int 0])) zr (.lst (List.replicate (k + 1) (V.int 0))) = H4
  intro hzr S4 hq4 hp4
  have hqq : SqL K H4 q1 ((ps.map V.ref).drop (k + 1)) := .inl (.inl hq4)
  have hdl : ((ps.map V.ref).drop (k + 1)).length = m - (k + 1) := by rw [List.length_drop, List.length_map, hlp]
  let g : Nat → Int := fun j => (l k * r j - r k * l j).fdiv d
  refine ⟨_, rfl, q1, rfl, ⟨_, hqq⟩, fun D hD => lc_it (walk_list (K := K) (a := q1) (xs := (ps.map V.ref).drop (k + 1))) (fun i H' => Same H4 H' ∧ H' D = some (.lst ((List.range i).map fun j => V.int (g (k + 1 + j))))) ?_ (fun i H' _ h => h.1.seq hqq) ?_ ?_⟩
  · exact ⟨same_upd hD, upd_same⟩
  · rintro i x H5 H5' hi ⟨sm, hDa⟩ ⟨rfl, hx⟩
    rw [hdl] at hi
    rw [List.getElem?_drop, List.getElem?_map] at hx
    have hii : k + 1 + i < m := by omega
    have eT : ps[k + 1 + i]? = some ps[k + 1 + i] := List.getElem?_eq_getElem (by omega)
    rw [eT] at hx
    cases hx
    obtain ⟨x1, y1, e1, e2, e3⟩ := hp4 _ _ eT
    rw [rowV_get hii] at e1 e2
    cases e1
    cases e2
    refine ⟨_, _, rfl, .of (sm _ _ e3), rfl, _, _, rfl, _, _, rfl, rfl, rfl, ?_⟩
    have hj := hs _ hii
    refine ⟨_, rfl, _, rfl, b, rowV l m, k, .int (l k), rfl, rfl, (S4.trans sm).seq hb.sq, atI_nat (rowV_get hk), _, rfl, _, _, rfl, rfl, mul2000 hki.2 hj.1, ?_⟩
    refine ⟨_, rfl, _, rfl, _, _, rfl, rfl, mul2000 hki.1 hj.2, _, _, rfl, rfl, ?_⟩
    refine ⟨_, rfl, _, _, rfl, rfl, ⟨d0, log_lt d1⟩, _, hDa, ?_, fun c o e => ?_, ?_⟩
    · rw [List.length_map, List.length_range]
      exact small1000 (by omega)
    · rw [upd_ne (ne_of_none e hD)]
      exact sm _ _ e
    · rw [upd_same, List.range_succ, List.map_append]
      rfl
  · rintro H5 ⟨sm, hDa⟩
    rw [hdl] at hDa
    refine ⟨zr, D, _, _, rfl, rfl, sm _ _ hzr, hDa, ?_, fun p np => ?_⟩
    · rw [List.length_replicate, List.length_map, List.length_range, sizeLine_eq]
      omega
    · have sp := same_upd (o := .lst (List.replicate (k + 1) (V.int 0) ++ (List.range (m - (k + 1))).map fun j => V.int (g (k + 1 + j)))) np
      refine q p _ ((S4.trans sm).trans sp) ((S4.trans sm).free np) ?_
      rw [upd_same]
      congr 2
      apply List.ext_getElem?
      intro i
      by_cases h1 : i < k + 1
      · rw [List.getElem?_append_left (by rw [List.length_replicate]; exact h1), List.getElem?_replicate, if_pos h1, rowV_get (by omega), if_pos (by omega)]
      · by_cases h2 : i < m
        · rw [List.getElem?_append_right (by rw [List.length_replicate]; omega), List.length_replicate, List.getElem?_map, List.getElem?_range (by omega), rowV_get h2, if_neg (by omega)]
          show some (V.int (g (k + 1 + (i - (k + 1))))) = _
          rw [show k + 1 + (i - (k + 1)) = i by omega]
        · rw [List.getElem?_eq_none (by rw [List.length_append, List.length_replicate, List.length_map, List.length_range]; omega), List.getElem?_eq_none (by rw [rowV_len]; omega)]
end
end K35
namespace K35
open PySem PySem.Spec PyProof.Rows L2 Sw M35 StX RZ
/-! the rows that are handed in -/
structure RowsF (K : PySem.W.Frag) (H : Hp) (vs : List V) (M : List (List (Int × Int))) : Prop where
  len : vs.length = M.length
  row : ∀ (i : Nat) (v : V), vs[i]? = some v → ∃ (r : Addr) (fs : List (Int × Int)) (xs : List V), v = V.ref r ∧ M[i]? = some fs ∧ SqT K H r xs ∧ RowF K H xs fs
theorem RowsF.same {K : PySem.W.Frag} {H H' : Hp} {vs : List V} {M : List (List (Int × Int))} (h : RowsF K H vs M) (s : Same H H') : RowsF K H' vs M :=
  ⟨h.len, fun i v e => by
    obtain ⟨r, fs, xs, a, b, c, d⟩ := h.row i v e
    exact ⟨r, fs, xs, a, b, s.seqT c, d.same s⟩⟩
theorem rowF_snoc {K : PySem.W.Frag} {H : Hp} : ∀ {vs : List V} {fs : List (Int × Int)} {v : V} {f : Int × Int}, RowF K H vs fs → Cpl K H v f.1 f.2 → RowF K H (vs ++ [v]) (fs ++ [f])
  | [], [], v, f, _, c => ⟨c, True.intro⟩
  | x :: vs, g :: fs, v, f, h, c => ⟨h.1, rowF_snoc h.2 c⟩
  | [], _ :: _, _, _, h, _ => h.elim
  | _ :: _, [], _, _, h, _ => h.elim
/-- a column -/
def colF (M : List (List (Int × Int))) (j : Nat) : List (Int × Int) := M.map fun fs => fs.getD j (0, 1)
def scl (M : List (List (Int × Int))) (j : Nat) : Int := (scaleF (colF M j) : Int)
def scls (n : Nat) (M : List (List (Int × Int))) : List Int := (List.range n).map (scl M)
/-- the whole numbers of a row, what it comes to behind them -/
def rowA (n : Nat) (M : List (List (Int × Int))) (rt : List (Int × Int)) (i : Nat) : List Int := whR (M.getD i []) (scls n M) ++ whR [rt.getD i (0, 1)] [(scaleF rt : Int)]
def A0 (n : Nat) (M : List (List (Int × Int))) (rt : List (Int × Int)) : Mat := fun i j => getZ (rowA n M rt i) j
def resF (n : Nat) (M : List (List (Int × Int))) (rt : List (Int × Int)) : Option (List (Int × Int)) := (goF n n 0 (A0 n M rt)).map fun B => (List.range n).map fun i => redI (E B n i n * scl M i) (pv B n * (scaleF rt : Int))
def ResV (K : PySem.W.Frag) (H : Hp) (v : V) : Option (List (Int × Int)) → Prop
  | none => v = .non
  | some fs => ∃ (p : Addr) (xs : List V), v = .ref p ∧ SqT K H p xs ∧ RowF K H xs fs
structure MatOk (n : Nat) (M : List (List (Int × Int))) (rt : List (Int × Int)) : Prop where
  n4 : n ≤ 4
  lM : M.length = n
  lr : rt.length = n
  rows : ∀ fs ∈ M, fs.length = n ∧ ∀ f ∈ fs, Sz 80 20 f
  rt : ∀ f ∈ rt, Sz 80 20 f
theorem whole_fact4 {fs : List (Int × Int)} (h : ∀ f ∈ fs, Sz 80 20 f) (hl : fs.length ≤ 4) : 0 < scaleF fs ∧ scaleF fs < 2 ^ 81 ∧ ∀ f ∈ fs, ((f.1 * ((scaleF fs : Int) / f.2) : Int) : Rat) = (scaleF fs : Rat) * vf f ∧ (f.1 * ((scaleF fs : Int) / f.2)).natAbs ≤ 2 ^ 161 := by
  obtain ⟨h1, h2, h3⟩ := scale_take fs h fs.length (Nat.le_refl _)
  rw [List.take_length] at h1 h2 h3
  have h2 : scaleF fs < 2 ^ 81 := Nat.lt_of_lt_of_le h2 (p2 (by omega))
  refine ⟨h1, h2, fun f hf => ?_⟩
  have sz := h f hf
  have p := sz.fr.pos
  have hd : f.2 ∣ (scaleF fs : Int) := by
    have := h3 f hf
    exact Int.ofNat_dvd_right.mpr this
  obtain ⟨k, hk⟩ := hd
  have e : (scaleF fs : Int) / f.2 = k := Int.ediv_eq_of_eq_mul_right (by omega) hk
  rw [e]
  have hc : ((scaleF fs : Int) : Rat) = (f.2 : Rat) * (k : Rat) := by rw [hk]; simp
  have hc2 : (scaleF fs : Rat) = (f.2 : Rat) * (k : Rat) := hc
  have nz := ne_cast (show f.2 ≠ 0 by omega)
  refine ⟨?_, ?_⟩
  · rw [hc2]
    unfold vf
    have : ((f.1 * k : Int) : Rat) = (f.1 : Rat) * (k : Rat) := by simp
    rw [this]
    grind
  · have hk2 : k.natAbs ≤ scaleF fs := by
      have := congrArg Int.natAbs hk
      rw [Int.natAbs_natCast, Int.natAbs_mul] at this
      rw [this]
      exact Nat.le_mul_of_pos_left _ (by omega)
    have hk3 : k.natAbs < 2 ^ 81 := Nat.lt_of_le_of_lt hk2 h2
    exact Nat.le_of_lt (natAbs_lt_mul sz.n hk3)
theorem scls_get {n : Nat} {M : List (List (Int × Int))} {j : Nat} (h : j < n) : (scls n M)[j]? = some (scl M j) := by
  unfold scls
  rw [List.getElem?_map, List.getElem?_range h]
  rfl
theorem scls_len (n : Nat) (M : List (List (Int × Int))) : (scls n M).length = n := by
  unfold scls
  rw [List.length_map, List.length_range]
theorem whR_len {fs : List (Int × Int)} {ss : List Int} (h : fs.length = ss.length) : (whR fs ss).length = fs.length := by
  unfold whR
  rw [List.length_zipWith, ← h, Nat.min_self]
structure ColOk (n : Nat) (M : List (List (Int × Int))) (j : Nat) : Prop where
  sz : ∀ f ∈ colF M j, Sz 80 20 f
  len : (colF M j).length = n
theorem MatOk.col {n : Nat} {M : List (List (Int × Int))} {rt : List (Int × Int)} (h : MatOk n M rt) {j : Nat} (hj : j < n) : ColOk n M j := by
  refine ⟨fun f hf => ?_, by unfold colF; rw [List.length_map, h.lM]⟩
  obtain ⟨fs, hfs, rfl⟩ := List.mem_map.mp hf
  obtain ⟨a, b⟩ := h.rows fs hfs
  have hl : j < fs.length := by omega
  rw [List.getD_eq_getElem?_getD, List.getElem?_eq_getElem hl]
  exact b _ (List.getElem_mem hl)
theorem MatOk.sclOk {n : Nat} {M : List (List (Int × Int))} {rt : List (Int × Int)} (h : MatOk n M rt) {j : Nat} (hj : j < n) : 0 < scl M j ∧ (scl M j).natAbs < 2 ^ 81 := by
  obtain ⟨c1, c2⟩ := h.col hj
  obtain ⟨w1, w2, _⟩ := whole_fact4 c1 (by have := h.n4; omega)
  unfold scl
  exact ⟨by omega, by rw [Int.natAbs_natCast]; exact w2⟩
theorem MatOk.wrt {n : Nat} {M : List (List (Int × Int))} {rt : List (Int × Int)} (h : MatOk n M rt) : 0 < scaleF rt ∧ scaleF rt < 2 ^ 81 := by
  obtain ⟨w1, w2, _⟩ := whole_fact4 h.rt (by have := h.n4; have := h.lr; omega)
  exact ⟨w1, w2⟩
theorem MatOk.at {n : Nat} {M : List (List (Int × Int))} {rt : List (Int × Int)} (h : MatOk n M rt) {i : Nat} (hi : i < n) : ∃ fs f, M[i]? = some fs ∧ rt[i]? = some f ∧ fs.length = n ∧ (∀ g ∈ fs, Sz 80 20 g) ∧ Sz 80 20 f ∧ rowA n M rt i = whR fs (scls n M) ++ whR [f] [(scaleF rt : Int)] ∧ (rowA n M rt i).length = n + 1 ∧
    (∀ j g, fs[j]? = some g → (A0 n M rt i j : Rat) = (scl M j : Rat) * vf g ∧ (A0 n M rt i j).natAbs ≤ 2 ^ 161) ∧ (A0 n M rt i n : Rat) = (scaleF rt : Rat) * vf f ∧ (A0 n M rt i n).natAbs ≤ 2 ^ 161 := by
  have h1 : i < M.length := by rw [h.lM]; exact hi
  have h2 : i < rt.length := by rw [h.lr]; exact hi
  obtain ⟨a, b⟩ := h.rows M[i] (List.getElem_mem h1)
  have n4 := h.n4
  have er : rowA n M rt i = whR M[i] (scls n M) ++ whR [rt[i]] [(scaleF rt : Int)] := by
    unfold rowA
    rw [List.getD_eq_getElem?_getD, List.getD_eq_getElem?_getD, List.getElem?_eq_getElem h1, List.getElem?_eq_getElem h2]
    rfl
  have wl : (whR M[i] (scls n M)).length = n := by rw [whR_len (by rw [scls_len, a]), a]
  refine ⟨M[i], rt[i], List.getElem?_eq_getElem h1, List.getElem?_eq_getElem h2, a, b, h.rt _ (List.getElem_mem h2), er, by rw [er, List.length_append, wl]; rfl, fun j g hg => ?_, ?_, ?_⟩
  · have hj : j < n := by rw [← a]; exact (List.getElem?_eq_some_iff.mp hg).1
    obtain ⟨c1, c2⟩ := h.col hj
    obtain ⟨w1, w2, w3⟩ := whole_fact4 c1 (by omega)
    have gm : g ∈ colF M j := List.mem_map.mpr ⟨M[i], List.getElem_mem h1, by rw [List.getD_eq_getElem?_getD, hg]; rfl⟩
    have e : A0 n M rt i j = g.1 * (scl M j / g.2) := by
      unfold A0 getZ
      rw [er, List.getD_eq_getElem?_getD, List.getElem?_append_left (by omega)]
      unfold whR
      rw [List.getElem?_zipWith, hg, scls_get hj]
      rfl
    rw [e]
    exact w3 g gm
  all_goals
    obtain ⟨w1, w2, w3⟩ := whole_fact4 h.rt (by have := h.lr; omega)
    have e : A0 n M rt i n = rt[i].1 * ((scaleF rt : Int) / rt[i].2) := by
      unfold A0 getZ
      rw [er, List.getD_eq_getElem?_getD, List.getElem?_append_right (by omega), wl, Nat.sub_self]
      rfl
    rw [e]
    first
      | exact (w3 _ (List.getElem_mem h2)).1
      | exact (w3 _ (List.getElem_mem h2)).2
theorem MatOk.small {n : Nat} {M : List (List (Int × Int))} {rt : List (Int × Int)} (h : MatOk n M rt) : ∀ i, i < n → ∀ j, j < n + 1 → (A0 n M rt i j).natAbs ≤ 2 ^ 161 := fun i hi j hj => by
  obtain ⟨fs, f, e1, e2, hl, hs, hf, er, rl, hA, hn1, hn2⟩ := h.at hi
  by_cases e : j < n
  · exact (hA j _ (List.getElem?_eq_getElem (by omega))).2
  · have : j = n := by omega
    rw [this]
    exact hn2
/-- the numbers on the way stay small -/
theorem b650 : (24 : Nat) * (2 ^ 161) ^ 4 < 2 ^ 650 := by
  rw [← Nat.pow_mul]
  decide +kernel
theorem D_small {A : Mat} {n k i j : Nat} (hn : n ≤ 4) (hk : k < n) (hi : i < n) (hj : j < n + 1) (h : ∀ i, i < n → ∀ j, j < n + 1 → (A i j).natAbs ≤ 2 ^ 161) : (D A k i j).natAbs < 2 ^ 650 := by
  refine Nat.lt_of_le_of_lt ?_ b650
  unfold D
  refine det_bd (Nat.one_le_two_pow) (k + 1) fun r hr c hc => h _ ?_ _ ?_
  · split <;> omega
  · split <;> omega
theorem E_small {A : Mat} {n i : Nat} (hn : n ≤ 4) (hi : i < n) (h : ∀ i, i < n → ∀ j, j < n + 1 → (A i j).natAbs ≤ 2 ^ 161) : (E A n i n).natAbs < 2 ^ 650 := by
  refine Nat.lt_of_le_of_lt ?_ b650
  unfold M35.E
  refine det_bd (Nat.one_le_two_pow) n fun r hr c hc => h r (by omega) _ ?_
  split <;> omega
theorem stp_small {A : Mat} {n k i j : Nat} (hn : n ≤ 4) (hk : k ≤ n) (hkn : k < n ∨ i < k) (hi : i < n) (hj : j < n + 1) (h : ∀ i, i < n → ∀ j, j < n + 1 → (A i j).natAbs ≤ 2 ^ 161) : (stp A k i j).natAbs < 2 ^ 650 := by
  unfold stp
  by_cases e : i < k
  · rw [if_pos e]
    exact D_small hn hi hi hj h
  · rw [if_neg e]
    exact D_small hn (by omega) hi hj h
theorem pv_small {A : Mat} {n k : Nat} (hn : n ≤ 4) (hk : k < n + 1) (h : ∀ i, i < n → ∀ j, j < n + 1 → (A i j).natAbs ≤ 2 ^ 161) : (pv A k).natAbs < 2 ^ 650 := by
  cases k with
  | zero =>
    show (1 : Int).natAbs < _
    exact Nat.one_lt_two_pow (by decide)
  | succ m =>
    rw [← stp_piv]
    exact stp_small hn (by omega) (.inl (by omega)) (by omega) (by omega) h
theorem swp_small {A : Mat} {n k p : Nat} (hk : k < n) (hp : p < n) (h : ∀ i, i < n → ∀ j, j < n + 1 → (A i j).natAbs ≤ 2 ^ 161) : ∀ i, i < n → ∀ j, j < n + 1 → (swp k p A i j).natAbs ≤ 2 ^ 161 := fun i hi j hj => h _ (sw_bd hi hk hp) j hj
theorem ixN_nat {n j : Nat} (h : j < n) : ixN n (j : Int) = some j := by
  unfold ixN
  rw [if_pos (by omega), if_pos (by omega)]
  rfl
theorem set_sw {α : Type} {rs : List α} {k p : Nat} {x y : α} (hk : rs[k]? = some x) (hp : rs[p]? = some y) (i : Nat) : ((rs.set k y).set p x)[i]? = rs[sw k p i]? := by
  have lk := (List.getElem?_eq_some_iff.mp hk).1
  have lp := (List.getElem?_eq_some_iff.mp hp).1
  rw [List.getElem?_set, List.getElem?_set, List.length_set]
  unfold sw
  by_cases e1 : p = i
  · subst e1
    rw [if_pos rfl, if_pos lp]
    by_cases e2 : p = k
    · rw [if_pos e2, ← hk, e2]
    · rw [if_neg e2, if_pos rfl, hk]
  · rw [if_neg e1]
    by_cases e2 : k = i
    · subst e2
      rw [if_pos rfl, if_pos lk, if_pos rfl, hp]
    · rw [if_neg e2, if_neg (Ne.symm e2), if_neg (Ne.symm e1)]
/-- a row cleared, by whole numbers alone -/
theorem clear_stp {A : Mat} {k i : Nat} (j : Nat) (hk : k < i) (hi : i < 4) (h0 : pv A k ≠ 0) : (if j ≤ k then 0 else (stp A k k k * stp A k i j - stp A k i k * stp A k k j).fdiv (pv A k)) = stp A (k + 1) i j := by
  by_cases e : j ≤ k
  · rw [if_pos e]
    exact (stp_nought A (k := k + 1) (i := i) (j := j) (by omega) hi (by omega)).symm
  · rw [if_neg e, stp_piv, stp_step A j hk hi, Int.fdiv_eq_ediv_of_dvd (Int.dvd_mul_right _ _), Int.mul_ediv_cancel_left _ h0]
section
variable {P : Program} {w : World} {K : PySem.W.Frag} {mg : Str → Option Value} {base : Heap}
def StV (K : PySem.W.Frag) (H : Hp) (v : V) (n : Nat) : Option Mat → Prop
  | none => v = .non
  | some B => ∃ p, v = .ref p ∧ GridZ K H p (fun i j => stp B n i j) n (n + 1)
def spStepped (K : PySem.W.Frag) : Sp := fun vs H Q _ => ∃ (a : Addr) (G : Mat) (n : Nat), vs = [.ref a] ∧ GridZ K H a G n (n + 1) ∧ n ≤ 4 ∧ (∀ i, i < n → ∀ j, j < n + 1 → (G i j).natAbs ≤ 2 ^ 161) ∧ ∀ v H', (∀ c o, c ≠ a → H c = some o → H' c = some o) → StV K H' v n (goF n n 0 G) → Q v H'
abbrev sstepped : Stmt := topS 5
theorem sc_stepped : FnScope ["grid", "divisor", "place", "pivot", "lead", "row"] ["grid"] (defScope sstepped) := ⟨rfl, rfl, rfl, by decide +kernel, rfl, by decide +kernel, by decide +kernel⟩
theorem ok_stepped {f : Addr} {fd : FuncData} (F : Fun K "stepped" "stepped" sstepped f fd) (B : Bt mg) (c_pivot_place : CalG P w K mg base 1 "pivot_place" (spPivot K)) (c_cleared : CalG P w K mg base 1 "cleared" (spCleared K)) : FnG P w K mg base 2 f fd ["grid"] (spStepped K) := by
  refine Fun.okG F sc_stepped (fun vs H Q E h => ?_) (fun cdv A outer s H vs Q E hg hr h => ?_)
  · obtain ⟨_, _, _, rfl, _⟩ := h
    rfl
  obtain ⟨g0, G0, n, rfl, GG, n4, hb0, q⟩ := h
  refine ⟨_, (pss_cons (ps_set (i := 1) sc_stepped.nd rfl (Or.inr rfl) pe_int)
    (pss_cons (ps_for PassesOwn.never rfl (pi_range1 (by rfl) B.range (pa_cons (pe_callB call_lenA (by rfl) B.len boot_len (pa_cons (pv 0) pa_nil)) pa_nil)) (pg_name (i := 2) sc_stepped.nd rfl (Or.inr rfl))
      (pss_cons (ps_set (i := 3) sc_stepped.nd rfl (Or.inl rfl) (pc c_pivot_place hg hr (by decide) (by rfl) (pa_cons (pv 0) (pa_cons (pv 2) pa_nil))))
      (pss_cons (ps_if (pt_cmpR op_isN (pv 3) pe_non (nomark _))
        (pss_one (ps_ret pe_non))
        pss_nil)
      (pss_cons (ps_asg (pe_tup (pa_cons (pe_ix ix_list (pv 0) (pv 3) (fun _ _ => rfl)) (pa_cons (pe_ix ix_list (pv 0) (pv 2) (fun _ _ => rfl)) pa_nil))) (pg_tup (n := 2) rfl (pgs_cons (pg_sub (pv 0) (pv 2) set_list) (pgs_cons (pg_sub (pv 0) (pv 3) set_list) pgs_nil))))
      (pss_cons (ps_set (i := 4) sc_stepped.nd rfl (Or.inr rfl) (pe_ix ix_list (pv 0) (pv 2) (fun _ _ => rfl)))
      (pss_cons (ps_set (i := 0) sc_stepped.nd rfl (Or.inl rfl) (pe_op op_cat (pe_slice sl_list (pv 0) po_none (po_some (pe_op op_add (pv 2) pe_int))) (pe_lc (own := [("row", 5)]) rfl sc_stepped.nd (pi_list (pe_slice sl_list (pv 0) (po_some (pe_op op_add (pv 2) pe_int)) po_none)) (blkOk_by (own := [("row", 5)]) (N := ["grid", "divisor", "place", "pivot", "lead", "row"]) (sc := (defScope sstepped)) (by decide +kernel)) (fun _ _ _ _ _ => (pg_name (i := 5) sc_stepped.nd rfl (Or.inl rfl))) (fun _ _ _ _ _ => pts_nil) (fun _ _ _ _ _ => (pc c_cleared hg hr (by decide) (by rfl) (pa_cons (pv 5) (pa_cons (pv 4) (pa_cons (pv 2) (pa_cons (pv 1) pa_nil)))))))))
      (pss_one (ps_set (i := 1) sc_stepped.nd rfl (Or.inr rfl) (pe_ix ix_list (pv 4) (pv 2) (fun _ _ => rfl))))))))))
    (pss_one (ps_ret (pv 0))))), ?_⟩
  obtain ⟨rs0, hrs0, hl0, _⟩ := id GG.ex
  have ng : GridZ K H g0 (stp G0 0) n (n + 1) := by
    have : stp G0 0 = G0 := funext fun i => funext fun j => stp_zero _ i j
    rw [this]
    exact GG
  refine ⟨_, rfl, .ref g0, n, rfl, .inl ⟨_, .inl (.inl hrs0), by rw [List.length_map, hl0]⟩, n, rfl, by omega, by omega, ?_⟩
  refine for_it (walk_range (lo := 0) (n := n)) (fun k σ H' => ∃ (g : Addr) (A : Mat) (o2 o3 o4 : Option V), σ = [some (.ref g), some (.int (pv A k)), o2, o3, o4, none] ∧ k ≤ n ∧ (∀ c o, c ≠ g0 → H c = some o → H' c = some o) ∧ (g = g0 ∨ H g = none) ∧ GridZ K H' g (stp A k) n (n + 1) ∧ goF n (n - k) k A = goF n n 0 G0 ∧ pv A k ≠ 0 ∧ (∀ i, i < n → ∀ j, j < n + 1 → (A i j).natAbs ≤ 2 ^ 161))
    ⟨g0, G0, _, _, _, rfl, Nat.zero_le _, (fun c o _ e => e), .inl rfl, ng, rfl, (show (1 : Int) ≠ 0 by decide), hb0⟩ (fun _ _ _ _ _ => trivial) (fun k x σ H1 H2 hk h y => ?_) fun σ H1 h => ?_
  · obtain ⟨g, A, o2, o3, o4, rfl, _, s1, n1, G1, hgo, hpv, hbd⟩ := h
    obtain ⟨rfl, hx⟩ := y
    have hx : x = .int (k : Int) := hx.trans (congrArg V.int (show (0 : Int) + (k : Nat) = (k : Nat) by omega))
    subst hx
    refine ⟨_, rfl, _, rfl, g, stp A k, n, n + 1, k, rfl, G1, by omega, by omega, n4, ?_⟩
    have e1 : n - k = (n - (k + 1)) + 1 := by omega
    have hgo2 := hgo
    rw [e1] at hgo2
    have hgo2 := hgo2.symm.trans (show goF n ((n - (k + 1)) + 1) k A = (match piv n A k with | none => none | some p => goF n (n - (k + 1)) (k + 1) (swp k p A)) from rfl)
    rw [piv_stp]
    cases hp : piv n A k with
    | none =>
      rw [hp] at hgo2
      have er : goF n n 0 G0 = none := hgo2
      rw [er] at q
      exact ⟨_, rfl, rfl, _, rfl, iteT (q .non _ s1 rfl)⟩
    | some p =>
      rw [hp] at hgo2
      have hgo : goF n n 0 G0 = goF n (n - (k + 1)) (k + 1) (swp k p A) := hgo2
      obtain ⟨hkp, hpn, hnz⟩ := piv_pv hp
      have hpn := hpn (by omega)
      refine ⟨_, rfl, rfl, _, rfl, iteF ?_⟩
      obtain ⟨rs, hrs, hl, hrow⟩ := G1.ex
      have lk : k < rs.length := by omega
      have lp : p < rs.length := by omega
      have ek : rs[k]? = some rs[k] := List.getElem?_eq_getElem lk
      have epp : rs[p]? = some rs[p] := List.getElem?_eq_getElem lp
      generalize rs[k] = rk at ek
      generalize rs[p] = rp at epp
      have mk : (rs.map V.ref)[k]? = some (.ref rk) := by rw [List.getElem?_map, ek]; rfl
      have mp : (rs.map V.ref)[p]? = some (.ref rp) := by rw [List.getElem?_map, epp]; rfl
      have sq : SqL K H2 g (rs.map V.ref) := .inl (.inl hrs)
      refine ⟨_, rfl, _, rfl, g, _, p, _, rfl, rfl, sq, atI_nat mp, _, rfl, _, rfl, g, _, k, _, rfl, rfl, sq, atI_nat mk, by show 2 ≤ sizeLine; decide, fun t nt => ?_⟩
      have tg : g ≠ t := fun e => by
        rw [← e, hrs] at nt
        cases nt
      have hg3 : (upd H2 t (.tup [.ref rp, .ref rk])) g = some (.lst (rs.map V.ref)) := by rw [upd_ne tg]; exact hrs
      refine ⟨t, _, rfl, .inl (.inl upd_same), rfl, _, _, rfl, _, rfl, _, rfl, g, _, k, k, rfl, rfl, hg3, ixN_nat (by rw [List.length_map]; exact lk), ?_⟩
      refine ⟨_, _, rfl, _, rfl, _, rfl, g, _, p, p, rfl, rfl, upd_same, ixN_nat (by rw [List.length_set, List.length_map]; exact lp), rfl, ?_⟩
      have ers : ((rs.map V.ref).set k (.ref rp)).set p (.ref rk) = ((rs.set k rp).set p rk).map V.ref := by rw [List.map_set, List.map_set]
      rw [ers]
      have gs : ∀ i, ((rs.set k rp).set p rk)[i]? = rs[sw k p i]? := set_sw ek epp
      have ls : ((rs.set k rp).set p rk).length = n := by rw [List.length_set, List.length_set, hl]
      generalize (rs.set k rp).set p rk = rs' at gs ls
      have s5 : ∀ c o, c ≠ g0 → H c = some o → (upd (upd (upd H2 t (.tup [.ref rp, .ref rk])) g (.lst ((rs.map V.ref).set k (.ref rp)))) g (.lst (rs'.map V.ref))) c = some o := fun c o c0 e => by
        have hc : c ≠ g := by
          rcases n1 with z | z
          · rw [z]; exact c0
          · exact ne_of_none e z
        rw [upd_ne hc, upd_ne hc]
        exact same_upd nt _ _ (s1 _ _ c0 e)
      have r5 : ∀ i r, rs'[i]? = some r → r ≠ g ∧ RowZ K (upd (upd (upd H2 t (.tup [.ref rp, .ref rk])) g (.lst ((rs.map V.ref).set k (.ref rp)))) g (.lst (rs'.map V.ref))) r (stp (swp k p A) k i) (n + 1) := fun i r e => by
        rw [gs i] at e
        obtain ⟨z1, z2⟩ := hrow _ _ e
        have : stp (swp k p A) k i = stp A k (sw k p i) := funext fun j => stp_swp A j hkp
        rw [this]
        exact ⟨z1, ((z2.same (same_upd nt)).upd z1).upd z1⟩
      have g5 : (upd (upd (upd H2 t (.tup [.ref rp, .ref rk])) g (.lst ((rs.map V.ref).set k (.ref rp)))) g (.lst (rs'.map V.ref))) g = some (.lst (rs'.map V.ref)) := upd_same
      revert s5 r5 g5
      generalize upd (upd (upd H2 t (.tup [.ref rp, .ref rk])) g (.lst ((rs.map V.ref).set k (.ref rp)))) g (.lst (rs'.map V.ref)) = H5
      intro s5 r5 g5
      have hpv' : pv (swp k p A) k ≠ 0 := by rw [pv_swp A hkp]; exact hpv
      have epv : pv A k = pv (swp k p A) k := (pv_swp A hkp).symm
      have hbd' := swp_small (k := k) (p := p) (by omega) hpn hbd
      rw [epv]
      generalize swp k p A = A' at hgo hnz r5 hpv' hbd' epv
      have lk' : k < rs'.length := by omega
      have ek' : rs'[k]? = some rs'[k] := List.getElem?_eq_getElem lk'
      generalize rs'[k] = ld at ek'
      have mk' : (rs'.map V.ref)[k]? = some (.ref ld) := by rw [List.getElem?_map, ek']; rfl
      have sq5 : SqL K H5 g (rs'.map V.ref) := .inl (.inl g5)
      have hld := (r5 _ _ ek').2
      refine ⟨_, rfl, _, rfl, g, _, k, _, rfl, rfl, sq5, atI_nat mk', ?_⟩
      refine ⟨_, rfl, _, rfl, _, _, rfl, rfl, _, rfl, g, _, rfl, sq5, fun l1 nl1 => ?_⟩
      rw [show (k : Int) + 1 = ((k + 1 : Nat) : Int) from by omega, cutV_to]
      have s6 := same_upd (o := .lst ((rs'.map V.ref).take (k + 1))) nl1
      refine ⟨_, rfl, _, rfl, _, _, rfl, rfl, _, rfl, nopart ⟨g, _, rfl, s6.seq sq5, fun l2 nl2 => ?_⟩⟩
      rw [show (k : Int) + 1 = ((k + 1 : Nat) : Int) from by omega, cutV_from]
      have s7 := s6.trans (same_upd (o := .lst ((rs'.map V.ref).drop (k + 1))) nl2)
      have hl1 : (upd (upd H5 l1 (.lst ((rs'.map V.ref).take (k + 1)))) l2 (.lst ((rs'.map V.ref).drop (k + 1)))) l1 = some (.lst ((rs'.map V.ref).take (k + 1))) := same_upd nl2 _ _ upd_same
      have hl2 : (upd (upd H5 l1 (.lst ((rs'.map V.ref).take (k + 1)))) l2 (.lst ((rs'.map V.ref).drop (k + 1)))) l2 = some (.lst ((rs'.map V.ref).drop (k + 1))) := upd_same
      revert s7 hl1 hl2
      generalize upd (upd H5 l1 (.lst ((rs'.map V.ref).take (k + 1)))) l2 (.lst ((rs'.map V.ref).drop (k + 1))) = H7
      intro s7 hl1 hl2
      have sq7 : SqL K H7 l2 ((rs'.map V.ref).drop (k + 1)) := .inl (.inl hl2)
      have hdl : ((rs'.map V.ref).drop (k + 1)).length = n - (k + 1) := by rw [List.length_drop, List.length_map, ls]
      refine ⟨l2, rfl, ⟨_, sq7⟩, fun D hD => lc_it (walk_list (K := K) (xs := (rs'.map V.ref).drop (k + 1)) (a := l2)) (fun i H' => Same H7 H' ∧ ∃ ts : List Addr, H' D = some (.lst (ts.map V.ref)) ∧ ts.length = i ∧ ∀ j r, ts[j]? = some r → r ≠ D ∧ RowZ K H' r (stp A' (k + 1) (k + 1 + j)) (n + 1)) ?_ (fun i H' _ h => h.1.seq sq7) ?_ ?_⟩
      · exact ⟨same_upd hD, [], upd_same, rfl, fun j r e => by simp at e⟩
      · rintro i x H3 H4 hi ⟨sm, ts, hDa, htl, hts⟩ ⟨rfl, hx⟩
        rw [hdl] at hi
        have li : k + 1 + i < rs'.length := by omega
        have ei : rs'[k + 1 + i]? = some rs'[k + 1 + i] := List.getElem?_eq_getElem li
        generalize rs'[k + 1 + i] = ri at ei
        rw [List.getElem?_drop, List.getElem?_map, ei] at hx
        cases hx
        have hri := ((r5 _ _ ei).2.same s7).same sm
        have hld2 := (hld.same s7).same sm
        have bd : ∀ j, j < n + 1 → (stp A' k (k + 1 + i) j).natAbs < 2 ^ 2000 ∧ (stp A' k k j).natAbs < 2 ^ 2000 := fun j hj =>
          ⟨Nat.lt_of_lt_of_le (stp_small n4 (by omega) (.inl (by omega)) (by omega) hj hbd') (p2 (by decide)), Nat.lt_of_lt_of_le (stp_small n4 (by omega) (.inl (by omega)) (by omega) hj hbd') (p2 (by decide))⟩
        refine ⟨rfl, _, rfl, _, rfl, _, rfl, _, rfl, ri, ld, stp A' k (k + 1 + i), stp A' k k, n + 1, k, pv A' k, rfl, hri, hld2, by omega, by omega, hpv', Nat.lt_of_lt_of_le (pv_small n4 (by omega) hbd') (p2 (by decide)), bd, fun r H6 s6' nr hr6 => ?_⟩
        have rD : r ≠ D := fun z => by
          rw [z, hDa] at nr
          cases nr
        have hrow6 : RowZ K H6 r (stp A' (k + 1) (k + 1 + i)) (n + 1) := by
          refine ⟨?_, rfl⟩
          rw [hr6]
          have : (fun j => if j ≤ k then 0 else (stp A' k k k * stp A' k (k + 1 + i) j - stp A' k (k + 1 + i) k * stp A' k k j).fdiv (pv A' k)) = stp A' (k + 1) (k + 1 + i) := funext fun j => clear_stp j (by omega) (by omega) hpv'
          rw [this]
        refine ⟨_, s6' _ _ hDa, ?_, fun c o e => ?_, ts ++ [r], ?_, ?_, fun j r' ej => ?_⟩
        · rw [List.length_map]
          exact small1000 (by omega)
        · rw [upd_ne (ne_of_none e hD)]
          exact s6' _ _ (sm _ _ e)
        · rw [upd_same, List.map_append]
          rfl
        · rw [List.length_append, htl]
          rfl
        · by_cases hj : j < ts.length
          · rw [List.getElem?_append_left hj] at ej
            obtain ⟨z1, z2⟩ := hts j r' ej
            exact ⟨z1, (z2.same s6').upd z1⟩
          · have hj2 : j = i := by
              have := (List.getElem?_eq_some_iff.mp ej).1
              rw [List.length_append] at this
              simp at this
              omega
            subst hj2
            rw [← htl, List.getElem?_append_right (Nat.le_refl _), Nat.sub_self] at ej
            cases ej
            exact ⟨rD, hrow6.upd rD⟩
      · rintro H3 ⟨sm, ts, hDa, htl, hts⟩
        rw [hdl] at htl
        have hld3 := (hld.same s7).same sm
        have eg : (rs'.map V.ref).take (k + 1) ++ ts.map V.ref = (rs'.take (k + 1) ++ ts).map V.ref := by rw [List.map_append, List.map_take]
        have tl : (rs'.take (k + 1)).length = k + 1 := by rw [List.length_take]; omega
        refine ⟨l1, D, _, _, rfl, rfl, sm _ _ hl1, hDa, ?_, fun pg npg => ?_⟩
        · rw [List.length_take, List.length_map, List.length_map, sizeLine_eq]
          omega
        rw [eg]
        have sp := same_upd (o := .lst ((rs'.take (k + 1) ++ ts).map V.ref)) npg
        refine ⟨_, rfl, _, rfl, ld, _, k, _, rfl, rfl, (hld3.same sp).sq, atI_nat (rowV_get (by omega)), ?_⟩
        rw [stp_piv]
        refine ⟨pg, A', _, _, _, rfl, by omega, fun c o c0 e => sp _ _ (sm _ _ (s7 _ _ (s5 c o c0 e))), ?_, ⟨rs'.take (k + 1) ++ ts, upd_same, by rw [List.length_append, tl, htl]; omega, fun i r e => ?_⟩, hgo.symm, hnz, hbd'⟩
        · by_cases c0 : pg = g0
          · exact .inl c0
          · refine .inr ?_
            cases hh : H pg with
            | none => rfl
            | some o =>
              have := sm _ _ (s7 _ _ (s5 pg o c0 hh))
              rw [npg] at this
              cases this
        · by_cases hi : i < k + 1
          · rw [List.getElem?_append_left (by omega), List.getElem?_take, if_pos hi] at e
            obtain ⟨z1, z2⟩ := r5 i r e
            have z3 := (z2.same s7).same sm
            have : stp A' (k + 1) i = stp A' k i := funext fun j => stp_low A' j (by omega)
            rw [this]
            exact ⟨ne_of_none z3.1 npg, z3.same sp⟩
          · rw [List.getElem?_append_right (by omega), tl] at e
            obtain ⟨z1, z2⟩ := hts _ r e
            rw [show k + 1 + (i - (k + 1)) = i by omega] at z2
            exact ⟨ne_of_none z2.1 npg, z2.same sp⟩
  · obtain ⟨g, A, o2, o3, o4, rfl, _, s1, n1, G1, hgo, hpv, hbd⟩ := h
    rw [Nat.sub_self] at hgo
    have er : goF n n 0 G0 = some A := hgo.symm
    rw [er] at q
    exact ⟨_, rfl, q (.ref g) H1 s1 ⟨g, rfl, G1⟩⟩
end
end K35
namespace K35
open PySem PySem.Spec PyProof.Rows L2 Sw M35 StX RZ
section
variable {P : Program} {w : World} {K : PySem.W.Frag} {mg : Str → Option Value} {base : Heap}
/-- what is found so far, from the end -/
def topsL (M : Mat) (n t : Nat) : List V := (List.range n).map fun i => V.int (if n - t ≤ i then M35.E M n i n else 0)
theorem atI_neg {xs : List V} {c j : Nat} {v : V} (h : xs[j]? = some v) (e : j + c = xs.length) (hc : 0 < c) : atI xs (-(c : Int)) = some v := by
  unfold atI ixN
  rw [if_neg (by omega), if_pos (by omega)]
  show xs[(-(c : Int) + (xs.length : Int)).toNat]? = _
  rw [show (-(c : Int) + (xs.length : Int)).toNat = j by omega]
  exact h
/-- the divisor and what is found above it -/
def spTops (K : PySem.W.Frag) : Sp := fun vs H Q _ => ∃ (a : Addr) (A : Mat) (n : Nat), vs = [.ref a] ∧ GridZ K H a (fun i j => stp A n i j) n (n + 1) ∧ n ≤ 4 ∧ (∀ i, i < n → ∀ j, j < n + 1 → (A i j).natAbs ≤ 2 ^ 161) ∧ pv A n ≠ 0 ∧ (∀ i, i < n → pv A (i + 1) ≠ 0) ∧
  ∀ t p H', Same H H' → H' p = some (.lst ((List.range n).map fun i => V.int (M35.E A n i n))) → SqT K H' t [.int (pv A n), .ref p] → Q (.ref t) H'
abbrev stops_over_last : Stmt := topS 6
theorem sc_tops_over_last : FnScope ["steps", "many", "divisor", "tops", "place", "row", "behind", "other"] ["steps"] (defScope stops_over_last) := ⟨rfl, rfl, rfl, by decide +kernel, rfl, by decide +kernel, by decide +kernel⟩
theorem ok_tops_over_last {f : Addr} {fd : FuncData} (F : Fun K "tops_over_last" "tops_over_last" stops_over_last f fd) (B : Bt mg) (TS : mg "sum" = none) (TR : mg "reversed" = none) : FnG P w K mg base 1 f fd ["steps"] (spTops K) := by
  refine Fun.okG F sc_tops_over_last (fun vs H Q E h => ?_) (fun cdv A outer s H vs Q E hg hr h => ?_)
  · obtain ⟨_, _, _, rfl, _⟩ := h
    rfl
  obtain ⟨a, M, n, rfl, GG, n4, hb0, hp, hpp, q⟩ := h
  refine ⟨_, (pss_cons (ps_set (i := 1) sc_tops_over_last.nd rfl (Or.inl rfl) (pe_callB call_lenA (by rfl) B.len boot_len (pa_cons (pv 0) pa_nil)))
    (pss_cons (ps_asg (pe_tup (pa_cons (pe_ifExp (pt_truth (pv 0) (by intro _; rfl)) (pe_ix ix_list (pe_ix ix_list (pv 0) (pe_un un_neg pe_int) (fun _ _ => rfl)) (pe_un un_neg pe_int) (fun _ _ => rfl)) pe_int) (pa_cons (pe_op op_rep (pe_lst (pa_cons pe_int pa_nil)) (pv 1)) pa_nil))) (pg_tup (n := 2) rfl (pgs_cons (pg_name (i := 2) sc_tops_over_last.nd rfl (Or.inl rfl)) (pgs_cons (pg_name (i := 3) sc_tops_over_last.nd rfl (Or.inr rfl)) pgs_nil))))
    (pss_cons (ps_for PassesOwn.never rfl (pi_revR (by rfl) TR (prg_1 (by rfl) B.range (pv 1))) (pg_name (i := 4) sc_tops_over_last.nd rfl (Or.inl rfl))
      (pss_cons (ps_set (i := 5) sc_tops_over_last.nd rfl (Or.inr rfl) (pe_ix ix_list (pv 0) (pv 4) (fun _ _ => rfl)))
      (pss_cons (ps_set (i := 6) sc_tops_over_last.nd rfl (Or.inl rfl) (pe_callB (cr_sum rfl) (by rfl) TS bb_sum (pa_cons (pe_lc (own := [("other", 7)]) rfl sc_tops_over_last.nd (pi_range2 (by rfl) B.range (pa_cons (pe_op op_add (pv 4) pe_int) (pa_cons (pv 1) pa_nil))) (blkOk_by (own := [("other", 7)]) (N := ["steps", "many", "divisor", "tops", "place", "row", "behind", "other"]) (sc := (defScope stops_over_last)) (by decide +kernel)) (fun _ _ _ _ _ => (pg_name (i := 7) sc_tops_over_last.nd rfl (Or.inl rfl))) (fun _ _ _ _ _ => pts_nil) (fun _ _ _ _ _ => (pe_op op_mulW (pe_ix (ix_listK (K := K) rfl) (pv 5) (pv 7) (fun _ _ => rfl)) (pe_ix (ix_listK (K := K) rfl) (pv 3) (pv 7) (fun _ _ => rfl))))) pa_nil)))
      (pss_one (ps_asg (pe_op op_fdivA (pe_op op_sub (pe_op op_mulW (pv 2) (pe_ix ix_list (pv 5) (pe_un un_neg pe_int) (fun _ _ => rfl))) (pv 6)) (pe_ix ix_list (pv 5) (pv 4) (fun _ _ => rfl))) (pg_sub (pv 3) (pv 4) set_list))))))
    (pss_one (ps_ret (pe_tup (pa_cons (pv 2) (pa_cons (pv 3) pa_nil)))))))), ?_⟩
  obtain ⟨rs, hrs, hl, hrow⟩ := GG.ex
  have sq : SqL K H a (rs.map V.ref) := .inl (.inl hrs)
  have erow : ∀ i, i < n → (fun j => stp M n i j) = fun j => D M i i j := fun i hi => funext fun j => by
    unfold stp
    rw [if_pos hi]
  have key : ∀ R : VK, R (.int (pv M n)) H → tIf (fun σ H Q => tVar 0 σ H fun x H' => ∃ k, TruV K x H' k ∧ Q k H') (tOp (rIxL K) (tOp (rIxL K) (tVar 0) (tUn (rU fun i => V.int (-i)) (tC (V.int 1)))) (tUn (rU fun i => V.int (-i)) (tC (V.int 2)))) (tC (V.int 1)) [some (.ref a), some (.int n), none, none, none, none, none, none] H R := fun R r => by
    by_cases h0 : n = 0
    · subst h0
      have : rs = [] := List.eq_nil_of_length_eq_zero hl
      subst this
      exact ⟨_, rfl, false, .inl ⟨_, sq, rfl⟩, iteF r⟩
    · have li : n - 1 < rs.length := by omega
      have ei : rs[n - 1]? = some rs[n - 1] := List.getElem?_eq_getElem li
      generalize rs[n - 1] = rl at ei
      have mi : (rs.map V.ref)[n - 1]? = some (.ref rl) := by rw [List.getElem?_map, ei]; rfl
      have hr1 := (hrow _ _ ei).2
      refine ⟨_, rfl, true, .inl ⟨_, sq, ?_⟩, iteT ⟨_, rfl, 1, rfl, a, _, -1, _, rfl, rfl, sq, atI_neg (c := 1) mi (by rw [List.length_map]; omega) (by decide), 2, rfl, rl, _, -2, _, rfl, rfl, hr1.sq, atI_neg (c := 2) (j := n - 1) (rowV_get (by omega)) (by rw [rowV_len]; omega) (by decide), ?_⟩⟩
      · cases rs with
        | nil => rw [List.length_nil] at hl; omega
        | cons r0 rs => rfl
      · have e1 : stp M n (n - 1) (n - 1) = pv M n := by
          obtain ⟨m, rfl⟩ : ∃ m, n = m + 1 := ⟨n - 1, by omega⟩
          unfold stp
          rw [if_pos (by omega)]
          rfl
        show R (.int (stp M n (n - 1) (n - 1))) H
        rw [e1]
        exact r
  refine ⟨_, rfl, .ref a, n, rfl, .inl ⟨_, sq, by rw [List.length_map, hl]⟩, ?_⟩
  refine key _ ?_
  refine ⟨by show 1 ≤ sizeLine; decide, fun u nu => ⟨_, rfl, u, _, _, rfl, rfl, upd_same, by omega, by omega, by show 1 * _ ≤ _; rw [sizeLine_eq]; omega, fun T nT => ⟨by show 2 ≤ sizeLine; decide, fun t nt => ⟨t, _, rfl, .of upd_same, rfl, _, _, rfl, _, _, rfl, rfl, ?_⟩⟩⟩⟩
  have ez : (List.replicate ((n : Int)).toNat [V.int 0]).flatten = topsL M n 0 := by
    rw [show ((n : Int)).toNat = n by omega]
    have : ∀ n : Nat, (List.replicate n [V.int 0]).flatten = List.replicate n (V.int 0) := fun n => by
      induction n with
      | zero => rfl
      | succ n ih => rw [List.replicate_succ, List.flatten_cons, ih]; rfl
    rw [this]
    apply List.ext_getElem?
    intro i
    unfold topsL
    by_cases hi : i < n
    · rw [List.getElem?_replicate, if_pos hi, List.getElem?_map, List.getElem?_range hi]
      show _ = some (V.int (if n - 0 ≤ i then _ else 0))
      rw [if_neg (by omega)]
    · rw [List.getElem?_eq_none (by rw [List.length_replicate]; omega), List.getElem?_eq_none (by rw [List.length_map, List.length_range]; omega)]
  rw [ez] at nt ⊢
  have s1 := (same_upd (o := .lst [.int 0]) nu).trans ((same_upd (o := .lst (topsL M n 0)) nT).trans (same_upd (o := .tup [.int (pv M n), .ref T]) nt))
  have hT0 : (upd (upd (upd H u (.lst [.int 0])) T (.lst (topsL M n 0))) t (.tup [.int (pv M n), .ref T])) T = some (.lst (topsL M n 0)) := same_upd nt _ _ upd_same
  have HT : H T = none := (same_upd (o := .lst [.int 0]) nu).free nT
  revert s1 hT0
  generalize upd (upd (upd H u (.lst [.int 0])) T (.lst (topsL M n 0))) t (.tup [.int (pv M n), .ref T]) = H1
  intro s1 hT0
  refine ⟨_, rfl, _, rfl, by omega, by omega, by omega, by omega, ?_⟩
  have en : ((n : Int) - 0).toNat = n := by omega
  rw [en]
  refine for_it (walk_rangeC) (fun m σ H' => ∃ o4 o5 o6, σ = [some (.ref a), some (.int n), some (.int (pv M n)), some (.ref T), o4, o5, o6, none] ∧ Same H H' ∧ H' T = some (.lst (topsL M n m))) ⟨_, _, _, rfl, s1, hT0⟩ (fun _ _ _ _ _ => trivial) (fun m x σ H2 H3 hm h y => ?_) fun σ H2 h => ?_
  · obtain ⟨o4, o5, o6, rfl, sm, hT⟩ := h
    obtain ⟨rfl, hx⟩ := y
    obtain ⟨i, hi⟩ : ∃ i, i + m + 1 = n := ⟨n - m - 1, by omega⟩
    have hx : x = .int (i : Int) := hx.trans (congrArg V.int (show (0 : Int) + (n : Nat) - 1 + (m : Nat) * (-1) = (i : Nat) by omega))
    subst hx
    have li : i < rs.length := by omega
    have ei : rs[i]? = some rs[i] := List.getElem?_eq_getElem li
    generalize rs[i] = ri at ei
    have mi : (rs.map V.ref)[i]? = some (.ref ri) := by rw [List.getElem?_map, ei]; rfl
    have hr0 := (hrow _ _ ei).2
    have erw := erow i (by omega)
    rw [erw] at hr0
    have hri := hr0.same sm
    refine ⟨_, rfl, _, rfl, a, _, i, _, rfl, rfl, sm.seq sq, atI_nat mi, ?_⟩
    have hD : ∀ j, j < n + 1 → (D M i i j).natAbs < 2 ^ 650 := fun j hj => D_small n4 (by omega) (by omega) hj hb0
    have hE : ∀ j, j < n → (M35.E M n j n).natAbs < 2 ^ 650 := fun j hj => E_small n4 hj hb0
    refine ⟨_, rfl, _, _, rfl, rfl, _, rfl, _, _, rfl, ⟨by omega, by omega, by omega, by omega⟩, fun Dl hDl => ?_⟩
    have er2 : ((n : Int) - ((i : Int) + 1)).toNat = m := by omega
    rw [er2]
    refine lc_it (walk_range (lo := (i : Int) + 1) (n := m)) (fun c H' => Same H3 H' ∧ H' Dl = some (.lst ((List.range c).map fun t => V.int (D M i i (i + 1 + t) * M35.E M n (i + 1 + t) n)))) ?_ (fun _ _ _ _ => True.intro) ?_ ?_
    · exact ⟨same_upd hDl, upd_same⟩
    · rintro c x H4 H4' hc ⟨s4, hd4⟩ ⟨rfl, hx4⟩
      have hx4 : x = .int ((i + 1 + c : Nat) : Int) := hx4.trans (congrArg V.int (show (i : Int) + 1 + (c : Nat) = ((i + 1 + c : Nat) : Int) by omega))
      subst hx4
      have hT4 := s4 _ _ hT
      have eT : (topsL M n m)[i + 1 + c]? = some (.int (M35.E M n (i + 1 + c) n)) := by
        unfold topsL
        rw [List.getElem?_map, List.getElem?_range (by omega)]
        show some (V.int (if n - m ≤ i + 1 + c then _ else 0)) = _
        rw [if_pos (by omega)]
      refine ⟨rfl, _, rfl, _, rfl, ri, _, ((i + 1 + c : Nat) : Int), _, rfl, rfl, (hri.same s4).sq, atI_nat (rowV_get (by omega)), _, rfl, _, rfl, T, _, ((i + 1 + c : Nat) : Int), _, rfl, rfl, .inl (.inl hT4), atI_nat eT, _, _, rfl, rfl, mul2000 (Nat.lt_of_lt_of_le (hD _ (by omega)) (p2 (by decide))) (Nat.lt_of_lt_of_le (hE _ (by omega)) (p2 (by decide))), _, hd4, ?_, fun z o e => ?_, ?_⟩
      · rw [List.length_map, List.length_range]
        exact small1000 (by omega)
      · rw [upd_ne (ne_of_none e hDl)]
        exact s4 _ _ e
      · rw [upd_same, List.range_succ, List.map_append]
        rfl
    · rintro H4 ⟨s4, hd4⟩
      have hsum : ((List.range m).map fun t => V.int (D M i i (i + 1 + t) * M35.E M n (i + 1 + t) n)) = ((List.range m).map fun t => D M i i (i + 1 + t) * M35.E M n (i + 1 + t) n).map V.int := by rw [List.map_map]; rfl
      rw [hsum] at hd4
      have eb : ((List.range m).map fun t => D M i i (i + 1 + t) * M35.E M n (i + 1 + t) n).sum = beh M n i (n - (i + 1)) := by
        rw [show n - (i + 1) = m by omega]
        rfl
      refine ⟨Dl, _, rfl, .inl (.inl hd4), ?_⟩
      rw [eb]
      have hri4 := hri.same s4
      have hb := back M n i n4 (by omega)
      have hpi : D M i i i ≠ 0 := hpp i (by omega)
      refine ⟨_, rfl, _, rfl, 1, rfl, ri, _, -1, _, rfl, rfl, hri4.sq, atI_neg (c := 1) (j := n) (rowV_get (by omega)) (by rw [rowV_len]) (by decide), _, _, rfl, rfl, mul2000 (Nat.lt_of_lt_of_le (pv_small n4 (by omega) hb0) (p2 (by decide))) (Nat.lt_of_lt_of_le (hD _ (by omega)) (p2 (by decide))), _, rfl, _, _, rfl, rfl, _, rfl, _, rfl, ri, _, i, _, rfl, rfl, hri4.sq, atI_nat (rowV_get (by omega)), _, _, rfl, rfl, ⟨hpi, log_lt (Nat.lt_of_lt_of_le (hD _ (by omega)) (p2 (by decide)))⟩, ?_⟩
      have eq : (pv M n * D M i i n - beh M n i (n - (i + 1))).fdiv (D M i i i) = M35.E M n i n := by
        rw [← hb, show beh M n i (n - (i + 1)) + D M i i i * M35.E M n i n - beh M n i (n - (i + 1)) = D M i i i * M35.E M n i n by omega]
        rw [Int.fdiv_eq_ediv_of_dvd (Int.dvd_mul_right _ _), Int.mul_ediv_cancel_left _ hpi]
      refine ⟨_, rfl, _, rfl, T, _, i, i, rfl, rfl, s4 _ _ hT, ixN_nat (by unfold topsL; rw [List.length_map, List.length_range]; omega), ?_⟩
      refine ⟨_, _, _, rfl, fun z o e => ?_, ?_⟩
      · rw [upd_ne (ne_of_none e HT)]
        exact s4 _ _ (sm _ _ e)
      · rw [upd_same]
        show some (HO.lst ((topsL M n m).set i (V.int ((pv M n * D M i i n - beh M n i (n - (i + 1))).fdiv (D M i i i))))) = _
        rw [eq]
        congr 2
        apply List.ext_getElem?
        intro j
        unfold topsL
        rw [List.getElem?_set, List.length_map, List.length_range]
        by_cases hj : j < n
        · by_cases e : i = j
          · rw [if_pos e, if_pos (by omega), List.getElem?_map, List.getElem?_range hj]
            show _ = some (V.int (if n - (m + 1) ≤ j then _ else 0))
            rw [if_pos (by omega), e]
          · rw [if_neg e, List.getElem?_map, List.getElem?_map, List.getElem?_range hj]
            show some (V.int (if n - m ≤ j then _ else 0)) = some (V.int (if n - (m + 1) ≤ j then _ else 0))
            by_cases c : n - m ≤ j
            · rw [if_pos c, if_pos (by omega)]
            · rw [if_neg c, if_neg (by omega)]
        · rw [if_neg (by omega), List.getElem?_eq_none (by rw [List.length_map, List.length_range]; omega), List.getElem?_eq_none (by rw [List.length_map, List.length_range]; omega)]
  · obtain ⟨o4, o5, o6, rfl, sm, hT⟩ := h
    have et : topsL M n n = (List.range n).map fun i => V.int (M35.E M n i n) := by
      unfold topsL
      refine List.map_congr_left fun i _ => ?_
      rw [if_pos (by omega)]
    rw [et] at hT
    refine ⟨_, rfl, _, rfl, by show 2 ≤ sizeLine; decide, fun t2 nt2 => ?_⟩
    have s3 := same_upd (o := .tup [.int (pv M n), .ref T]) nt2
    exact q t2 T _ (sm.trans s3) (s3 _ _ hT) (.of upd_same)
end
end K35
namespace K35
open PySem PySem.Spec PyProof.Rows L2 Sw M35 StX RZ
theorem goF_pvs {n : Nat} : ∀ {m k : Nat} {A B : Mat}, goF n m k A = some B → k + m = n → (∀ i, i ≤ k → pv A i ≠ 0) → ∀ i, i ≤ n → pv B i ≠ 0
  | 0, k, A, B, h, e, hp => by
    cases h
    have : k = n := by omega
    subst this
    exact hp
  | m + 1, k, A, B, h, e, hp => by
    unfold goF at h
    split at h
    · cases h
    · rename_i p hq
      obtain ⟨a, b, c⟩ := piv_pv hq
      refine goF_pvs h (by omega) fun i hi => ?_
      by_cases hk : i ≤ k
      · rw [pv_swpL A hk a]
        exact hp i hk
      · have : i = k + 1 := by omega
        subst this
        exact c
theorem goF_small {n : Nat} : ∀ {m k : Nat} {A B : Mat}, goF n m k A = some B → k + m = n → (∀ i, i < n → ∀ j, j < n + 1 → (A i j).natAbs ≤ 2 ^ 161) → ∀ i, i < n → ∀ j, j < n + 1 → (B i j).natAbs ≤ 2 ^ 161
  | 0, _, _, _, h, _, hA => by
    cases h
    exact hA
  | m + 1, k, A, B, h, e, hA => by
    unfold goF at h
    split at h
    · cases h
    · rename_i p hq
      obtain ⟨a, b, _⟩ := piv_pv hq
      exact goF_small h (by omega) (swp_small (by omega) (b (by omega)) hA)
def spSolved (K : PySem.W.Frag) : Sp := fun vs H Q _ => ∃ (a b : Addr) (xs ys : List V) (n : Nat) (M : List (List (Int × Int))) (rt : List (Int × Int)), vs = [.ref a, .ref b] ∧ ((SqL K H a xs ∧ SqL K H b ys) ∨ (SqT K H a xs ∧ SqT K H b ys)) ∧ RowsF K H xs M ∧ RowF K H ys rt ∧ MatOk n M rt ∧
  ∀ v H', Same H H' → ResV K H' v (resF n M rt) → Q v H'
section
variable {P : Program} {w : World} {K : PySem.W.Frag} {mg : Str → Option Value} {base : Heap}
abbrev ssolved : Stmt := topS 4
theorem sc_solved : FnScope ["rows", "right", "scales", "row", "place", "whole", "grid", "one", "steps", "divisor", "tops", "top", "scale"] ["rows", "right"] (defScope ssolved) := ⟨rfl, rfl, rfl, by decide +kernel, rfl, by decide +kernel, by decide +kernel⟩
theorem ok_solved {f : Addr} {fd : FuncData} (F : Fun K "solved" "solved" ssolved f fd) (B : Bt mg) (c_common_multiple : CalG P w K mg base 1 "common_multiple" (spLcm K)) (c_whole_row : CalG P w K mg base 1 "whole_row" (spWholeRow K)) (c_stepped : CalG P w K mg base 2 "stepped" (spStepped K)) (c_tops_over_last : CalG P w K mg base 1 "tops_over_last" (spTops K)) (c_reduced : CalG P w K mg base 1 "reduced" spReduced) : FnG P w K mg base 3 f fd ["rows", "right"] (spSolved K) := by
  refine Fun.okG F sc_solved (fun vs H Q E h => ?_) (fun cdv A outer s H vs Q E hg hr h => ?_)
  · obtain ⟨_, _, _, _, _, _, _, rfl, _⟩ := h
    rfl
  obtain ⟨a, b, xs, ys, n, M, rt, rfl, hab, hM, hR, ok, q⟩ := h
  have n4 := ok.n4
  have hxl : xs.length = n := hM.len.trans ok.lM
  have hyl : ys.length = n := hR.len.trans ok.lr
  have hB : ∀ {H' : Hp}, Same H H' → SqL K H' b ys ∨ SqT K H' b ys := fun {H'} s => hab.elim (fun h => .inl (s.seq h.2)) fun h => .inr (s.seqT h.2)
  have wk : ∀ {J : It} {G : Hp → Prop}, Walk J n G (YPair (fun i => xs[i]?) (fun i => ys[i]?)) → (∀ H', Same H H' → G H') → Walk J n (fun H' => Same H H') (YPair (fun i => xs[i]?) (fun i => ys[i]?)) := fun wk hG => wk.mono hG fun _ _ _ _ _ _ y => y
  rcases hab with ⟨ha, hb⟩ | ⟨ha, hb⟩
  case' inl =>
    refine ⟨_, (pss_cons (ps_set (i := 2) sc_solved.nd rfl (Or.inr rfl) (pe_lc (own := [("place", 4)]) rfl sc_solved.nd (pi_range1 (by rfl) B.range (pa_cons (pe_callB call_lenA (by rfl) B.len boot_len (pa_cons (pv 1) pa_nil)) pa_nil)) (blkOk_by (own := [("place", 4)]) (N := ["rows", "right", "scales", "row", "place", "whole", "grid", "one", "steps", "divisor", "tops", "top", "scale"]) (sc := (defScope ssolved)) (by decide +kernel)) (fun _ _ _ _ _ => (pg_name (i := 4) sc_solved.nd rfl (Or.inr rfl))) (fun _ _ _ _ _ => pts_nil) (fun _ _ _ _ _ => (pc c_common_multiple hg hr (by decide) (by rfl) (pa_cons (pe_lc (own := [("row", 3)]) rfl sc_solved.nd (pi_listK (K := K) rfl (pv 0)) (blkOk_by (own := [("row", 3)]) (N := ["rows", "right", "scales", "row", "place", "whole", "grid", "one", "steps", "divisor", "tops", "top", "scale"]) (by rfl)) (fun _ _ _ _ _ => (pg_name (i := 3) sc_solved.nd rfl (Or.inl rfl))) (fun _ _ _ _ _ => pts_nil) (fun _ _ _ _ _ => (pe_ix (ix_tupK (K := K) rfl) (pv 3) (pv 4) (fun _ _ => rfl)))) pa_nil)))))
      (pss_cons (ps_set (i := 5) sc_solved.nd rfl (Or.inr rfl) (pc c_common_multiple hg hr (by decide) (by rfl) (pa_cons (pv 1) pa_nil)))
      (pss_cons (ps_setLc (i := 6) (own := [("row", 3), ("one", 7)]) rfl sc_solved.nd rfl rfl (sw_true rfl rfl rfl (by decide +kernel)) (pi_zipA (by rfl) B.zip (pa_cons (pv 0) (pa_cons (pv 1) pa_nil))) (blkOk_by (own := [("row", 3), ("one", 7)]) (N := ["rows", "right", "scales", "row", "place", "whole", "grid", "one", "steps", "divisor", "tops", "top", "scale"]) (sc := (defScope ssolved)) (by decide +kernel)) (fun _ _ _ _ _ => (pg_tupK (K := K) (hK := rfl) (n := 2) rfl (pgs_cons (pg_name (i := 3) sc_solved.nd rfl (Or.inl rfl)) (pgs_cons (pg_name (i := 7) sc_solved.nd rfl (Or.inl rfl)) pgs_nil)))) (fun _ _ _ _ _ => pts_nil) (fun _ _ _ _ _ => (pe_lst (pa_starK (K := K) rfl (pc c_whole_row hg hr (by decide) (by rfl) (pa_cons (pv 3) (pa_cons (pv 2) pa_nil))) (pa_starK (K := K) rfl (pc c_whole_row hg hr (by decide) (by rfl) (pa_cons (pe_tup (pa_cons (pv 7) pa_nil)) (pa_cons (pe_tup (pa_cons (pv 5) pa_nil)) pa_nil))) pa_nil)))))
      (pss_cons (ps_set (i := 8) sc_solved.nd rfl (Or.inl rfl) (pc c_stepped hg hr (by decide) (by rfl) (pa_cons (pv 6) pa_nil)))
      (pss_cons (ps_if (pt_cmpR op_isN (pv 8) pe_non (nomark _))
        (pss_one (ps_ret pe_non))
        pss_nil)
      (pss_cons (ps_asg (pc c_tops_over_last hg hr (by decide) (by rfl) (pa_cons (pv 8) pa_nil)) (pg_tup (n := 2) rfl (pgs_cons (pg_name (i := 9) sc_solved.nd rfl (Or.inr rfl)) (pgs_cons (pg_name (i := 10) sc_solved.nd rfl (Or.inl rfl)) pgs_nil))))
      (pss_one (ps_ret (pe_callTy call_tuple_of (by rfl) B.tuple bb_tuple (pa_cons (pe_lc (own := [("top", 11), ("scale", 12)]) rfl sc_solved.nd (pi_zipA (by rfl) B.zip (pa_cons (pv 10) (pa_cons (pv 2) pa_nil))) (blkOk_by (own := [("top", 11), ("scale", 12)]) (N := ["rows", "right", "scales", "row", "place", "whole", "grid", "one", "steps", "divisor", "tops", "top", "scale"]) (sc := (defScope ssolved)) (by decide +kernel)) (fun _ _ _ _ _ => (pg_tupK (K := K) (hK := rfl) (n := 2) rfl (pgs_cons (pg_name (i := 11) sc_solved.nd rfl (Or.inl rfl)) (pgs_cons (pg_name (i := 12) sc_solved.nd rfl (Or.inl rfl)) pgs_nil)))) (fun _ _ _ _ _ => pts_nil) (fun _ _ _ _ _ => (pc c_reduced hg hr (by decide) (by rfl) (pa_cons (pe_op op_mulW (pv 11) (pv 12)) (pa_cons (pe_op op_mulW (pv 9) (pv 5)) pa_nil))))) pa_nil)))))))))), ?_⟩
    refine ⟨_, rfl, .ref b, n, rfl, .inl ⟨_, hb, hyl.symm⟩, n, rfl, by omega, by omega, fun Ls hLs => lc_it (walk_range (lo := 0) (n := n)) (fun i H' => Same H H' ∧ H' Ls = some (.lst (((scls n M).take i).map V.int))) ?_ (fun _ _ _ _ => True.intro) ?_ ?_⟩
    · exact ⟨same_upd hLs, upd_same⟩
    · rintro i x H2 H3 hi ⟨sm, hd⟩ ⟨rfl, hx⟩
      have hx : x = .int (i : Int) := hx.trans (congrArg V.int (show (0 : Int) + (i : Nat) = (i : Nat) by omega))
      subst hx
      have col := ok.col hi
      refine ⟨rfl, _, rfl, a, rfl, ⟨xs, sm.seq ha⟩, fun D2 hD2 => lc_it (walk_list (K := K) (xs := xs) (a := a)) (fun c H' => Same H3 H' ∧ ∃ ws, H' D2 = some (.lst ws) ∧ ws.length = c ∧ RowF K H' ws ((colF M i).take c)) ?_ (fun c H' _ h => (sm.trans h.1).seq ha) ?_ ?_⟩
      · exact ⟨same_upd hD2, [], upd_same, rfl, True.intro⟩
      · rintro c x H4 H5 hc ⟨s4, ws, hw, hwl, hrw⟩ ⟨rfl, hx⟩
        obtain ⟨r, fs, zs, rfl, eM, hz, hrow⟩ := hM.row c x hx
        have fl : fs.length = n := (ok.rows fs (List.mem_of_getElem? eM)).1
        have zl := hrow.len
        have li : i < zs.length := by omega
        obtain ⟨f, ef, cf⟩ := hrow.get (List.getElem?_eq_getElem li)
        have s5 := sm.trans s4
        refine ⟨rfl, _, rfl, _, rfl, r, zs, (i : Int), _, rfl, rfl, s5.seqT hz, atI_nat (List.getElem?_eq_getElem li), ws, hw, small1000 (by omega), fun z o e => ?_, ws ++ [zs[i]], upd_same, by rw [List.length_append, hwl]; rfl, ?_⟩
        · rw [upd_ne (ne_of_none e hD2)]
          exact s4 _ _ e
        · have f4 : Fut (fun x => x = D2) H5 (upd H5 D2 (.lst (ws ++ [zs[i]]))) := fut_at hw
          have ec : (colF M i)[c]? = some f := by
            unfold colF
            rw [List.getElem?_map, eM]
            show some (fs.getD i (0, 1)) = _
            rw [List.getD_eq_getElem?_getD, ef]
            rfl
          rw [take_snoc ec]
          exact rowF_snoc (hrw.fut f4) ((cf.same s5).fut f4)
      · rintro H4 ⟨s4, ws, hw, hwl, hrw⟩
        rw [List.take_of_length_le (by rw [col.len]; omega)] at hrw
        refine ⟨D2, ws, colF M i, rfl, .inl (.inl (.inl hw)), hrw, col.sz, by rw [col.len]; omega, _, s4 _ _ hd, ?_, fun z o e => ?_, ?_⟩
        · rw [List.length_map]
          have := List.length_take_le i (scls n M)
          exact small1000 (by omega)
        · rw [upd_ne (ne_of_none e hLs)]
          exact s4 _ _ (sm _ _ e)
        · rw [upd_same, take_snoc (scls_get hi), List.map_append]
          rfl
    rintro H1 ⟨sm1, hL⟩
    have wJ := wk (walk_zip (K := K) (a := a) (b := b) (xs := xs) (ys := ys) (n := n) (by omega)) fun H' s => ⟨s.seq ha, s.seq hb⟩
  case' inr =>
    refine ⟨_, (pss_cons (ps_set (i := 2) sc_solved.nd rfl (Or.inr rfl) (pe_lc (own := [("place", 4)]) rfl sc_solved.nd (pi_range1 (by rfl) B.range (pa_cons (pe_callB call_lenA (by rfl) B.len boot_len (pa_cons (pv 1) pa_nil)) pa_nil)) (blkOk_by (own := [("place", 4)]) (N := ["rows", "right", "scales", "row", "place", "whole", "grid", "one", "steps", "divisor", "tops", "top", "scale"]) (sc := (defScope ssolved)) (by decide +kernel)) (fun _ _ _ _ _ => (pg_name (i := 4) sc_solved.nd rfl (Or.inr rfl))) (fun _ _ _ _ _ => pts_nil) (fun _ _ _ _ _ => (pc c_common_multiple hg hr (by decide) (by rfl) (pa_cons (pe_lc (own := [("row", 3)]) rfl sc_solved.nd (pi_tupK (K := K) rfl (pv 0)) (blkOk_by (own := [("row", 3)]) (N := ["rows", "right", "scales", "row", "place", "whole", "grid", "one", "steps", "divisor", "tops", "top", "scale"]) (by rfl)) (fun _ _ _ _ _ => (pg_name (i := 3) sc_solved.nd rfl (Or.inl rfl))) (fun _ _ _ _ _ => pts_nil) (fun _ _ _ _ _ => (pe_ix (ix_tupK (K := K) rfl) (pv 3) (pv 4) (fun _ _ => rfl)))) pa_nil)))))
      (pss_cons (ps_set (i := 5) sc_solved.nd rfl (Or.inr rfl) (pc c_common_multiple hg hr (by decide) (by rfl) (pa_cons (pv 1) pa_nil)))
      (pss_cons (ps_setLc (i := 6) (own := [("row", 3), ("one", 7)]) rfl sc_solved.nd rfl rfl (sw_true rfl rfl rfl (by decide +kernel)) (pi_zipA (by rfl) B.zip (pa_cons (pv 0) (pa_cons (pv 1) pa_nil))) (blkOk_by (own := [("row", 3), ("one", 7)]) (N := ["rows", "right", "scales", "row", "place", "whole", "grid", "one", "steps", "divisor", "tops", "top", "scale"]) (sc := (defScope ssolved)) (by decide +kernel)) (fun _ _ _ _ _ => (pg_tupK (K := K) (hK := rfl) (n := 2) rfl (pgs_cons (pg_name (i := 3) sc_solved.nd rfl (Or.inl rfl)) (pgs_cons (pg_name (i := 7) sc_solved.nd rfl (Or.inl rfl)) pgs_nil)))) (fun _ _ _ _ _ => pts_nil) (fun _ _ _ _ _ => (pe_lst (pa_starK (K := K) rfl (pc c_whole_row hg hr (by decide) (by rfl) (pa_cons (pv 3) (pa_cons (pv 2) pa_nil))) (pa_starK (K := K) rfl (pc c_whole_row hg hr (by decide) (by rfl) (pa_cons (pe_tup (pa_cons (pv 7) pa_nil)) (pa_cons (pe_tup (pa_cons (pv 5) pa_nil)) pa_nil))) pa_nil)))))
      (pss_cons (ps_set (i := 8) sc_solved.nd rfl (Or.inl rfl) (pc c_stepped hg hr (by decide) (by rfl) (pa_cons (pv 6) pa_nil)))
      (pss_cons (ps_if (pt_cmpR op_isN (pv 8) pe_non (nomark _))
        (pss_one (ps_ret pe_non))
        pss_nil)
      (pss_cons (ps_asg (pc c_tops_over_last hg hr (by decide) (by rfl) (pa_cons (pv 8) pa_nil)) (pg_tup (n := 2) rfl (pgs_cons (pg_name (i := 9) sc_solved.nd rfl (Or.inr rfl)) (pgs_cons (pg_name (i := 10) sc_solved.nd rfl (Or.inl rfl)) pgs_nil))))
      (pss_one (ps_ret (pe_callTy call_tuple_of (by rfl) B.tuple bb_tuple (pa_cons (pe_lc (own := [("top", 11), ("scale", 12)]) rfl sc_solved.nd (pi_zipA (by rfl) B.zip (pa_cons (pv 10) (pa_cons (pv 2) pa_nil))) (blkOk_by (own := [("top", 11), ("scale", 12)]) (N := ["rows", "right", "scales", "row", "place", "whole", "grid", "one", "steps", "divisor", "tops", "top", "scale"]) (sc := (defScope ssolved)) (by decide +kernel)) (fun _ _ _ _ _ => (pg_tupK (K := K) (hK := rfl) (n := 2) rfl (pgs_cons (pg_name (i := 11) sc_solved.nd rfl (Or.inl rfl)) (pgs_cons (pg_name (i := 12) sc_solved.nd rfl (Or.inl rfl)) pgs_nil)))) (fun _ _ _ _ _ => pts_nil) (fun _ _ _ _ _ => (pc c_reduced hg hr (by decide) (by rfl) (pa_cons (pe_op op_mulW (pv 11) (pv 12)) (pa_cons (pe_op op_mulW (pv 9) (pv 5)) pa_nil))))) pa_nil)))))))))), ?_⟩
    refine ⟨_, rfl, .ref b, n, rfl, .inr ⟨_, hb, hyl.symm⟩, n, rfl, by omega, by omega, fun Ls hLs => lc_it (walk_range (lo := 0) (n := n)) (fun i H' => Same H H' ∧ H' Ls = some (.lst (((scls n M).take i).map V.int))) ?_ (fun _ _ _ _ => True.intro) ?_ ?_⟩
    · exact ⟨same_upd hLs, upd_same⟩
    · rintro i x H2 H3 hi ⟨sm, hd⟩ ⟨rfl, hx⟩
      have hx : x = .int (i : Int) := hx.trans (congrArg V.int (show (0 : Int) + (i : Nat) = (i : Nat) by omega))
      subst hx
      have col := ok.col hi
      refine ⟨rfl, _, rfl, a, rfl, ⟨xs, sm.seqT ha⟩, fun D2 hD2 => lc_it (walk_tup (K := K) (xs := xs) (a := a)) (fun c H' => Same H3 H' ∧ ∃ ws, H' D2 = some (.lst ws) ∧ ws.length = c ∧ RowF K H' ws ((colF M i).take c)) ?_ (fun c H' _ h => (sm.trans h.1).seqT ha) ?_ ?_⟩
      · exact ⟨same_upd hD2, [], upd_same, rfl, True.intro⟩
      · rintro c x H4 H5 hc ⟨s4, ws, hw, hwl, hrw⟩ ⟨rfl, hx⟩
        obtain ⟨r, fs, zs, rfl, eM, hz, hrow⟩ := hM.row c x hx
        have fl : fs.length = n := (ok.rows fs (List.mem_of_getElem? eM)).1
        have zl := hrow.len
        have li : i < zs.length := by omega
        obtain ⟨f, ef, cf⟩ := hrow.get (List.getElem?_eq_getElem li)
        have s5 := sm.trans s4
        refine ⟨rfl, _, rfl, _, rfl, r, zs, (i : Int), _, rfl, rfl, s5.seqT hz, atI_nat (List.getElem?_eq_getElem li), ws, hw, small1000 (by omega), fun z o e => ?_, ws ++ [zs[i]], upd_same, by rw [List.length_append, hwl]; rfl, ?_⟩
        · rw [upd_ne (ne_of_none e hD2)]
          exact s4 _ _ e
        · have f4 : Fut (fun x => x = D2) H5 (upd H5 D2 (.lst (ws ++ [zs[i]]))) := fut_at hw
          have ec : (colF M i)[c]? = some f := by
            unfold colF
            rw [List.getElem?_map, eM]
            show some (fs.getD i (0, 1)) = _
            rw [List.getD_eq_getElem?_getD, ef]
            rfl
          rw [take_snoc ec]
          exact rowF_snoc (hrw.fut f4) ((cf.same s5).fut f4)
      · rintro H4 ⟨s4, ws, hw, hwl, hrw⟩
        rw [List.take_of_length_le (by rw [col.len]; omega)] at hrw
        refine ⟨D2, ws, colF M i, rfl, .inl (.inl (.inl hw)), hrw, col.sz, by rw [col.len]; omega, _, s4 _ _ hd, ?_, fun z o e => ?_, ?_⟩
        · rw [List.length_map]
          have := List.length_take_le i (scls n M)
          exact small1000 (by omega)
        · rw [upd_ne (ne_of_none e hLs)]
          exact s4 _ _ (sm _ _ e)
        · rw [upd_same, take_snoc (scls_get hi), List.map_append]
          rfl
    rintro H1 ⟨sm1, hL⟩
    have wJ := wk (walk_zipT (K := K) (a := a) (b := b) (xs := xs) (ys := ys) (n := n) (by omega)) fun H' s => ⟨s.seqT ha, s.seqT hb⟩
  all_goals
    rw [List.take_of_length_le (by rw [scls_len]; exact Nat.le_refl _)] at hL
    have hqL : SqL K H1 Ls ((scls n M).map V.int) := .inl (.inl hL)
    refine ⟨_, rfl, b, ys, rt, rfl, hB sm1, hR.same sm1, ok.rt, by rw [ok.lr]; omega, ?_⟩
    obtain ⟨w1, w2⟩ := ok.wrt
    refine ⟨_, rfl, _, rfl, a, b, xs, ys, rfl, ?_⟩
    have wk2 : ∀ {Q : (Addr → Prop)}, True := trivial
    first
      | refine .inl ⟨sm1.seq ha, sm1.seq hb, fun D hD => lc_it wJ (fun i H' => Same H1 H' ∧ ∃ rs : List Addr, H' D = some (.lst (rs.map V.ref)) ∧ rs.length = i ∧ ∀ j r, rs[j]? = some r → r ≠ D ∧ RowZ K H' r (A0 n M rt j) (n + 1)) ?_ (fun i H' _ h => sm1.trans h.1) ?_ ?_⟩
      | refine .inr ⟨sm1.seqT ha, sm1.seqT hb, fun D hD => lc_it wJ (fun i H' => Same H1 H' ∧ ∃ rs : List Addr, H' D = some (.lst (rs.map V.ref)) ∧ rs.length = i ∧ ∀ j r, rs[j]? = some r → r ≠ D ∧ RowZ K H' r (A0 n M rt j) (n + 1)) ?_ (fun i H' _ h => sm1.trans h.1) ?_ ?_⟩
    · exact ⟨same_upd hD, [], upd_same, rfl, fun j r e => by simp at e⟩
    · rintro i x H2 H3 hi ⟨sm, rs, hDa, hrl, hrs⟩ ⟨T, x1, y1, rfl, nT, rfl, hx1, hy1⟩
      have hx1 : xs[i]? = some x1 := hx1
      have hy1 : ys[i]? = some y1 := hy1
      obtain ⟨r, fs, zs, rfl, eM, hz, hrow⟩ := hM.row i x1 hx1
      obtain ⟨f, ef, cf⟩ := hR.get hy1
      obtain ⟨fs', f', e1, e2, hl, hs, hf, er, rl, _⟩ := ok.at hi
      rw [eM] at e1
      cases e1
      rw [ef] at e2
      cases e2
      have sT := (sm1.trans sm).trans (same_upd (o := .tup [.ref r, y1]) nT)
      have sT1 := sm.trans (same_upd (o := .tup [.ref r, y1]) nT)
      have TD : T ≠ D := fun e => by
        rw [e, hDa] at nT
        cases nT
      have hD3 : (upd H2 T (.tup [.ref r, y1])) D = some (.lst (rs.map V.ref)) := by rw [upd_ne (Ne.symm TD)]; exact hDa
      have hrs3 : ∀ j r', rs[j]? = some r' → r' ≠ D ∧ RowZ K (upd H2 T (.tup [.ref r, y1])) r' (A0 n M rt j) (n + 1) := fun j r' e => ⟨(hrs j r' e).1, (hrs j r' e).2.same (same_upd nT)⟩
      refine ⟨T, _, rfl, .inl (.inl upd_same), rfl, _, _, rfl, _, _, rfl, rfl, rfl, ?_⟩
      revert sT sT1 hD3 hrs3
      generalize upd H2 T (.tup [.ref r, y1]) = H3
      intro sT sT1 hD3 hrs3
      have hss : ∀ z ∈ scls n M, z.natAbs < 2 ^ 101 := fun z hz => by
        obtain ⟨j, hj, rfl⟩ := List.mem_map.mp hz
        exact Nat.lt_of_lt_of_le (ok.sclOk (List.mem_range.mp hj)).2 (p2 (by decide))
      refine ⟨_, rfl, _, rfl, r, Ls, zs, fs, scls n M, rfl, sT.seqT hz, hrow.same sT, .inl (sT1.seq hqL), hs, hss, by rw [scls_len, hl], by omega, fun p1 H4 s4 np1 hp1 => ⟨p1, _, rfl, .inr (.inl (.inl hp1)), ?_⟩⟩
      refine ⟨_, rfl, by show 1 ≤ sizeLine; decide, fun t1 nt1 => ⟨_, rfl, by show 1 ≤ sizeLine; decide, fun t2 nt2 => ?_⟩⟩
      have s5 := (same_upd (o := .tup [y1]) nt1).trans (same_upd (o := .tup [.int (scaleF rt)]) nt2)
      have ht1 : SqT K (upd (upd H4 t1 (.tup [y1])) t2 (.tup [.int (scaleF rt)])) t1 [y1] := (same_upd nt2).seqT (.of upd_same)
      have ht2 : SqT K (upd (upd H4 t1 (.tup [y1])) t2 (.tup [.int (scaleF rt)])) t2 [.int (scaleF rt)] := .of upd_same
      have cf5 := ((cf.same sT).same s4).same s5
      have s45 := s4.trans s5
      revert s45 ht1 ht2 cf5
      generalize upd (upd H4 t1 (.tup [y1])) t2 (.tup [.int (scaleF rt)]) = H5
      intro ht1 ht2 cf5 s45
      refine ⟨t1, t2, [y1], [f], [(scaleF rt : Int)], rfl, ht1, ⟨cf5, True.intro⟩, .inr ht2, fun g hg => by rw [List.mem_singleton.mp hg]; exact hf, fun z hz => by rw [List.mem_singleton.mp hz, Int.natAbs_natCast]; exact Nat.lt_of_lt_of_le w2 (p2 (by decide)), rfl, by show 1 ≤ 5; decide, fun p2' H6 s6 np2 hp2 => ⟨p2', _, rfl, .inr (.inl (.inl hp2)), ?_⟩⟩
      have s46 := s45.trans s6
      have ew : (whR fs (scls n M)).map V.int ++ ((whR [f] [(scaleF rt : Int)]).map V.int ++ []) = rowV (A0 n M rt i) (n + 1) := by
        rw [List.append_nil, ← List.map_append, ← er, ← rowV_of, rl]
        rfl
      refine ⟨?_, fun pg npg => ?_⟩
      · show ((whR fs (scls n M)).map V.int ++ ((whR [f] [(scaleF rt : Int)]).map V.int ++ [])).length ≤ sizeLine
        rw [ew, rowV_len]
        exact Nat.le_of_lt (small1000 (by omega))
      · show ∃ acc, (upd H6 pg (.lst ((whR fs (scls n M)).map V.int ++ ((whR [f] [(scaleF rt : Int)]).map V.int ++ [])))) D = some (.lst acc) ∧ _
        rw [ew]
        have hD6 := s46 _ _ hD3
        have pD : pg ≠ D := Ne.symm (ne_of_none hD6 npg)
        have sp := same_upd (o := .lst (rowV (A0 n M rt i) (n + 1))) npg
        refine ⟨_, sp _ _ hD6, ?_, fun c o e => ?_, rs ++ [pg], ?_, ?_, fun j r' ej => ?_⟩
        · rw [List.length_map]
          exact small1000 (by omega)
        · rw [upd_ne (ne_of_none e hD)]
          exact sp _ _ (s46 _ _ (sT1 _ _ e))
        · rw [upd_same, List.map_append]
          rfl
        · rw [List.length_append, hrl]
          rfl
        · by_cases hj : j < rs.length
          · rw [List.getElem?_append_left hj] at ej
            obtain ⟨z1, z2⟩ := hrs3 j r' ej
            exact ⟨z1, ((z2.same s46).same sp).upd z1⟩
          · have hj2 : j = i := by
              have := (List.getElem?_eq_some_iff.mp ej).1
              rw [List.length_append] at this
              simp at this
              omega
            subst hj2
            rw [← hrl, List.getElem?_append_right (Nat.le_refl _), Nat.sub_self] at ej
            cases ej
            refine ⟨pD, ?_, rfl⟩
            rw [upd_ne pD, upd_same]
    rintro H2 ⟨sm2, rs, hDa, hrl, hrs⟩
    have sm12 := sm1.trans sm2
    have HD : H D = none := sm1.free hD
    refine ⟨_, rfl, D, A0 n M rt, n, rfl, ⟨rs, hDa, hrl, hrs⟩, n4, ok.small, fun v H3 s3 hst => ?_⟩
    have s03 : Same H H3 := fun c o e => s3 c o (ne_of_none e HD) (sm12 _ _ e)
    cases hg0 : goF n n 0 (A0 n M rt) with
    | none =>
      rw [hg0] at hst
      have hst : v = .non := hst
      subst hst
      have er : resF n M rt = none := by
        unfold resF
        rw [hg0]
        rfl
      rw [er] at q
      exact ⟨_, rfl, rfl, _, rfl, iteT (q .non _ s03 rfl)⟩
    | some Bm =>
      rw [hg0] at hst
      obtain ⟨pg, rfl, GB⟩ := hst
      have er : resF n M rt = some ((List.range n).map fun i => redI (M35.E Bm n i n * scl M i) (pv Bm n * (scaleF rt : Int))) := by
        unfold resF
        rw [hg0]
        rfl
      rw [er] at q
      have pvs := goF_pvs hg0 (by omega) (fun i hi => by
        have : i = 0 := by omega
        subst this
        exact (show (1 : Int) ≠ 0 by decide))
      have hbd := goF_small hg0 (by omega) ok.small
      have hLD : Ls ≠ D := ne_of_none hL hD
      have hL3 : H3 Ls = some (.lst ((scls n M).map V.int)) := s3 _ _ hLD (sm2 _ _ hL)
      refine ⟨_, rfl, rfl, _, rfl, iteF ?_⟩
      refine ⟨_, rfl, pg, Bm, n, rfl, GB, n4, hbd, pvs n (Nat.le_refl _), fun i hi => pvs (i + 1) (by omega), fun t pt H4 s4 hpt hT => ⟨t, _, rfl, hT, rfl, _, _, rfl, _, _, rfl, rfl, ?_⟩⟩
      have hL4 := s4 _ _ hL3
      have q1 : SqL K H4 pt ((List.range n).map fun i => V.int (M35.E Bm n i n)) := .inl (.inl hpt)
      have q2 : SqL K H4 Ls ((scls n M).map V.int) := .inl (.inl hL4)
      refine ⟨_, rfl, _, rfl, pt, Ls, _, _, rfl, .inl ⟨q1, q2, fun D2 hD2 => lc_it (walk_zip (K := K) (a := pt) (b := Ls) (xs := (List.range n).map fun i => V.int (M35.E Bm n i n)) (ys := (scls n M).map V.int) (n := n) (by rw [List.length_map, List.length_range, List.length_map, scls_len, Nat.min_self])) (fun i H' => Same H4 H' ∧ ∃ ws : List V, H' D2 = some (.lst ws) ∧ ws.length = i ∧ RowF K H' ws ((List.range i).map fun i => redI (M35.E Bm n i n * scl M i) (pv Bm n * (scaleF rt : Int)))) ?_ (fun i H' _ h => ⟨h.1.seq q1, h.1.seq q2⟩) ?_ ?_⟩⟩
      · exact ⟨same_upd hD2, [], upd_same, rfl, True.intro⟩
      · rintro i x H5 H6 hi ⟨sm, ws, hDa, hwl, hws⟩ ⟨T, x1, y1, rfl, nT, rfl, hx1, hy1⟩
        have hx1 : ((List.range n).map fun i => V.int (M35.E Bm n i n))[i]? = some x1 := hx1
        have hy1 : ((scls n M).map V.int)[i]? = some y1 := hy1
        rw [List.getElem?_map, List.getElem?_range hi] at hx1
        rw [List.getElem?_map, scls_get hi] at hy1
        cases hx1
        cases hy1
        have sT := same_upd (o := .tup [.int (M35.E Bm n i n), .int (scl M i)]) nT
        have hD5 := sT _ _ hDa
        refine ⟨T, _, rfl, .of upd_same, rfl, _, _, rfl, _, _, rfl, rfl, rfl, ?_⟩
        have hE := E_small n4 hi hbd
        have hS := ok.sclOk hi
        have hP := pv_small (k := n) n4 (by omega) hbd
        have hw0 : (scaleF rt : Int) ≠ 0 := by omega
        refine ⟨_, rfl, _, rfl, _, _, rfl, rfl, mul2000 (Nat.lt_of_lt_of_le hE (p2 (by decide))) (Nat.lt_of_lt_of_le hS.2 (p2 (by decide))), _, rfl, _, rfl, _, _, rfl, rfl, mul2000 (Nat.lt_of_lt_of_le hP (p2 (by decide))) (by rw [Int.natAbs_natCast]; exact Nat.lt_of_lt_of_le w2 (p2 (by decide))), _, _, rfl, Int.mul_ne_zero (pvs n (Nat.le_refl _)) hw0, ?_, fun c H7 s7 nc hc => ?_⟩
        · refine Nat.lt_of_lt_of_le (natAbs_lt_mul (a := 650) (b := 81) hP (by rw [Int.natAbs_natCast]; exact w2)) (p2 (by decide))
        · have hD7 := s7 _ _ hD5
          refine ⟨ws, hD7, small1000 (by omega), fun d o e => ?_, ws ++ [.ref c], upd_same, ?_, ?_⟩
          · rw [upd_ne (ne_of_none e hD2)]
            exact s7 _ _ (sT _ _ (sm _ _ e))
          · rw [List.length_append, hwl]
            rfl
          · have f4 : Fut (fun x => x = D2) H7 (upd H7 D2 (.lst (ws ++ [.ref c]))) := fut_at hD7
            rw [List.range_succ, List.map_append]
            exact rowF_snoc (((hws.same sT).same s7).fut f4) ((Cpl.mk hc).fut f4)
      · rintro H5 ⟨sm, ws, hDa, hwl, hws⟩
        refine ⟨D2, ws, rfl, .inl ⟨.inl (.inl hDa), fun l nl => ?_⟩⟩
        have s6 := same_upd (o := .tup ws) nl
        exact q (.ref l) _ (((s03.trans s4).trans sm).trans s6) ⟨l, ws, rfl, .of upd_same, hws.same s6⟩
end
end K35
namespace K35
open PySem PySem.Spec PyProof.Rows L2 Sw M35 StX RZ
def isInt (d : PyData) : Bool := isT "int" d && !isT "bool" d
def isFrac : PyData → Bool
  | .tuple [.int n, .int d] => decide (1 ≤ d) && decide (gI n d = 1)
  | _ => false
theorem isFrac_eq (n d : Int) : isFrac (.tuple [.int n, .int d]) = (decide (1 ≤ d) && decide (gI n d = 1)) := rfl
def spP (K : PySem.W.Frag) (p : PyData → Bool) : Sp := fun vs H Q _ => ∃ (v : V) (mu : Addr → Prop) (d : PyData), vs = [v] ∧ Dt K mu H v d ∧ Ok d ∧ ∀ H', Same H H' → Q (.bl (p d)) H'
theorem spP_len {K : PySem.W.Frag} {p : PyData → Bool} {x : Str} : ∀ vs H Q E, spP K p vs H Q E → vs.length = [x].length := fun vs H Q E h => by
  obtain ⟨v, mu, d, rfl, _⟩ := h
  rfl
section
variable {P : Program} {w : World} {K : PySem.W.Frag} {mg : Str → Option Value} {base : Heap}
abbrev s_law_is_int : Stmt := topS 16
theorem sc__law_is_int : FnScope ["thing"] ["thing"] (defScope s_law_is_int) := ⟨rfl, rfl, rfl, by decide +kernel, rfl, by decide +kernel, by decide +kernel⟩
theorem ok__law_is_int {f : Addr} {fd : FuncData} (F : Fun K "_law_is_int" "_law_is_int" s_law_is_int f fd) (B : Bt mg) : FnG P w K mg base 1 f fd ["thing"] (spP K isInt) := by
  refine Fun.okG F sc__law_is_int spP_len (fun cdv A outer s H vs Q E hg hr h => ?_)
  obtain ⟨v, mu, d, rfl, hd, ho, k⟩ := h
  refine ⟨_, (pss_one (ps_ret (pe_and (pe_callB call_isD (by rfl) B.isin bb_isin (pa_cons (pv 0) (pa_cons (pe_bltn (v := .ty "int") rfl B.int bb_int rfl) pa_nil))) (pe_one (pe_not (pe_callB call_isD (by rfl) B.isin bb_isin (pa_cons (pv 0) (pa_cons (pe_bltn (v := .ty "bool") rfl B.bool bb_bool rfl) pa_nil)))))))), ?_⟩
  refine ⟨_, rfl, _, "int", mu, d, rfl, by decide, hd, _, rfl, ?_⟩
  have k := k H (Same.refl H)
  unfold isInt at k
  cases h1 : isT "int" d with
  | false =>
    rw [h1] at k
    exact iteF k
  | true =>
    rw [h1] at k
    exact iteT ⟨_, rfl, _, "bool", mu, d, rfl, by decide, hd, _, rfl, k⟩
abbrev s_law_is_fraction : Stmt := topS 23
theorem sc__law_is_fraction : FnScope ["thing"] ["thing"] (defScope s_law_is_fraction) := ⟨rfl, rfl, rfl, by decide +kernel, rfl, by decide +kernel, by decide +kernel⟩
theorem ok__law_is_fraction {f : Addr} {fd : FuncData} (F : Fun K "_law_is_fraction" "_law_is_fraction" s_law_is_fraction f fd) (B : Bt mg) (c__law_is_int : CalG P w K mg base 1 "_law_is_int" (spP K isInt)) (c__law_common : CalG P w K mg base 1 "_law_common" spCommon) : FnG P w K mg base 2 f fd ["thing"] (spP K isFrac) := by
  refine Fun.okG F sc__law_is_fraction spP_len (fun cdv A outer s H vs Q E hg hr h => ?_)
  obtain ⟨v, mu, d, rfl, hd, ho, k⟩ := h
  refine ⟨_, (pss_cons (ps_if (PW.pt (pw_or (pt_not (pt_val (pe_callB call_isD (by rfl) B.isin bb_isin (pa_cons (pv 0) (pa_cons (pe_bltn (v := .ty "tuple") rfl B.tuple bb_tuple rfl) pa_nil))))) (pw_or (pt_cmpR op_ne (pe_callB call_lenA (by rfl) B.len boot_len (pa_cons (pv 0) pa_nil)) pe_int (nomark _)) (pw_or (pt_not (pt_val (pc c__law_is_int hg hr (by decide) (by rfl) (pa_cons (pe_ix ix_tup (pv 0) pe_int (fun _ _ => rfl)) pa_nil)))) (pw_or1 (pt_not (pt_val (pc c__law_is_int hg hr (by decide) (by rfl) (pa_cons (pe_ix ix_tup (pv 0) pe_int (fun _ _ => rfl)) pa_nil)))))))))
      (pss_one (ps_ret pe_bl))
      pss_nil)
    (pss_one (ps_ret (pe_and (pe_cmpR op_gt (pe_ix ix_tup (pv 0) pe_int (fun _ _ => rfl)) pe_int (nomark _)) (pe_one (pe_cmpR op_eq (pc c__law_common hg hr (by decide) (by rfl) (pa_cons (pe_ix ix_tup (pv 0) pe_int (fun _ _ => rfl)) (pa_cons (pe_ix ix_tup (pv 0) pe_int (fun _ _ => rfl)) pa_nil))) pe_int (nomark _))))))), ?_⟩
  refine ⟨_, rfl, _, "tuple", mu, d, rfl, by decide, hd, _, rfl, ?_⟩
  have k0 := k H (Same.refl H)
  refine iteN (fun ht => ?_) fun ht => ?_
  · have e : isFrac d = false := by
      cases d <;> first | rfl | (simp [isT, tyName] at ht)
    rw [e] at k0
    exact k0
  · obtain ⟨ds, rfl⟩ := (isTup d).mp ht
    obtain ⟨a, xs, rfl, hS, hA⟩ := hd.tupAt
    have el := hA.length
    refine ⟨_, rfl, _, xs.length, rfl, .inr ⟨_, hS, rfl⟩, rfl, _, rfl, iteNe (fun hn => ?_) fun hn => ?_⟩
    · have e : isFrac (.tuple ds) = false := by
        unfold isFrac
        split
        · rename_i z
          injection z with z
          rw [z] at el
          simp at el
          omega
        · rfl
      rw [e] at k0
      exact k0
    · obtain ⟨x, y, d1, d2, rfl, rfl, r1, r2⟩ := hA.two (by omega)
      have o1 : Ok d1 := ho.inT (by simp)
      have o2 : Ok d2 := ho.inT (by simp)
      have no : (∀ n m, d1 = .int n → d2 = .int m → False) → isFrac (.tuple [d1, d2]) = false := fun z => by
        unfold isFrac
        split
        · rename_i q
          injection q with q
          injection q with q1 q
          injection q with q2 _
          exact (z _ _ q1 q2).elim
        · rfl
      refine ⟨_, rfl, a, _, 0, x, rfl, rfl, hS, atI_nat (j := 0) rfl, x, mu, d1, rfl, r1, o1, fun H1 s1 => ⟨_, rfl, iteN (fun h1 => ?_) fun h1 => ?_⟩⟩
      · have kk := k H1 s1
        rw [no fun n m e1 e2 => by rw [e1] at h1; cases h1] at kk
        exact kk
      · have hS1 : SqT K H1 a [x, y] := s1.seqT hS
        refine ⟨_, rfl, a, _, 1, y, rfl, rfl, hS1, atI_nat (j := 1) rfl, y, mu, d2, rfl, r2.fut (.of_same s1), o2, fun H2 s2 => ⟨_, rfl, iteN (fun h2 => ?_) fun h2 => ?_⟩⟩
        · have kk := k H2 (s1.trans s2)
          rw [no fun n m e1 e2 => by rw [e2] at h2; cases h2] at kk
          exact kk
        · obtain ⟨n, rfl⟩ := (isIntD d1).mp h1
          obtain ⟨m, rfl⟩ := (isIntD d2).mp h2
          cases r1
          cases r2
          have hS2 := s2.seqT hS1
          have kk := k H2 (s1.trans s2)
          rw [isFrac_eq] at kk
          refine ⟨_, rfl, a, _, 1, .int m, rfl, rfl, hS2, atI_nat (j := 1) rfl, _, _, rfl, rfl, _, rfl, iteP (fun h3 => ?_) fun h3 => ?_⟩
          · rw [decide_eq_true (show 1 ≤ m by omega), Bool.true_and] at kk
            refine ⟨_, rfl, a, _, 0, .int n, rfl, rfl, hS2, atI_nat (j := 0) rfl, _, rfl, a, _, 1, .int m, rfl, rfl, hS2, atI_nat (j := 1) rfl, n, m, rfl, rfl, ?_⟩
            show Q (.bl (decide (V.int (gI n m) = V.int 1))) H2
            rw [Sw.dec_int]
            exact kk
          · rw [decide_eq_false (show ¬ 1 ≤ m by omega), Bool.false_and] at kk
            exact kk
def spTotE (K : PySem.W.Frag) : Sp := fun vs H Q _ => ∃ (a : Addr) (xs : List V) (fs : List (Int × Int)), vs = [.ref a] ∧ SqL K H a xs ∧ RowF K H xs fs ∧ (∀ f ∈ fs, Sz 880 820 f) ∧ fs.length ≤ 4 ∧ ∀ v H', Same H H' → Cpl K H' v (sumF fs).1 (sumF fs).2 → Q v H'
abbrev s_law_total : Stmt := topS 21
theorem sc__law_total : FnScope ["fractions", "found", "one"] ["fractions"] (defScope s_law_total) := ⟨rfl, rfl, rfl, by decide +kernel, rfl, by decide +kernel, by decide +kernel⟩
theorem ok__law_total {f : Addr} {fd : FuncData} (F : Fun K "_law_total" "_law_total" s_law_total f fd) (B : Bt mg) (c__law_added : CalG P w K mg base 3 "_law_added" (spTwo K addF)) : FnG P w K mg base 4 f fd ["fractions"] (spTotE K) := by
  refine Fun.okG F sc__law_total (fun vs H Q E h => ?_) (fun cdv A outer s H vs Q E hg hr h => ?_)
  · obtain ⟨_, _, _, rfl, _⟩ := h
    rfl
  obtain ⟨a, xs, fs, rfl, hq, hr0, hs, hl, k⟩ := h
  refine ⟨_, (pss_cons (ps_set (i := 1) sc__law_total.nd rfl (Or.inl rfl) (pe_tup (pa_cons pe_int (pa_cons pe_int pa_nil))))
    (pss_cons (ps_for PassesOwn.never rfl (pi_list (pv 0)) (pg_name (i := 2) sc__law_total.nd rfl (Or.inl rfl))
      (pss_one (ps_set (i := 1) sc__law_total.nd rfl (Or.inl rfl) (pc c__law_added hg hr (by decide) (by rfl) (pa_cons (pv 1) (pa_cons (pv 2) pa_nil))))))
    (pss_one (ps_ret (pv 1))))), ?_⟩
  refine ⟨by show 2 ≤ sizeLine; decide, fun p np => ?_⟩
  have s0 := same_upd (o := .tup [.int 0, .int 1]) np
  have h0 : Cpl K (upd H p (.tup [.int 0, .int 1])) (.ref p) (sumF (fs.take 0)).1 (sumF (fs.take 0)).2 := .mk upd_same
  refine ⟨_, rfl, a, rfl, ⟨_, s0.seq hq⟩, for_it (walk_list (K := K) (xs := xs) (a := a)) (fun i σ H' => ∃ v o, σ = [some (.ref a), some v, o] ∧ Same H H' ∧ Cpl K H' v (sumF (fs.take i)).1 (sumF (fs.take i)).2) ⟨_, _, rfl, s0, h0⟩ (fun i σ H' _ h => by
    obtain ⟨_, _, _, s, _⟩ := h
    exact s.seq hq) (fun i x σ H1 H2 hi h y => ?_) fun σ H1 h => ?_⟩
  · obtain ⟨v, o, rfl, s, hv⟩ := h
    obtain ⟨rfl, hx⟩ := y
    obtain ⟨g, eg, hg1⟩ := hr0.get hx
    have hil : i < fs.length := by rw [← hr0.len]; exact hi
    have tb := (sum_sz fs i hs (by omega)).1
    have sm := hs g (List.mem_of_getElem? eg)
    have i3 : i ≤ 3 := by omega
    have e1 : 880 + i * (820 + 1) + 1 ≤ 3900 := by omega
    have e2 : 1 + i * 820 ≤ 3900 := by omega
    refine ⟨_, rfl, _, rfl, v, x, (sumF (fs.take i)).1, (sumF (fs.take i)).2, g.1, g.2, rfl, hv, hg1.same s, tb.fr, sm.fr, tb.bn e1, tb.bd e2, sm.bn (by decide), sm.bd (by decide), fun p H3 s3 _ hp => ?_⟩
    refine ⟨_, _, rfl, s.trans s3, ?_⟩
    rw [take_snoc eg, sumF_snoc]
    exact .mk hp
  · obtain ⟨v, o, rfl, s, hv⟩ := h
    rw [hr0.len, List.take_length] at hv
    exact ⟨_, rfl, k v _ s hv⟩
/-- a drawn entry -/
def EntD (d : PyData) : Prop := ∃ n m, d = .tuple [.int n, .int m] ∧ Sz 40 10 (n, m)
theorem entD_num {d : PyData} (h : NumE d) : EntD d := by
  obtain ⟨n, m, rfl, h1, h2, h3, h4, h5⟩ := h
  exact ⟨n, m, rfl, ⟨by show 0 < m; omega, gI_cp.mp h5⟩, by show n.natAbs < 2 ^ 40; omega, by show m.natAbs < 2 ^ 10; omega⟩
theorem gv_mono {K : PySem.W.Frag} {b : Addr} {mu : Addr → Prop} {σ : L2.St} {H0 : Hp} {te : TE} {D D' : PyData → Prop} (h : Gv K b mu σ H0 te D) (f : ∀ d, D d → D' d) : Gv K b mu σ H0 te D' := fun H hb m Q q => h H hb m Q fun v H' d hd => q v H' d (f d hd)
theorem ge_numE {K : PySem.W.Frag} {b : Addr} {mu : Addr → Prop} {σ : L2.St} {H0 : Hp} {i : Nat} {n : Int} (hm : mu b) (hσ : σ[i]? = some (some (.ref b))) (h0 : 0 < n) (h1 : n ≤ 100000000) :
    Gv K b mu σ H0 (tCall (spNumE K) [] E0 (tCons (tVar i) (tCons (tC (.int n)) tNil))) EntD := fun H hb m Q q =>
  ⟨_, hσ, n, h0, h1, b, mu, rfl, hm, hb.bag, m, fun v H' d hd => q v H' d (entD_num hd)⟩
def spEntry (K : PySem.W.Frag) : Sp := fun vs H Q _ => ∃ (b : Addr) (mu : Addr → Prop), vs = [.ref b] ∧ mu b ∧ BagAt H b ∧ MuOk mu H ∧ ∀ v H' f, Sz 40 10 f → Rel b H H' → Cpl K H' v f.1 f.2 → Q v H'
abbrev s_law_entry : Stmt := topS 25
theorem sc__law_entry : FnScope ["bag", "number"] ["bag"] (defScope s_law_entry) := ⟨rfl, rfl, rfl, by decide +kernel, rfl, by decide +kernel, by decide +kernel⟩
theorem ok__law_entry {f : Addr} {fd : FuncData} (F : Fun K "_law_entry" "_law_entry" s_law_entry f fd) (B : Bt mg) (c__law_take : CalG P w K mg base 1 "_law_take" spTake) (c__law_some : CalG P w K mg base 2 "_law_some" spSome) (c__law_number : CalG P w K mg base 3 "_law_number" (spNumE K)) : FnG P w K mg base 4 f fd ["bag"] (spEntry K) := by
  refine Fun.okG F sc__law_entry (fun vs H Q E h => ?_) (fun cdv A outer s H vs Q E hg hr h => ?_)
  · obtain ⟨_, _, rfl, _⟩ := h
    rfl
  obtain ⟨b, mu, rfl, hmu, hb, hM, k⟩ := h
  refine ⟨_, (pss_cons (ps_set (i := 1) sc__law_entry.nd rfl (Or.inl rfl) (pc c__law_some hg hr (by decide) (by rfl) (pa_cons (pv 0) (pa_cons (pe_lst (pa_cons (pe_tup (pa_cons pe_int (pa_cons pe_int pa_nil))) (pa_cons (pe_tup (pa_cons pe_int (pa_cons pe_int pa_nil))) (pa_cons (pc c__law_number hg hr (by decide) (by rfl) (pa_cons (pv 0) (pa_cons pe_int pa_nil))) (pa_cons (pc c__law_number hg hr (by decide) (by rfl) (pa_cons (pv 0) (pa_cons pe_int pa_nil))) (pa_cons (pe_tup (pa_cons pe_int (pa_cons pe_int pa_nil))) pa_nil)))))) pa_nil))))
    (pss_one (ps_ret (pe_ifExp (pt_cmpR op_eq (pc c__law_take hg hr (by decide) (by rfl) (pa_cons (pv 0) (pa_cons pe_int pa_nil))) pe_int (nomark _)) (pe_tup (pa_cons (pe_un un_neg (pe_ix ix_tup (pv 1) pe_int (fun _ _ => rfl))) (pa_cons (pe_ix ix_tup (pv 1) pe_int (fun _ _ => rfl)) pa_nil))) (pv 1))))), ?_⟩
  have g : ∀ {σ : L2.St} {H0 : Hp} {n m : Int}, Sz 40 10 (n, m) → Gv K b mu σ H0 (tTup (tCons (tC (.int n)) (tCons (tC (.int m)) tNil))) EntD := fun {σ H0 n m} h => (ge_tup hmu (geA_cons hmu ge_int (geA_cons hmu ge_int geA_nil)) (show 2 ≤ 1000 by decide)).gv ⟨n, m, rfl, h⟩
  have z1 : Sz 40 10 (0, 1) := sz_zero.mono (by decide) (by decide)
  have z2 : Sz 40 10 (1, 1) := sz_one.mono (by decide) (by decide)
  have z3 : Sz 40 10 (1, 2) := ⟨⟨by decide, gI_cp.mp (by decide)⟩, by decide, by decide⟩
  refine gv_some (K := K) (mu := mu) (D := EntD) (n := 5) hmu rfl (gvA_cons hmu (g z1) (gvA_cons hmu (g z2) (gvA_cons hmu (ge_numE hmu rfl (by decide) (by decide)) (gvA_cons hmu (ge_numE hmu rfl (by decide) (by decide)) (gvA_cons hmu (g z3) gvA_nil))))) (by decide) (by decide) H (.refl hb) hM _ fun v H1 d hd R1 hv _ => ?_
  obtain ⟨n, m, rfl, sz⟩ := hd
  refine ⟨_, rfl, b, _, rfl, R1.bag, by decide, by decide, fun t H2 t0 t1 R2 => ⟨rfl, _, rfl, iteEq (fun _ => ?_) fun _ => ?_⟩⟩
  · obtain ⟨c, rfl, hc⟩ := (hv.fut (R2.fut hmu R1.bag)).cpl
    refine ⟨_, rfl, c, _, 0, _, rfl, rfl, hc, atI_nat (j := 0) rfl, _, rfl, _, rfl, c, _, 1, _, rfl, rfl, hc, atI_nat (j := 1) rfl, by show 2 ≤ sizeLine; decide, fun p np => ?_⟩
    exact k (.ref p) _ (-n, m) sz.neg ((R1.trans R2).same (same_upd np)) (.mk upd_same)
  · exact ⟨_, rfl, k v _ (n, m) sz (R1.trans R2) (hv.fut (R2.fut hmu R1.bag)).cpl⟩
end
end K35
namespace K35
open PySem PySem.Spec PyProof.Rows L2 Sw M35 StX RZ
theorem slA_use {K : PySem.W.Frag} {H : Hp} {r : Addr} {xs : List V} {lo hi : Option Int} {Q : VK} (h : SqT K H r xs) (k : ∀ p H', Same H H' → SqT K H' p (cutV xs lo hi) → Q (.ref p) H') : rSlA K (.ref r) lo hi H Q := by
  refine ⟨r, xs, rfl, h, fun z => ?_, fun _ p np => k p _ (same_upd np) (.of upd_same)⟩
  refine k r H (.refl H) ?_
  have : cutV xs lo hi = xs := by
    unfold cutV
    rw [z.1, z.2, List.drop_zero, Nat.sub_zero, List.take_length]
  rw [this]
  exact h
theorem catA_use {K : PySem.W.Frag} {H : Hp} {r t : Addr} {xs ys : List V} {Q : VK} (h : SqT K H r xs) (h2 : SqT K H t ys) (hl : xs.length + ys.length ≤ 1000) (k : ∀ p H', Same H H' → SqT K H' p (xs ++ ys) → Q (.ref p) H') : rCatA K (.ref r) (.ref t) H Q := by
  refine ⟨r, t, xs, ys, rfl, rfl, h, h2, Nat.le_of_lt (small1000 hl), fun z => ?_, fun _ z => ?_, fun _ _ p np => k p _ (same_upd np) (.of upd_same)⟩
  · refine k t H (.refl H) ?_
    rw [z]
    exact h2
  · refine k r H (.refl H) ?_
    rw [z, List.append_nil]
    exact h
theorem rowF_take {K : PySem.W.Frag} {H : Hp} : ∀ {vs : List V} {fs : List (Int × Int)} (n : Nat), RowF K H vs fs → RowF K H (vs.take n) (fs.take n)
  | _, _, 0, _ => by rw [List.take_zero, List.take_zero]; exact True.intro
  | [], [], n + 1, _ => True.intro
  | x :: vs, g :: fs, n + 1, h => ⟨h.1, rowF_take n h.2⟩
  | [], _ :: _, _ + 1, h => h.elim
  | _ :: _, [], _ + 1, h => h.elim
theorem rowF_drop {K : PySem.W.Frag} {H : Hp} : ∀ {vs : List V} {fs : List (Int × Int)} (n : Nat), RowF K H vs fs → RowF K H (vs.drop n) (fs.drop n)
  | _, _, 0, h => h
  | [], [], n + 1, _ => True.intro
  | x :: vs, g :: fs, n + 1, h => rowF_drop n h.2
  | [], _ :: _, _ + 1, h => h.elim
  | _ :: _, [], _ + 1, h => h.elim
theorem rowF_app {K : PySem.W.Frag} {H : Hp} : ∀ {vs : List V} {fs : List (Int × Int)} {ws : List V} {gs : List (Int × Int)}, RowF K H vs fs → RowF K H ws gs → RowF K H (vs ++ ws) (fs ++ gs)
  | [], [], _, _, _, k => k
  | x :: vs, g :: fs, _, _, h, k => ⟨h.1, rowF_app h.2 k⟩
  | [], _ :: _, _, _, h, _ => h.elim
  | _ :: _, [], _, _, h, _ => h.elim
theorem seqT_fut {K : PySem.W.Frag} {mu : Addr → Prop} {H H' : Hp} {a : Addr} {xs : List V} (h : SqT K H a xs) (f : Fut mu H H') : SqT K H' a xs := by
  rcases h with (r | ⟨o, r⟩) | r
  · exact .inl (.inl (f _ _ r (.inr (.inl ⟨_, rfl⟩))))
  · exact .inl (.inr ⟨o, f _ _ r (.inr (.inr ⟨_, _, rfl⟩))⟩)
  · exact .inr r
theorem RowsF.fut {K : PySem.W.Frag} {mu : Addr → Prop} {H H' : Hp} {vs : List V} {M : List (List (Int × Int))} (h : RowsF K H vs M) (f : Fut mu H H') : RowsF K H' vs M :=
  ⟨h.len, fun i v e => by
    obtain ⟨r, fs, xs, a, b, c, d⟩ := h.row i v e
    exact ⟨r, fs, xs, a, b, seqT_fut c f, d.fut f⟩⟩
/-- a list grows: tuples stay -/
theorem fut_grow {H : Hp} {D : Addr} {xs ys : List V} (h : H D = some (.lst xs)) : Fut (fun z => z = D) H (upd H D (.lst ys)) := fun z o e hz => by
  by_cases zD : z = D
  · subst zD
    rw [h] at e
    cases e
    rcases hz with hz | ⟨_, hz⟩ | ⟨_, _, hz⟩
    · exact absurd rfl hz
    · cases hz
    · cases hz
  · rw [upd_ne zD]
    exact e
theorem RowsF.snoc {K : PySem.W.Frag} {H : Hp} {vs : List V} {M : List (List (Int × Int))} {r : Addr} {fs : List (Int × Int)} {xs : List V} (h : RowsF K H vs M) (c : SqT K H r xs) (d : RowF K H xs fs) : RowsF K H (vs ++ [.ref r]) (M ++ [fs]) := by
  refine ⟨by rw [List.length_append, List.length_append, h.len]; rfl, fun i v e => ?_⟩
  by_cases hi : i < vs.length
  · rw [List.getElem?_append_left hi] at e
    obtain ⟨r', fs', xs', a, b, c', d'⟩ := h.row i v e
    exact ⟨r', fs', xs', a, by rw [List.getElem?_append_left (by rw [← h.len]; exact hi)]; exact b, c', d'⟩
  · have hl := (List.getElem?_eq_some_iff.mp e).1
    rw [List.length_append] at hl
    have e2 : i = vs.length := by
      simp at hl
      omega
    subst e2
    rw [List.getElem?_append_right (Nat.le_refl _), Nat.sub_self] at e
    cases e
    refine ⟨r, fs, xs, rfl, ?_, c, d⟩
    rw [h.len, List.getElem?_append_right (Nat.le_refl _), Nat.sub_self]
    rfl
def qM (M : List (List (Int × Int))) : MatQ := fun i j => vf ((M.getD i []).getD j (0, 1))
/-- the rows behind the first one, without a column -/
def cutC (a : Nat) (fs : List (Int × Int)) : List (Int × Int) := fs.take a ++ fs.drop (a + 1)
def Mn (M : List (List (Int × Int))) (a : Nat) : List (List (Int × Int)) := (M.drop 1).map (cutC a)
structure SqM (m : Nat) (M : List (List (Int × Int))) : Prop where
  len : M.length = m
  rows : ∀ fs ∈ M, fs.length = m ∧ ∀ f ∈ fs, Sz 80 20 f
theorem cutC_len {fs : List (Int × Int)} {m a : Nat} (h : fs.length = m + 1) (ha : a < m + 1) : (cutC a fs).length = m := by
  unfold cutC
  rw [List.length_append, List.length_take, List.length_drop, h]
  omega
theorem SqM.mn {m : Nat} {M : List (List (Int × Int))} (h : SqM (m + 1) M) {a : Nat} (ha : a < m + 1) : SqM m (Mn M a) := by
  refine ⟨?_, fun fs hfs => ?_⟩
  · unfold Mn
    rw [List.length_map, List.length_drop, h.len]
    rfl
  · obtain ⟨gs, hgs, rfl⟩ := List.mem_map.mp hfs
    obtain ⟨h1, h2⟩ := h.rows gs (List.mem_of_mem_drop hgs)
    refine ⟨cutC_len h1 ha, fun f hf => ?_⟩
    rcases List.mem_append.mp hf with hf | hf
    · exact h2 f (List.mem_of_mem_take hf)
    · exact h2 f (List.mem_of_mem_drop hf)
theorem mn_det {m : Nat} {M : List (List (Int × Int))} (h : SqM (m + 1) M) {a : Nat} (ha : a < m + 1) : detQ m (qM (Mn M a)) = detQ m (mnr (qM M) a) := by
  refine detQ_congr fun r hr c hc => ?_
  have hr2 : r + 1 < M.length := by rw [h.len]; omega
  have e1 : (Mn M a).getD r [] = cutC a M[r + 1] := by
    unfold Mn
    rw [List.getD_eq_getElem?_getD, List.getElem?_map, List.getElem?_drop, Nat.add_comm 1 r, List.getElem?_eq_getElem hr2]
    rfl
  have e2 : M.getD (r + 1) [] = M[r + 1] := by
    rw [List.getD_eq_getElem?_getD, List.getElem?_eq_getElem hr2]
    rfl
  have hl := (h.rows _ (List.getElem_mem hr2)).1
  unfold qM mnr
  show vf (((Mn M a).getD r []).getD c (0, 1)) = vf ((M.getD (r + 1) []).getD (if c < a then c else c + 1) (0, 1))
  rw [e1, e2]
  congr 1
  unfold cutC
  rw [List.getD_eq_getElem?_getD, List.getD_eq_getElem?_getD]
  congr 1
  by_cases hca : c < a
  · rw [if_pos hca, List.getElem?_append_left (by rw [List.length_take]; omega), List.getElem?_take_of_lt hca]
  · rw [if_neg hca, List.getElem?_append_right (by rw [List.length_take]; omega), List.length_take, List.getElem?_drop]
    congr 1
    omega
theorem sgn_sz {a b : Nat} {n d : Int} (i : Nat) (h : Sz a b (n, d)) : Sz a b (sgn i * n, d) := by
  rcases sgn_or i with e | e
  · rw [e, Int.one_mul]
    exact h
  · rw [e, Int.neg_mul, Int.one_mul]
    exact h.neg
theorem sgn_vf (i : Nat) (n d : Int) : vf (sgn i * n, d) = (sgn i : Rat) * vf (n, d) := by
  rcases sgn_or i with e | e
  · rw [e, Int.one_mul]
    show vf (n, d) = 1 * vf (n, d)
    grind
  · rw [e, Int.neg_mul, Int.one_mul, vf_neg]
    show - vf (n, d) = -1 * vf (n, d)
    grind
end K35
namespace K35
open PySem PySem.Spec PyProof.Rows L2 Sw M35 StX RZ
def spWhole (K : PySem.W.Frag) (m : Nat) : Sp := fun vs H Q _ => ∃ (a : Addr) (ws : List V) (M : List (List (Int × Int))), vs = [.ref a] ∧ SqL K H a ws ∧ RowsF K H ws M ∧ SqM m M ∧ ∀ v H' f, Same H H' → Cpl K H' v f.1 f.2 → Sz (aW m) (bW m) f → vf f = detQ m (qM M) → Q v H'
theorem spWhole_len {K : PySem.W.Frag} {m : Nat} {x : Str} : ∀ vs H Q E, spWhole K m vs H Q E → vs.length = [x].length := fun vs H Q E h => by
  obtain ⟨_, _, _, rfl, _⟩ := h
  rfl
section
variable {P : Program} {w : World} {K : PySem.W.Frag} {mg : Str → Option Value} {base : Heap}
abbrev s_law_whole : Stmt := topS 24
theorem sc__law_whole : FnScope ["rows", "found", "sign", "at", "entry", "rest", "row", "part"] ["rows"] (defScope s_law_whole) := ⟨rfl, rfl, rfl, by decide +kernel, rfl, by decide +kernel, by decide +kernel⟩
theorem ok__law_whole0 {f : Addr} {fd : FuncData} (F : Fun K "_law_whole" "_law_whole" s_law_whole f fd) (B : Bt mg) (c__law_added : CalG P w K mg base 3 "_law_added" (spTwo K addF)) (c__law_multiplied : CalG P w K mg base 3 "_law_multiplied" (spTwo K mulF)) (c__law_whole : CalG P w K mg base 3 "_law_whole" (fun _ _ _ _ => False)) : FnG P w K mg base 4 f fd ["rows"] (spWhole K 0) := by
  refine Fun.okG F sc__law_whole spWhole_len (fun cdv A outer s H vs Q E hg hr h => ?_)
  obtain ⟨a, ws, M, rfl, hq, hM, ok, k⟩ := h
  have hu := Room.u64 hr
  refine ⟨_, (pss_cons (ps_if (pt_cmpR (op_eqNil (K := K) rfl hu) (pv 0) (pe_lst pa_nil) (nomark _))
      (pss_one (ps_ret (pe_tup (pa_cons pe_int (pa_cons pe_int pa_nil)))))
      pss_nil)
    (pss_cons (ps_asg (pe_tup (pa_cons (pe_tup (pa_cons pe_int (pa_cons pe_int pa_nil))) (pa_cons pe_int pa_nil))) (pg_tup (n := 2) rfl (pgs_cons (pg_name (i := 1) sc__law_whole.nd rfl (Or.inl rfl)) (pgs_cons (pg_name (i := 2) sc__law_whole.nd rfl (Or.inl rfl)) pgs_nil))))
    (pss_cons (ps_for PassesOwn.never rfl (pi_enumT (by rfl) B.enum (pa_cons (pe_ix ix_list (pv 0) pe_int (fun _ _ => rfl)) pa_nil)) (pg_tup (n := 2) rfl (pgs_cons (pg_name (i := 3) sc__law_whole.nd rfl (Or.inr rfl)) (pgs_cons (pg_name (i := 4) sc__law_whole.nd rfl (Or.inl rfl)) pgs_nil)))
      (pss_cons (ps_setLc (i := 5) (own := [("row", 6)]) rfl sc__law_whole.nd rfl rfl (sw_true rfl rfl rfl (by decide +kernel)) (pi_list (pe_slice sl_list (pv 0) (po_some pe_int) po_none)) (blkOk_by (own := [("row", 6)]) (N := ["rows", "found", "sign", "at", "entry", "rest", "row", "part"]) (sc := (defScope s_law_whole)) (by decide +kernel)) (fun _ _ _ _ _ => (pg_name (i := 6) sc__law_whole.nd rfl (Or.inl rfl))) (fun _ _ _ _ _ => pts_nil) (fun _ _ _ _ _ => (pe_op (op_catAK (K := K) rfl) (pe_slice (sl_tupAK (K := K) rfl) (pv 6) po_none (po_some (pv 3))) (pe_slice (sl_tupAK (K := K) rfl) (pv 6) (po_some (pe_op op_add (pv 3) pe_int)) po_none))))
      (pss_cons (ps_set (i := 7) sc__law_whole.nd rfl (Or.inl rfl) (pc c__law_multiplied hg hr (by omega) (by rfl) (pa_cons (pv 4) (pa_cons (pc c__law_whole hg hr (by omega) (by rfl) (pa_cons (pv 5) pa_nil)) pa_nil))))
      (pss_cons (ps_set (i := 1) sc__law_whole.nd rfl (Or.inl rfl) (pc c__law_added hg hr (by omega) (by rfl) (pa_cons (pv 1) (pa_cons (pe_tup (pa_cons (pe_op op_mulW (pv 2) (pe_ix ix_tup (pv 7) pe_int (fun _ _ => rfl))) (pa_cons (pe_ix ix_tup (pv 7) pe_int (fun _ _ => rfl)) pa_nil))) pa_nil))))
      (pss_one (ps_set (i := 2) sc__law_whole.nd rfl (Or.inl rfl) (pe_un un_neg (pv 2))))))))
    (pss_one (ps_ret (pv 1)))))), ?_⟩
  have hw : ws = [] := List.eq_nil_of_length_eq_zero (by rw [hM.len, ok.len])
  refine ⟨_, rfl, Nat.zero_le _, fun q nq => ⟨a, q, ws, rfl, rfl, (same_upd nq).seq hq, .inl (.inl upd_same), _, rfl, iteP (fun _ => ?_) fun h => absurd hw h⟩⟩
  refine ⟨by show 2 ≤ sizeLine; decide, fun p np => ?_⟩
  refine k (.ref p) _ (1, 1) ((same_upd nq).trans (same_upd np)) (.mk upd_same) sz_one ?_
  show vf (1, 1) = 1
  unfold vf
  show ((1 : Int) : Rat) / ((1 : Int) : Rat) = 1
  have : ((1 : Int) : Rat) = 1 := rfl
  rw [this]
  grind
theorem ok__law_whole {f : Addr} {fd : FuncData} {m j : Nat} (hj : 4 ≤ j) (hm : m < 4) (F : Fun K "_law_whole" "_law_whole" s_law_whole f fd) (B : Bt mg) (c__law_added : CalG P w K mg base 3 "_law_added" (spTwo K addF)) (c__law_multiplied : CalG P w K mg base 3 "_law_multiplied" (spTwo K mulF)) (c__law_whole : CalG P w K mg base j "_law_whole" (spWhole K m)) : FnG P w K mg base (j + 1) f fd ["rows"] (spWhole K (m + 1)) := by
  refine Fun.okG F sc__law_whole spWhole_len (fun cdv A outer s H vs Q E hg hr h => ?_)
  obtain ⟨a, ws, M, rfl, hq, hM, ok, k⟩ := h
  have hu := Room.u64 hr
  obtain ⟨w1, w2⟩ := aW_le m (by omega)
  obtain ⟨w3, w4⟩ := aW_le (m + 1) (by omega)
  refine ⟨_, (pss_cons (ps_if (pt_cmpR (op_eqNil (K := K) rfl hu) (pv 0) (pe_lst pa_nil) (nomark _))
      (pss_one (ps_ret (pe_tup (pa_cons pe_int (pa_cons pe_int pa_nil)))))
      pss_nil)
    (pss_cons (ps_asg (pe_tup (pa_cons (pe_tup (pa_cons pe_int (pa_cons pe_int pa_nil))) (pa_cons pe_int pa_nil))) (pg_tup (n := 2) rfl (pgs_cons (pg_name (i := 1) sc__law_whole.nd rfl (Or.inl rfl)) (pgs_cons (pg_name (i := 2) sc__law_whole.nd rfl (Or.inl rfl)) pgs_nil))))
    (pss_cons (ps_for PassesOwn.never rfl (pi_enumT (by rfl) B.enum (pa_cons (pe_ix ix_list (pv 0) pe_int (fun _ _ => rfl)) pa_nil)) (pg_tup (n := 2) rfl (pgs_cons (pg_name (i := 3) sc__law_whole.nd rfl (Or.inr rfl)) (pgs_cons (pg_name (i := 4) sc__law_whole.nd rfl (Or.inl rfl)) pgs_nil)))
      (pss_cons (ps_setLc (i := 5) (own := [("row", 6)]) rfl sc__law_whole.nd rfl rfl (sw_true rfl rfl rfl (by decide +kernel)) (pi_list (pe_slice sl_list (pv 0) (po_some pe_int) po_none)) (blkOk_by (own := [("row", 6)]) (N := ["rows", "found", "sign", "at", "entry", "rest", "row", "part"]) (sc := (defScope s_law_whole)) (by decide +kernel)) (fun _ _ _ _ _ => (pg_name (i := 6) sc__law_whole.nd rfl (Or.inl rfl))) (fun _ _ _ _ _ => pts_nil) (fun _ _ _ _ _ => (pe_op (op_catAK (K := K) rfl) (pe_slice (sl_tupAK (K := K) rfl) (pv 6) po_none (po_some (pv 3))) (pe_slice (sl_tupAK (K := K) rfl) (pv 6) (po_some (pe_op op_add (pv 3) pe_int)) po_none))))
      (pss_cons (ps_set (i := 7) sc__law_whole.nd rfl (Or.inl rfl) (pc c__law_multiplied hg hr (by omega) (by rfl) (pa_cons (pv 4) (pa_cons (pc c__law_whole hg hr (by omega) (by rfl) (pa_cons (pv 5) pa_nil)) pa_nil))))
      (pss_cons (ps_set (i := 1) sc__law_whole.nd rfl (Or.inl rfl) (pc c__law_added hg hr (by omega) (by rfl) (pa_cons (pv 1) (pa_cons (pe_tup (pa_cons (pe_op op_mulW (pv 2) (pe_ix ix_tup (pv 7) pe_int (fun _ _ => rfl))) (pa_cons (pe_ix ix_tup (pv 7) pe_int (fun _ _ => rfl)) pa_nil))) pa_nil))))
      (pss_one (ps_set (i := 2) sc__law_whole.nd rfl (Or.inl rfl) (pe_un un_neg (pv 2))))))))
    (pss_one (ps_ret (pv 1)))))), ?_⟩
  have hwl : ws.length = m + 1 := by rw [hM.len, ok.len]
  have hw : ws ≠ [] := fun z => by
    rw [z] at hwl
    cases hwl
  refine ⟨_, rfl, Nat.zero_le _, fun q nq => ⟨a, q, ws, rfl, rfl, (same_upd nq).seq hq, .inl (.inl upd_same), _, rfl, iteP (fun h => absurd h hw) fun _ => ?_⟩⟩
  have s1 := same_upd (o := .lst []) nq
  refine ⟨by show 2 ≤ sizeLine; decide, fun p np => ⟨by show 2 ≤ sizeLine; decide, fun p2 np2 => ⟨p2, _, rfl, .inl (.inl upd_same), rfl, _, _, rfl, _, _, rfl, rfl, ?_⟩⟩⟩
  have s2 := (s1.trans (same_upd (o := .tup [.int 0, .int 1]) np)).trans (same_upd (o := .tup [.ref p, .int 1]) np2)
  have c0 : Cpl K (upd (upd (upd H q (.lst [])) p (.tup [.int 0, .int 1])) p2 (.tup [.ref p, .int 1])) (.ref p) ((0, 1) : Int × Int).1 ((0, 1) : Int × Int).2 := (Cpl.mk upd_same).same (same_upd np2)
  revert s2 c0
  generalize upd (upd (upd H q (.lst [])) p (.tup [.int 0, .int 1])) p2 (.tup [.ref p, .int 1]) = H1
  intro s2 c0
  have e0 : ws[0]? = some ws[0] := List.getElem?_eq_getElem (by omega)
  obtain ⟨r0, fs0, xs0, er0, em0, hx0, hr0⟩ := hM.row 0 _ e0
  rw [er0] at e0
  have hfs0 := ok.rows fs0 (List.mem_of_getElem? em0)
  have hl0 : xs0.length = m + 1 := by rw [hr0.len, hfs0.1]
  have hx1 := s2.seqT hx0
  have v0 : vf (0, 1) = lap m (qM M) 0 := by
    show vf (0, 1) = 0
    exact (vf_zero (f := (0, 1)) sz_zero.fr).mpr rfl
  refine ⟨_, rfl, a, ws, 0, .ref r0, rfl, rfl, s2.seq hq, atI_nat (j := 0) e0, r0, xs0, rfl, hx1, for_it (walk_enumT (K := K) (a := r0) (xs := xs0))
    (fun i σ H' => ∃ v f o3 o4 o5 o7, σ = [some (.ref a), some v, some (.int (sgn i)), o3, o4, o5, none, o7] ∧ Same H H' ∧ Cpl K H' v f.1 f.2 ∧ Sz (81 + aW m + i * (21 + bW m)) (1 + i * (20 + bW m)) f ∧ vf f = lap m (qM M) i)
    ⟨.ref p, (0, 1), _, _, _, _, rfl, s2, c0, sz_zero.mono (by omega) (by omega), v0⟩ (fun i σ H' _ h => by
      obtain ⟨_, _, _, _, _, _, _, s, _⟩ := h
      exact s.seqT hx0) (fun i x σ H2 H3 hi h y => ?_) fun σ H2 h => ?_⟩
  · obtain ⟨v, f, o3, o4, o5, o7, rfl, s, cv, sz, ev⟩ := h
    obtain ⟨T, x1, y1, rfl, nT, rfl, hx1, hy1⟩ := y
    have hx1 : some (V.int (i : Nat)) = some x1 := hx1
    cases hx1
    have hy1 : xs0[i]? = some y1 := hy1
    have hi2 : i < m + 1 := by omega
    obtain ⟨g, eg, cg⟩ := hr0.get hy1
    have sg := hfs0.2 g (List.mem_of_getElem? eg)
    have sT := same_upd (o := .tup [.int (i : Nat), y1]) nT
    refine ⟨T, _, rfl, .inl (.inl upd_same), rfl, _, _, rfl, _, _, rfl, rfl, ?_⟩
    have cv3 := cv.same sT
    have s3 := s.trans sT
    revert cv3 s3
    generalize upd H2 T (.tup [.int (i : Nat), y1]) = H3
    intro cv3 s3
    have em1 : cutV ws (some ((1 : Nat) : Int)) none = ws.drop 1 := cutV_from ws 1
    refine ⟨_, rfl, 1, rfl, a, ws, rfl, s3.seq hq, fun t nt => ?_⟩
    have em2 : cutV ws (some 1) none = ws.drop 1 := em1
    rw [em2]
    have s4 := s3.trans (same_upd (o := .lst (ws.drop 1)) nt)
    have cv4 := cv3.same (same_upd (o := .lst (ws.drop 1)) nt)
    have ht4 : (upd H3 t (.lst (ws.drop 1))) t = some (.lst (ws.drop 1)) := upd_same
    revert s4 cv4 ht4
    generalize upd H3 t (.lst (ws.drop 1)) = H4
    intro s4 cv4 ht4
    have hws : ∀ (j : Nat) (r : V), (ws.drop 1)[j]? = some r → ∃ (rr : Addr) (fs : List (Int × Int)) (xs : List V), r = V.ref rr ∧ (M.drop 1)[j]? = some fs ∧ SqT K H rr xs ∧ RowF K H xs fs := fun j r e => by
      rw [List.getElem?_drop] at e
      obtain ⟨rr, fs, xs, z1, z2, z3, z4⟩ := hM.row _ _ e
      exact ⟨rr, fs, xs, z1, by rw [List.getElem?_drop]; exact z2, z3, z4⟩
    refine ⟨t, rfl, ⟨_, .inl (.inl ht4)⟩, fun D hD => lc_it (walk_list (K := K) (xs := ws.drop 1) (a := t)) (fun j H' => Same H4 H' ∧ ∃ ts, H' D = some (.lst ts) ∧ ts.length = j ∧ RowsF K H' ts ((Mn M i).take j)) ?_ (fun j H' _ h => .inl (.inl (h.1 _ _ ht4))) ?_ ?_⟩
    · exact ⟨same_upd hD, [], upd_same, rfl, rfl, fun j v e => by simp at e⟩
    · rintro j z H5 H6 hj ⟨sm, ts, hDa, htl, hts⟩ ⟨rfl, hz⟩
      obtain ⟨rr, fs, xs, rfl, efs, hx, hrow⟩ := hws j z hz
      have hok := ok.rows fs (List.mem_of_mem_drop (List.mem_of_getElem? efs))
      have hxl : xs.length = m + 1 := by rw [hrow.len, hok.1]
      have s6 := s4.trans sm
      refine ⟨rfl, ?_⟩
      refine ⟨_, rfl, _, rfl, _, rfl, slA_use (s6.seqT hx) fun p1 H7 s7 h7 => ?_⟩
      refine ⟨_, rfl, _, rfl, _, _, rfl, rfl, _, rfl, ?_⟩
      dsimp only [tNoPart]
      refine slA_use ((s6.trans s7).seqT hx) fun p3 H8 s8 h8 => ?_
      rw [show (i : Int) + 1 = ((i + 1 : Nat) : Int) by omega, cutV_from] at h8
      rw [cutV_to] at h7
      refine catA_use (s8.seqT h7) h8 (by rw [List.length_take, List.length_drop]; omega) fun p4 H9 s9 h9 => ?_
      have s79 := (s7.trans s8).trans s9
      have hD9 := s79 _ _ hDa
      have fg := fut_grow (ys := ts ++ [V.ref p4]) hD9
      have hjl : j < (ws.drop 1).length := (List.getElem?_eq_some_iff.mp hz).1
      rw [List.length_drop] at hjl
      have hrow9 : RowF K (upd H9 D (.lst (ts ++ [.ref p4]))) (xs.take i ++ xs.drop (i + 1)) (cutC i fs) := ((rowF_app (rowF_take i hrow) (rowF_drop (i + 1) hrow)).same (s6.trans s79)).fut fg
      have emj : (Mn M i)[j]? = some (cutC i fs) := by
        unfold Mn
        rw [List.getElem?_map, efs]
        rfl
      refine ⟨ts, hD9, small1000 (by omega), fun b o e => ?_, ts ++ [.ref p4], upd_same, ?_, ?_⟩
      · rw [upd_ne (ne_of_none e hD)]
        exact s79 _ _ (sm _ _ e)
      · rw [List.length_append, htl]
        rfl
      · rw [take_snoc emj]
        exact ((hts.same s79).fut fg).snoc (seqT_fut h9 fg) hrow9
    · rintro H5 ⟨sm, ts, hDa, htl, hts⟩
      have okn := ok.mn hi2
      have hdl : (ws.drop 1).length = m := by rw [List.length_drop, hwl]; rfl
      rw [hdl, List.take_of_length_le (by rw [okn.len]; exact Nat.le_refl _)] at hts
      have s5 := s4.trans sm
      have cv5 := cv4.same sm
      have cg5 := cg.same s5
      refine ⟨_, rfl, _, rfl, D, ts, Mn M i, rfl, .inl (.inl hDa), hts, okn, fun v2 H6 f2 s6 c2 sz2 e2 => ?_⟩
      have cv6 := cv5.same s6
      refine ⟨y1, v2, g.1, g.2, f2.1, f2.2, rfl, cg5.same s6, c2, sg.fr, sz2.fr, sg.bn (by decide), sg.bd (by decide), sz2.bn (by omega), sz2.bd (by omega), fun p5 H7 s7 np5 hp5 => ?_⟩
      have szP : Sz (80 + aW m) (20 + bW m) (mulF g.1 g.2 f2.1 f2.2) := sg.mul sz2
      have evP : vf (mulF g.1 g.2 f2.1 f2.2) = vf g * vf f2 := vf_mul sg.nd sz2.nd
      have cv7 := cv6.same s7
      have s57 := (s5.trans s6).trans s7
      generalize mulF g.1 g.2 f2.1 f2.2 = P2 at hp5 szP evP
      have sgP := sgn_sz i (n := P2.1) (d := P2.2) szP
      have hsg : (sgn i).natAbs < 2 ^ 2 := by
        rcases sgn_or i with e | e <;> rw [e] <;> decide
      refine ⟨_, rfl, _, rfl, _, rfl, p5, _, 0, .int P2.1, rfl, rfl, .of hp5, atI_nat (j := 0) rfl, _, _, rfl, rfl, wide_mul (a := 2) (b := 80 + aW m) hsg szP.n (by decide) (by omega) (by omega), _, rfl, p5, _, 1, .int P2.2, rfl, rfl, .of hp5, atI_nat (j := 1) rfl, by show 2 ≤ sizeLine; decide, fun p6 np6 => ?_⟩
      have s8 := same_upd (o := .tup [.int (sgn i * P2.1), .int P2.2]) np6
      have ei : i * (21 + bW m) ≤ (m + 1) * (21 + bW m) := Nat.mul_le_mul_right _ (by omega)
      have ei2 : i * (20 + bW m) ≤ (m + 1) * (20 + bW m) := Nat.mul_le_mul_right _ (by omega)
      have w3' : 81 + aW m + (m + 1) * (21 + bW m) ≤ 2500 := w3
      have w4' : 1 + (m + 1) * (20 + bW m) ≤ 2500 := w4
      refine ⟨v, .ref p6, f.1, f.2, sgn i * P2.1, P2.2, rfl, cv7.same s8, .mk upd_same, sz.fr, sgP.fr, sz.bn (by omega), sz.bd (by omega), sgP.bn (by omega), sgP.bd (by omega), fun p7 H9 s9 np7 hp7 => ?_⟩
      refine ⟨_, rfl, _, rfl, .ref p7, addF f.1 f.2 (sgn i * P2.1) P2.2, some (.int (i : Nat)), some y1, some (.ref D), some (.ref p5), by rw [sgn_succ]; rfl, (s57.trans s8).trans s9, .mk hp7, ?_, ?_⟩
      · have x1 : (i + 1) * (21 + bW m) = i * (21 + bW m) + (21 + bW m) := Nat.succ_mul _ _
        have x2 : (i + 1) * (20 + bW m) = i * (20 + bW m) + (20 + bW m) := Nat.succ_mul _ _
        have x3 : i * (21 + bW m) = i * (20 + bW m) + i := by
          rw [show 21 + bW m = (20 + bW m) + 1 by omega, Nat.mul_succ]
        exact (sz.add sgP (c := 81 + aW m + (i + 1) * (21 + bW m)) (by omega) (by omega)).mono (Nat.le_refl _) (by omega)
      · have q0 : qM M 0 i = vf g := by
          have z0 : M.getD 0 [] = fs0 := by
            rw [List.getD_eq_getElem?_getD, em0]
            rfl
          unfold qM
          rw [z0, List.getD_eq_getElem?_getD, eg]
          rfl
        rw [vf_add sz.nd sgP.nd]
        show vf f + vf (sgn i * P2.1, P2.2) = lap m (qM M) i + (sgn i : Rat) * (qM M 0 i * detQ m (mnr (qM M) i))
        rw [ev, sgn_vf, q0, ← mn_det ok hi2, ← e2, ← evP]
  · obtain ⟨v, f, o3, o4, o5, o7, rfl, s, cv, sz, ev⟩ := h
    rw [hl0] at sz ev
    refine ⟨_, rfl, k v H2 f s cv ?_ ?_⟩
    · exact sz
    · rw [ev]
      exact lap_det _ m hm
end
end K35
namespace K35
open PySem PySem.Spec PyProof.Rows L2 Sw M35 StX RZ
theorem cast_sum {α : Type} (g : α → Int) : ∀ l : List α, (((l.map g).sum : Int) : Rat) = (l.map fun x => (g x : Rat)).sum
  | [] => rfl
  | x :: l => by
    rw [List.map_cons, List.sum_cons, List.map_cons, List.sum_cons, ← cast_sum g l]
    simp
theorem mul_sum {α : Type} (k : Rat) (g : α → Rat) : ∀ l : List α, (l.map fun x => k * g x).sum = k * (l.map g).sum
  | [] => by
    show (0 : Rat) = k * 0
    grind
  | x :: l => by
    rw [List.map_cons, List.sum_cons, List.map_cons, List.sum_cons, mul_sum k g l]
    grind
theorem sum_congr {α : Type} {g h : α → Rat} {l : List α} (e : ∀ x ∈ l, g x = h x) : (l.map g).sum = (l.map h).sum := by
  rw [List.map_congr_left e]
/-- the factor of each column -/
theorem col_fac {n : Nat} {M : List (List (Int × Int))} {rt : List (Int × Int)} (ok : MatOk n M rt) : ∀ i, i < n → (∀ j, j < n → (A0 n M rt i j : Rat) = (scl M j : Rat) * qM M i j) ∧ (A0 n M rt i n : Rat) = (scaleF rt : Rat) * vf (rt.getD i (0, 1)) := fun i hi => by
  obtain ⟨fs, f, e1, e2, hl, hs, hf, er, rl, hA, hn1, hn2⟩ := ok.at hi
  refine ⟨fun j hj => ?_, ?_⟩
  · have hj2 : j < fs.length := by omega
    rw [(hA j _ (List.getElem?_eq_getElem hj2)).1]
    congr 1
    unfold qM
    have z : M.getD i [] = fs := by
      rw [List.getD_eq_getElem?_getD, e1]
      rfl
    rw [z, List.getD_eq_getElem?_getD, List.getElem?_eq_getElem hj2]
    rfl
  · rw [hn1, List.getD_eq_getElem?_getD, e2]
    rfl
theorem res_none {n : Nat} {M : List (List (Int × Int))} {rt : List (Int × Int)} (ok : MatOk n M rt) : resF n M rt = none ↔ detQ n (qM M) = 0 := by
  have hc := col_fac ok
  have n4 := ok.n4
  rw [← detQ_scaleC (c := fun j => (scl M j : Rat)) n4 (fun i hi => ne_cast (by have := (ok.sclOk hi).1; omega)) fun i hi j hj => (hc i hi).1 j hj]
  unfold resF
  cases h : goF n n 0 (A0 n M rt) with
  | none =>
    have z := goF_none n4 h (by omega) (show (1 : Int) ≠ 0 by decide)
    exact ⟨fun _ => z, fun _ => rfl⟩
  | some Bm =>
    obtain ⟨h1, _, h3⟩ := goF_some n4 h (by omega) (show (1 : Int) ≠ 0 by decide)
    rw [pv_det Bm n4] at h1
    exact ⟨fun e => (nomatch e), fun e => absurd (h3.mpr e) h1⟩
theorem res_some {n : Nat} {M : List (List (Int × Int))} {rt xs : List (Int × Int)} (ok : MatOk n M rt) (h : resF n M rt = some xs) :
    xs.length = n ∧ (∀ x ∈ xs, Sz 800 800 x) ∧ ∀ (i : Nat) (fs : List (Int × Int)) (g : Int × Int), M[i]? = some fs → rt[i]? = some g → sumF (List.zipWith (fun f x => mulF f.1 f.2 x.1 x.2) fs xs) = g := by
  have n4 := ok.n4
  unfold resF at h
  cases hB : goF n n 0 (A0 n M rt) with
  | none =>
    rw [hB] at h
    cases h
  | some Bm =>
    rw [hB] at h
    cases h
    obtain ⟨hp, hrow, _⟩ := goF_some n4 hB (by omega) (show (1 : Int) ≠ 0 by decide)
    have hbd := goF_small hB (by omega) ok.small
    obtain ⟨w1, w2⟩ := ok.wrt
    have hw0 : (scaleF rt : Int) ≠ 0 := by omega
    have hpw : pv Bm n * (scaleF rt : Int) ≠ 0 := Int.mul_ne_zero hp hw0
    have hE : ∀ i, i < n → (M35.E Bm n i n * scl M i).natAbs < 2 ^ 800 := fun i hi => Nat.lt_of_lt_of_le (natAbs_lt_mul (a := 650) (b := 81) (E_small n4 hi hbd) (ok.sclOk hi).2) (p2 (by decide))
    have hpv : (pv Bm n * (scaleF rt : Int)).natAbs < 2 ^ 800 := Nat.lt_of_lt_of_le (natAbs_lt_mul (a := 650) (b := 81) (pv_small n4 (by omega) hbd) (by rw [Int.natAbs_natCast]; exact w2)) (p2 (by decide))
    have hx : ∀ i, i < n → Sz 800 800 (redI (M35.E Bm n i n * scl M i) (pv Bm n * (scaleF rt : Int))) := fun i hi => by
      obtain ⟨l1, l2⟩ := redI_le (x := M35.E Bm n i n * scl M i) hpw
      exact ⟨(redI_fr hpw).1, Nat.lt_of_le_of_lt l1 (hE i hi), Nat.lt_of_le_of_lt l2 hpv⟩
    refine ⟨by rw [List.length_map, List.length_range], fun x hxm => ?_, fun i fs g hM hR => ?_⟩
    · obtain ⟨i, hi, rfl⟩ := List.mem_map.mp hxm
      exact hx i (List.mem_range.mp hi)
    · have hi : i < n := by
        have := (List.getElem?_eq_some_iff.mp hR).1
        rw [ok.lr] at this
        exact this
      obtain ⟨hl, hs⟩ := ok.rows fs (List.mem_of_getElem? hM)
      have sg := ok.rt g (List.mem_of_getElem? hR)
      obtain ⟨hcj, hcn⟩ := col_fac ok i hi
      obtain ⟨i2, hi2, er⟩ := hrow i hi
      have cr := cram Bm n i2 n n4 hi2
      have cr2 : ((List.range n).map fun j => A0 n M rt i j * M35.E Bm n j n).sum = pv Bm n * A0 n M rt i n := by
        rw [er n, ← cr]
        congr 1
        exact List.map_congr_left fun j _ => by rw [er j]
      have cr3 : ((List.range n).map fun j => (A0 n M rt i j : Rat) * (M35.E Bm n j n : Rat)).sum = (pv Bm n : Rat) * (A0 n M rt i n : Rat) := by
        have := congrArg (fun z : Int => (z : Rat)) cr2
        rw [cast_sum, Rat.intCast_mul] at this
        rw [← this]
        exact sum_congr fun j _ => (Rat.intCast_mul _ _).symm
      have p0 := ne_cast hp
      have q0 : (scaleF rt : Rat) ≠ 0 := ne_cast hw0
      have cr4 : ((List.range n).map fun j => qM M i j * vf (redI (M35.E Bm n j n * scl M j) (pv Bm n * (scaleF rt : Int)))).sum = vf g := by
        have e1 : ((List.range n).map fun j => (A0 n M rt i j : Rat) * (M35.E Bm n j n : Rat)).sum = ((List.range n).map fun j => ((pv Bm n : Rat) * (scaleF rt : Rat)) * (qM M i j * vf (redI (M35.E Bm n j n * scl M j) (pv Bm n * (scaleF rt : Int))))).sum := sum_congr fun j hj => by
          rw [hcj j (List.mem_range.mp hj), vf_red hpw, Rat.intCast_mul, Rat.intCast_mul]
          show _ = _ * (_ * (_ / ((pv Bm n : Rat) * (scaleF rt : Rat))))
          grind
        rw [e1, mul_sum] at cr3
        have e2 : rt.getD i (0, 1) = g := by
          rw [List.getD_eq_getElem?_getD, hR]
          rfl
        rw [hcn, e2] at cr3
        generalize ((List.range n).map fun j => qM M i j * vf (redI (M35.E Bm n j n * scl M j) (pv Bm n * (scaleF rt : Int)))).sum = S at cr3 ⊢
        grind
      have zl : (List.zipWith (fun f x => mulF f.1 f.2 x.1 x.2) fs ((List.range n).map fun i => redI (M35.E Bm n i n * scl M i) (pv Bm n * (scaleF rt : Int)))).length = n := by
        rw [List.length_zipWith, hl, List.length_map, List.length_range, Nat.min_self]
      have zget : ∀ j, j < n → ∀ hj : j < fs.length, (List.zipWith (fun f x => mulF f.1 f.2 x.1 x.2) fs ((List.range n).map fun i => redI (M35.E Bm n i n * scl M i) (pv Bm n * (scaleF rt : Int))))[j]? = some (mulF fs[j].1 fs[j].2 (redI (M35.E Bm n j n * scl M j) (pv Bm n * (scaleF rt : Int))).1 (redI (M35.E Bm n j n * scl M j) (pv Bm n * (scaleF rt : Int))).2) := fun j hj hj2 => by
        rw [List.getElem?_zipWith, List.getElem?_eq_getElem hj2, List.getElem?_map, List.getElem?_range hj]
        rfl
      have zs : ∀ z ∈ List.zipWith (fun f x => mulF f.1 f.2 x.1 x.2) fs ((List.range n).map fun i => redI (M35.E Bm n i n * scl M i) (pv Bm n * (scaleF rt : Int))), Sz 880 820 z := fun z hz => by
        obtain ⟨j, hj, e⟩ := List.getElem_of_mem hz
        have hjn : j < n := by omega
        have e2 := zget j hjn (by omega)
        rw [List.getElem?_eq_getElem hj, e] at e2
        rw [Option.some.inj e2]
        exact (hs _ (List.getElem_mem (by omega))).mul (hx j hjn)
      obtain ⟨s1, s2⟩ := sum_sz _ _ zs (Nat.le_refl _)
      rw [List.take_length] at s1 s2
      refine vf_inj s1.fr sg.fr ?_
      rw [s2, ← cr4]
      congr 1
      apply List.ext_getElem?
      intro j
      rw [List.getElem?_map]
      by_cases hj : j < n
      · rw [zget j hj (by omega), List.getElem?_map, List.getElem?_range hj]
        show some (vf (mulF _ _ _ _)) = some (qM M i j * vf _)
        congr 1
        rw [vf_mul (hs _ (List.getElem_mem (by omega))).nd (hx j hj).nd]
        congr 1
        unfold qM
        have z : M.getD i [] = fs := by
          rw [List.getD_eq_getElem?_getD, hM]
          rfl
        rw [z, List.getD_eq_getElem?_getD, List.getElem?_eq_getElem (by omega)]
        rfl
      · rw [List.getElem?_eq_none (by omega), List.getElem?_eq_none (by rw [List.length_map, List.length_range]; omega)]
        rfl
end K35
namespace K35
open PySem PySem.Spec PyProof.Rows L2 Sw M35 StX RZ
/-! data of a size -/
structure Bd (p w : Nat) (d : PyData) : Prop where
  ok : okD d = true
  nd : d.hasDict = false
  dp : d.depth ≤ p
  wt : d.weight ≤ w
theorem bdA {p w : Nat} : ∀ {ds : List PyData}, (∀ d ∈ ds, Bd p w d) → okA ds = true ∧ PyData.hasDictAll ds = false ∧ PyData.depthAll ds ≤ p ∧ PyData.weightAll ds ≤ (w + 1) * ds.length
  | [], _ => ⟨rfl, rfl, Nat.zero_le _, Nat.le_refl _⟩
  | d :: ds, h => by
    obtain ⟨a, b, c, e⟩ := bdA fun x hx => h x (List.mem_cons_of_mem _ hx)
    obtain ⟨a1, b1, c1, e1⟩ := h d List.mem_cons_self
    refine ⟨by simp only [okA, a, a1, Bool.and_self], by simp only [PyData.hasDictAll, b, b1, Bool.or_self], ?_, ?_⟩
    · simp only [PyData.depthAll]
      omega
    · simp only [PyData.weightAll, List.length_cons, Nat.mul_succ]
      omega
theorem bd_seq {p w m : Nat} {ds : List PyData} (h : ∀ d ∈ ds, Bd p w d) (hl : ds.length ≤ m) : Bd (p + 1) ((w + 1) * m) (.list ds) ∧ Bd (p + 1) ((w + 1) * m) (.tuple ds) := by
  obtain ⟨a, b, c, e⟩ := bdA h
  have e2 : PyData.weightAll ds ≤ (w + 1) * m := Nat.le_trans e (Nat.mul_le_mul_left _ hl)
  exact ⟨⟨by simp only [okD]; exact a, by simp only [PyData.hasDict]; exact b, by simp only [PyData.depth]; omega, by simp only [PyData.weight]; exact e2⟩,
    ⟨by simp only [okD]; exact a, by simp only [PyData.hasDict]; exact b, by simp only [PyData.depth]; omega, by simp only [PyData.weight]; exact e2⟩⟩
theorem Bd.mono {p w p' w' : Nat} {d : PyData} (h : Bd p w d) (hp : p ≤ p') (hw : w ≤ w') : Bd p' w' d := ⟨h.ok, h.nd, Nat.le_trans h.dp hp, Nat.le_trans h.wt hw⟩
theorem bd_int {k : Nat} {i : Int} (h : i.natAbs < 2 ^ k) (hk : k ≤ 1600) : Bd 0 k (.int i) := by
  refine ⟨?_, by simp [PyData.hasDict], by simp [PyData.depth], ?_⟩
  · simp only [okD, decide_eq_true_eq]
    exact Nat.lt_of_lt_of_le h (Nat.le_trans (p2 hk) (by decide +kernel))
  · simp only [PyData.weight]
    by_cases hz : i = 0
    · rw [hz]
      exact Nat.zero_le _
    · have hz2 : i.natAbs ≠ 0 := by omega
      have e : i.natAbs.log2 < k := (Nat.log2_lt hz2).mpr h
      split <;> omega
def dF (f : Int × Int) : PyData := .tuple [.int f.1, .int f.2]
theorem bd_fr {a b : Nat} {f : Int × Int} (h : Sz a b f) (ha : a ≤ 1600) (hb : b ≤ 1600) : Bd 1 (a + b + 2) (dF f) := by
  have h1 := bd_int h.n ha
  have h2 := bd_int h.d hb
  unfold dF
  refine ⟨?_, by simp [PyData.hasDict, PyData.hasDictAll], by simp [PyData.depth, PyData.depthAll], ?_⟩
  · simp only [okD, okA, Bool.and_true, Bool.and_eq_true]
    exact ⟨h1.ok, h2.ok⟩
  · have w1 := h1.wt
    have w2 := h2.wt
    simp only [PyData.weight, PyData.weightAll] at w1 w2 ⊢
    omega
theorem Bd.isOk {p w : Nat} {d : PyData} (h : Bd p w d) (hp : p ≤ 50) (hw : w ≤ 27000) : Ok d := ⟨h.ok, Nat.le_trans h.dp hp, Nat.le_trans h.wt hw⟩
def dR (fs : List (Int × Int)) : List PyData := fs.map dF
theorem bd_row {a b : Nat} {fs : List (Int × Int)} (h : ∀ f ∈ fs, Sz a b f) (ha : a ≤ 1600) (hb : b ≤ 1600) (hl : fs.length ≤ 4) : Bd 2 ((a + b + 3) * 4) (.list (dR fs)) ∧ Bd 2 ((a + b + 3) * 4) (.tuple (dR fs)) :=
  bd_seq (p := 1) (w := a + b + 2) (fun d hd => by
    obtain ⟨f, hf, rfl⟩ := List.mem_map.mp hd
    exact bd_fr (h f hf) ha hb) (by unfold dR; rw [List.length_map]; exact hl)
theorem RowF.dts {K : PySem.W.Frag} {mu : Addr → Prop} {H : Hp} : ∀ {vs : List V} {fs : List (Int × Int)}, RowF K H vs fs → DtA K mu H vs (dR fs)
  | [], [], _ => .nil
  | v :: vs, f :: fs, h => .cons h.1.dt (RowF.dts h.2)
  | [], _ :: _, h => h.elim
  | _ :: _, [], h => h.elim
theorem dt_tup {K : PySem.W.Frag} {mu : Addr → Prop} {H : Hp} {r : Addr} {xs : List V} {ds : List PyData} (h : SqT K H r xs) (d : DtA K mu H xs ds) : Dt K mu H (.ref r) (.tuple ds) := by
  rcases h with h | h
  · exact .tup h d
  · exact .tupK h d
theorem dtA_by {K : PySem.W.Frag} {mu : Addr → Prop} {H : Hp} : ∀ {vs : List V} {ds : List PyData}, vs.length = ds.length → (∀ (i : Nat) (v : V) (d : PyData), vs[i]? = some v → ds[i]? = some d → Dt K mu H v d) → DtA K mu H vs ds
  | [], [], _, _ => .nil
  | v :: vs, d :: ds, hl, h => .cons (h 0 v d rfl rfl) (dtA_by (by simpa using hl) fun i v' d' e1 e2 => h (i + 1) v' d' (by simpa using e1) (by simpa using e2))
  | [], _ :: _, hl, _ => by simp at hl
  | _ :: _, [], hl, _ => by simp at hl
theorem RowsF.dts {K : PySem.W.Frag} {mu : Addr → Prop} {H : Hp} {ws : List V} {M : List (List (Int × Int))} (h : RowsF K H ws M) : DtA K mu H ws (M.map fun fs => .tuple (dR fs)) := by
  refine dtA_by (by rw [List.length_map, h.len]) fun i v d e1 e2 => ?_
  obtain ⟨r, fs, xs, rfl, em, hx, hr⟩ := h.row i v e1
  rw [List.getElem?_map, em] at e2
  cases e2
  exact dt_tup hx (RowF.dts hr)
/-- what is shown of the rows -/
def dAll (M : List (List (Int × Int))) (rt : List (Int × Int)) : PyData := .list [.list (M.map fun fs => .tuple (dR fs)), .list (dR rt)]
theorem bd_all {n : Nat} {M : List (List (Int × Int))} {rt : List (Int × Int)} (ok : MatOk n M rt) : Bd 4 3400 (dAll M rt) := by
  have n4 := ok.n4
  have h1 : Bd 3 1652 (.list (M.map fun fs => .tuple (dR fs))) := (bd_seq (p := 2) (w := 412) (m := 4) (fun d hd => by
    obtain ⟨fs, hf, rfl⟩ := List.mem_map.mp hd
    obtain ⟨a, b⟩ := ok.rows fs hf
    exact (bd_row b (by decide) (by decide) (by omega)).2) (by rw [List.length_map, ok.lM]; exact n4)).1
  have h2 : Bd 3 1652 (.list (dR rt)) := ((bd_row ok.rt (by decide) (by decide) (by rw [ok.lr]; exact n4)).1).mono (by decide) (by decide)
  exact ((bd_seq (p := 3) (w := 1652) (m := 2) (fun d hd => by
    simp only [List.mem_cons, List.not_mem_nil, or_false] at hd
    rcases hd with rfl | rfl
    · exact h1
    · exact h2) (Nat.le_refl _)).1).mono (Nat.le_refl _) (by decide)
/-- what is told -/
def dT : Option (List (Int × Int)) → PyData
  | none => .none
  | some xs => .tuple (dR xs)
theorem ResV.dt {K : PySem.W.Frag} {mu : Addr → Prop} {H : Hp} {v : V} {o : Option (List (Int × Int))} (h : ResV K H v o) : Dt K mu H v (dT o) := by
  cases o with
  | none =>
    have h : v = .non := h
    rw [h]
    exact .non
  | some xs =>
    obtain ⟨p, ys, rfl, hx, hr⟩ := h
    exact dt_tup hx (RowF.dts hr)
theorem ResV.same {K : PySem.W.Frag} {H H' : Hp} {v : V} {o : Option (List (Int × Int))} (h : ResV K H v o) (s : Same H H') : ResV K H' v o := by
  cases o with
  | none => exact h
  | some xs =>
    obtain ⟨p, ys, rfl, hx, hr⟩ := h
    exact ⟨p, ys, rfl, s.seqT hx, hr.same s⟩
theorem bd_told {n : Nat} {M : List (List (Int × Int))} {rt : List (Int × Int)} (ok : MatOk n M rt) : Bd 2 6412 (dT (resF n M rt)) := by
  cases h : resF n M rt with
  | none => exact ⟨rfl, by simp [dT, PyData.hasDict], by simp [dT, PyData.depth], by simp [dT, PyData.weight]⟩
  | some xs =>
    obtain ⟨a, b, _⟩ := res_some ok h
    exact (bd_row b (by decide) (by decide) (by rw [a]; exact ok.n4)).2
def spWholeA (K : PySem.W.Frag) : Sp := fun vs H Q E => ∃ n, n ≤ 4 ∧ spWhole K n vs H Q E
theorem whole_any {P : Program} {w : World} {K : PySem.W.Frag} {mg : Str → Option Value} {base : Heap} {k : Nat} {f : Addr} {fd : FuncData} {ps : List Str} (h : ∀ n, n ≤ 4 → FnG P w K mg base k f fd ps (spWhole K n)) : FnG P w K mg base k f fd ps (spWholeA K) :=
  ⟨fun vs H Q E ⟨n, hn, z⟩ => (h n hn).len vs H Q E z, fun g hr e0 hb hv ⟨n, hn, z⟩ => (h n hn).go g hr e0 hb hv z⟩
def spLaw (K : PySem.W.Frag) : Sp := fun vs H Q _ => ∃ (a : Addr) (ns : List Int), vs = [.ref a] ∧ SqL K H a (ns.map V.int) ∧ ns.length ≤ 63 ∧ ∀ H', Q (.bl true) H'
structure Defs (P : Program) (w : World) (K : PySem.W.Frag) (mg : Str → Option Value) (base : Heap) : Prop where
  bag : CalG P w K mg base 1 "_law_bag" (spBag K)
  take : CalG P w K mg base 1 "_law_take" spTake
  some : CalG P w K mg base 2 "_law_some" spSome
  alike : CalG P w K mg base 1 "_law_alike" (spAlike K)
  entry : CalG P w K mg base 4 "_law_entry" (spEntry K)
  mult : CalG P w K mg base 3 "_law_multiplied" (spTwo K mulF)
  whole : CalG P w K mg base 8 "_law_whole" (spWholeA K)
  solved : CalG P w K mg base 3 "solved" (spSolved K)
  isfr : CalG P w K mg base 2 "_law_is_fraction" (spP K isFrac)
  total : CalG P w K mg base 4 "_law_total" (spTotE K)
section
variable {P : Program} {w : World} {K : PySem.W.Frag} {mg : Str → Option Value} {base : Heap}
abbrev slaw : Stmt := topS 26
theorem sc_law : FnScope ["script", "bag", "turn", "many", "rows", "k", "factor", "one", "right", "kept", "whole", "told", "row", "end", "x"] ["script"] (defScope slaw) := ⟨rfl, rfl, rfl, by decide +kernel, rfl, by decide +kernel, by decide +kernel⟩
theorem ok_law {f : Addr} {fd : FuncData} (F : Fun K "law" "law" slaw f fd) (B : Bt mg) (D : Defs P w K mg base) : FnG P w K mg base 9 f fd ["script"] (spLaw K) := by
  refine Fun.okG F sc_law (fun vs H Q E h => ?_) (fun cdv A outer s H vs Q E hg hr h => ?_)
  · obtain ⟨a, ns, rfl, _⟩ := h
    rfl
  obtain ⟨a, ns, rfl, hS, hl, k⟩ := h
  have hu := Room.u64 hr
  have c__law_bag := D.bag
  have c__law_take := D.take
  have c__law_some := D.some
  have c__law_alike := D.alike
  have c__law_entry := D.entry
  have c__law_multiplied := D.mult
  have c__law_whole := D.whole
  have c_solved := D.solved
  have c__law_is_fraction := D.isfr
  have c__law_total := D.total
  refine ⟨_, (pss_cons (ps_set (i := 1) sc_law.nd rfl (Or.inr rfl) (pc c__law_bag hg hr (by decide) (by rfl) (pa_cons (pv 0) pa_nil)))
    (pss_cons (ps_for PassesOwn.never rfl (pi_range1 (by rfl) B.range (pa_cons pe_int pa_nil)) (pg_name (i := 2) sc_law.nd rfl (Or.inl rfl))
      (pss_cons (ps_set (i := 3) sc_law.nd rfl (Or.inr rfl) (pc c__law_some hg hr (by decide) (by rfl) (pa_cons (pv 1) (pa_cons (pe_lst (pa_cons pe_int (pa_cons pe_int (pa_cons pe_int (pa_cons pe_int (pa_cons pe_int pa_nil)))))) pa_nil))))
      (pss_cons (ps_setLc (i := 4) (own := [("k", 5)]) rfl sc_law.nd rfl rfl (sw_true rfl rfl rfl (by decide +kernel)) (pi_range1 (by rfl) B.range (pa_cons (pv 3) pa_nil)) (blkOk_by (own := [("k", 5)]) (N := ["script", "bag", "turn", "many", "rows", "k", "factor", "one", "right", "kept", "whole", "told", "row", "end", "x"]) (sc := (defScope slaw)) (by decide +kernel)) (fun _ _ _ _ _ => (pg_name (i := 5) sc_law.nd rfl (Or.inl rfl))) (fun _ _ _ _ _ => pts_nil) (fun _ _ _ _ _ => (pe_callTy (call_tupK (K := K) rfl) (by rfl) B.tuple bb_tuple (pa_cons (pe_lc (own := [("k", 5)]) rfl sc_law.nd (pi_range1 (by rfl) B.range (pa_cons (pv 3) pa_nil)) (blkOk_by (own := [("k", 5)]) (N := ["script", "bag", "turn", "many", "rows", "k", "factor", "one", "right", "kept", "whole", "told", "row", "end", "x"]) (by rfl)) (fun _ _ _ _ _ => (pg_name (i := 5) sc_law.nd rfl (Or.inl rfl))) (fun _ _ _ _ _ => pts_nil) (fun _ _ _ _ _ => (pc c__law_entry hg hr (by decide) (by rfl) (pa_cons (pv 1) pa_nil)))) pa_nil))))
      (C8.pss_cut (ps_if (PW.pt (pw_and (pt_cmpR op_gt (pv 3) pe_int (nomark _)) (pw_and1 (pt_cmpR op_eq (pc c__law_take hg hr (by decide) (by rfl) (pa_cons (pv 1) (pa_cons pe_int pa_nil))) pe_int (nomark _)))))
        (pss_cons (ps_set (i := 6) sc_law.nd rfl (Or.inr rfl) (pc c__law_entry hg hr (by decide) (by rfl) (pa_cons (pv 1) pa_nil)))
        (pss_one (ps_asg (pe_callTy call_tuple_of (by rfl) B.tuple bb_tuple (pa_cons (pe_lc (own := [("one", 7)]) rfl sc_law.nd (pi_tup (pe_ix ix_list (pv 4) pe_int (fun _ _ => rfl))) (blkOk_by (own := [("one", 7)]) (N := ["script", "bag", "turn", "many", "rows", "k", "factor", "one", "right", "kept", "whole", "told", "row", "end", "x"]) (sc := (defScope slaw)) (by decide +kernel)) (fun _ _ _ _ _ => (pg_name (i := 7) sc_law.nd rfl (Or.inl rfl))) (fun _ _ _ _ _ => pts_nil) (fun _ _ _ _ _ => (pc c__law_multiplied hg hr (by decide) (by rfl) (pa_cons (pv 6) (pa_cons (pv 7) pa_nil))))) pa_nil)) (pg_sub (pv 4) (pe_un un_neg pe_int) set_list))))
        pss_nil)
      (pss_cons (ps_setLc (i := 8) (own := [("k", 5)]) rfl sc_law.nd rfl rfl (sw_true rfl rfl rfl (by decide +kernel)) (pi_range1 (by rfl) B.range (pa_cons (pv 3) pa_nil)) (blkOk_by (own := [("k", 5)]) (N := ["script", "bag", "turn", "many", "rows", "k", "factor", "one", "right", "kept", "whole", "told", "row", "end", "x"]) (sc := (defScope slaw)) (by decide +kernel)) (fun _ _ _ _ _ => (pg_name (i := 5) sc_law.nd rfl (Or.inl rfl))) (fun _ _ _ _ _ => pts_nil) (fun _ _ _ _ _ => (pc c__law_entry hg hr (by decide) (by rfl) (pa_cons (pv 1) pa_nil))))
      (pss_cons (ps_par (i := 9) (j := 10) rfl sc_law.nd rfl rfl (by decide) rfl rfl (pa_cons (pe_callB (call_repr hg hu) (by rfl) B.repr bb_repr (pa_cons (pe_lst (pa_cons (pv 4) (pa_cons (pv 8) pa_nil))) pa_nil)) (pa_cons (pc c__law_whole hg hr (by decide) (by rfl) (pa_cons (pv 4) pa_nil)) pa_nil)) (by rfl))
      (pss_cons (ps_set (i := 11) sc_law.nd rfl (Or.inl rfl) (pc c_solved hg hr (by decide) (by rfl) (pa_cons (pv 4) (pa_cons (pv 8) pa_nil))))
      (pss_cons (ps_if (PW.pt (pw_or (pt_not (pt_val (pc c__law_alike hg hr (by decide) (by rfl) (pa_cons (pc c_solved hg hr (by decide) (by rfl) (pa_cons (pe_callTy call_tuple_of (by rfl) B.tuple bb_tuple (pa_cons (pv 4) pa_nil)) (pa_cons (pe_callTy call_tuple_of (by rfl) B.tuple bb_tuple (pa_cons (pv 8) pa_nil)) pa_nil))) (pa_cons (pv 11) pa_nil))))) (pw_or1 (pt_cmpR op_ne (pe_callB (call_repr hg hu) (by rfl) B.repr bb_repr (pa_cons (pe_lst (pa_cons (pv 4) (pa_cons (pv 8) pa_nil))) pa_nil)) (pv 9) (nomark _)))))
        (pss_one (ps_ret pe_bl))
        pss_nil)
      (pss_cons (ps_if (pt_cmpR op_ne (pe_cmpR op_isN (pv 11) pe_non (nomark _)) (pe_cmpR op_eq (pe_ix ix_tup (pv 10) pe_int (fun _ _ => rfl)) pe_int (nomark _)) (nomark _))
        (pss_one (ps_ret pe_bl))
        pss_nil)
      (pss_one (ps_if (pt_cmpR op_notN (pv 11) pe_non (nomark _))
        (pss_cons (ps_if (PW.pt (pw_or (pt_not (pt_val (pe_callB call_isD (by rfl) B.isin bb_isin (pa_cons (pv 11) (pa_cons (pe_bltn (v := .ty "tuple") rfl B.tuple bb_tuple rfl) pa_nil))))) (pw_or1 (pt_cmpR (op_neNil (K := K) rfl hu) (pe_lc (own := [("one", 7)]) rfl sc_law.nd (pi_tup (pv 11)) (blkOk_by (own := [("one", 7)]) (N := ["script", "bag", "turn", "many", "rows", "k", "factor", "one", "right", "kept", "whole", "told", "row", "end", "x"]) (sc := (defScope slaw)) (by decide +kernel)) (fun _ _ _ _ _ => (pg_name (i := 7) sc_law.nd rfl (Or.inl rfl))) (fun _ _ _ _ _ => (pts_one (pt_not (pt_val (pc c__law_is_fraction hg hr (by decide) (by rfl) (pa_cons (pv 7) pa_nil)))))) (fun _ _ _ _ _ => (pv 7))) (pe_lst pa_nil) (nomark _)))))
          (pss_one (ps_ret pe_bl))
          pss_nil)
        (pss_cons (ps_if (pt_cmpR op_ne (pe_callB call_lenA (by rfl) B.len boot_len (pa_cons (pv 11) pa_nil)) (pv 3) (nomark _))
          (pss_one (ps_ret pe_bl))
          pss_nil)
        (pss_one (ps_for PassesOwn.never rfl (pi_zip (by rfl) B.zip (pa_cons (pv 4) (pa_cons (pv 8) pa_nil))) (pg_tup (n := 2) rfl (pgs_cons (pg_name (i := 12) sc_law.nd rfl (Or.inl rfl)) (pgs_cons (pg_name (i := 13) sc_law.nd rfl (Or.inl rfl)) pgs_nil)))
          (pss_one (ps_if (pt_cmpR (op_neW hu) (pc c__law_total hg hr (by decide) (by rfl) (pa_cons (pe_lc (own := [("one", 7), ("x", 14)]) rfl sc_law.nd (pi_zipA (by rfl) B.zip (pa_cons (pv 12) (pa_cons (pv 11) pa_nil))) (blkOk_by (own := [("one", 7), ("x", 14)]) (N := ["script", "bag", "turn", "many", "rows", "k", "factor", "one", "right", "kept", "whole", "told", "row", "end", "x"]) (sc := (defScope slaw)) (by decide +kernel)) (fun _ _ _ _ _ => (pg_tupK (K := K) (hK := rfl) (n := 2) rfl (pgs_cons (pg_name (i := 7) sc_law.nd rfl (Or.inl rfl)) (pgs_cons (pg_name (i := 14) sc_law.nd rfl (Or.inl rfl)) pgs_nil)))) (fun _ _ _ _ _ => pts_nil) (fun _ _ _ _ _ => (pc c__law_multiplied hg hr (by decide) (by rfl) (pa_cons (pv 7) (pa_cons (pv 14) pa_nil))))) pa_nil)) (pv 13) (nomark _))
            (pss_one (ps_ret pe_bl))
            pss_nil))))))
        pss_nil)))))))))))
    (pss_one (ps_ret pe_bl)))), ?_⟩
  refine ⟨_, rfl, a, ns, rfl, hS, hl, fun b H1 s1 nb hb => ?_⟩
  refine ⟨6, rfl, by decide, by decide, ?_⟩
  refine for_it (walk_range (lo := 0) (n := 6)) (fun i σ H' => ∃ o2 o3 o4 o6 o8 o9 o10 o11 o12 o13, σ = [some (.ref a), some (.ref b), o2, o3, o4, none, o6, none, o8, o9, o10, o11, o12, o13, none] ∧ BagAt H' b) ⟨_, _, _, _, _, _, _, _, _, _, rfl, hb⟩ (fun _ _ _ _ _ => trivial) (fun i x σ H2 H3 hi h y => ?_) fun σ H2 h => ?_
  · obtain ⟨o2, o3, o4, o6, o8, o9, o10, o11, o12, o13, rfl, hb2⟩ := h
    obtain ⟨rfl, hx⟩ := y
    have mE : ∀ {G : Hp}, BagAt G b → MuOk (fun a => a = b ∨ a = sysModules) G := fun h => MuOk.bag h
    -- many
    refine gv_some (K := K) (mu := fun a => a = b ∨ a = sysModules) (D := fun d => ∃ j : Int, d = .int j ∧ 0 ≤ j ∧ j ≤ 4) (n := 5) (.inl rfl) rfl
      (gvA_cons (.inl rfl) (ge_int.gv ⟨2, rfl, by decide, by decide⟩) (gvA_cons (.inl rfl) (ge_int.gv ⟨3, rfl, by decide, by decide⟩) (gvA_cons (.inl rfl) (ge_int.gv ⟨1, rfl, by decide, by decide⟩) (gvA_cons (.inl rfl) (ge_int.gv ⟨4, rfl, by decide, by decide⟩)
        (gvA_cons (.inl rfl) (ge_int.gv ⟨0, rfl, by decide, by decide⟩) gvA_nil))))) (by decide) (by decide) H3 (.refl hb2) (mE hb2) _ fun vj H4 dj hdj R4 hvj _ => ?_
    obtain ⟨j, rfl, j0, j1⟩ := hdj
    cases hvj
    obtain ⟨n, rfl⟩ : ∃ n : Nat, j = n := ⟨j.toNat, by omega⟩
    have n4 : n ≤ 4 := by omega
    clear j0 j1
    have hb4 := R4.bag
    clear R4 hb2
    -- rows
    refine ⟨_, rfl, n, rfl, by omega, by omega, fun D nD => lc_it (walk_range (lo := 0) (n := ((n : Nat) : Int).toNat)) (fun i' H' => ∃ ws M, H' D = some (.lst ws) ∧ RowsF K H' ws M ∧ ws.length = i' ∧ (∀ fs ∈ M, fs.length = n ∧ ∀ f ∈ fs, Sz 40 10 f) ∧ Rel b H4 H') ?_ (fun _ _ _ _ => True.intro) ?_ ?_⟩
    · exact ⟨[], [], upd_same, ⟨rfl, fun j v e => by simp at e⟩, rfl, (fun fs h => nomatch h), Rel.of_same hb4 (same_upd nD)⟩
    · rintro i' x' H5 H6 hi' ⟨ws, M, hD, hM, hl', hs, R5⟩ ⟨rfl, hx'⟩
      have nDb : D ≠ b := fun z => by
        obtain ⟨_, _, _, _, _, q, _⟩ := hb4
        rw [z, q] at nD
        cases nD
      refine ⟨rfl, _, rfl, n, rfl, by omega, by omega, fun D2 nD2 => lc_it (walk_range (lo := 0) (n := ((n : Nat) : Int).toNat)) (fun i2 H' => ∃ xs fs, H' D2 = some (.lst xs) ∧ RowF K H' xs fs ∧ fs.length = i2 ∧ (∀ f ∈ fs, Sz 40 10 f) ∧ Rel b H6 H') ?_ (fun _ _ _ _ => True.intro) ?_ ?_⟩
      · exact ⟨[], [], upd_same, trivial, rfl, (fun f h => nomatch h), Rel.of_same R5.bag (same_upd nD2)⟩
      · rintro i2 x2 H7 H8 hi2 ⟨xs, fs, hD2, hrow, hlen, hsm, R7⟩ ⟨rfl, hx2⟩
        have nD2b : D2 ≠ b := fun z => by
          obtain ⟨_, _, _, _, _, q, _⟩ := R5.bag
          rw [z, q] at nD2
          cases nD2
        refine ⟨rfl, _, rfl, b, (fun a => a = b ∨ a = sysModules), rfl, .inl rfl, R7.bag, mE R7.bag, fun v H8 g sg R8 cg => ?_⟩
        have hD3 := R8.keep _ _ nD2b hD2
        refine ⟨_, hD3, small1000 (by rw [hrow.len]; omega), xs ++ [v], fs ++ [g], upd_same, ?_, by rw [List.length_append, hlen]; rfl, fun f hf => ?_, (R7.trans R8).at R5.bag nD2⟩
        · exact RowF.snoc (cg.fut (fut_at hD3)) ((hrow.fut (R8.fut (mu := fun a => a = b) rfl R7.bag)).fut (fut_at hD3))
        · rcases List.mem_append.mp hf with hf | hf
          · exact hsm f hf
          · rw [List.mem_singleton.mp hf]
            exact sg
      · rintro H7 ⟨xs, fs, hD2, hrow, hlen, hsm, R7⟩
        have hD6 : H7 D = some (.lst ws) := R7.keep _ _ nDb hD
        refine ⟨D2, xs, rfl, .inl ⟨.inl (.inl hD2), fun l nl => ?_⟩⟩
        have sl := same_upd (o := .tup xs) nl
        have R8 := R7.same sl
        have hD8 := sl _ _ hD6
        have fg := fut_grow (ys := ws ++ [V.ref l]) hD8
        refine ⟨ws, hD8, small1000 (by omega), ws ++ [.ref l], M ++ [fs], upd_same, ?_, by rw [List.length_append, hl']; rfl, fun gs hg => ?_, (R5.trans R8).at hb4 nD⟩
        · exact ((hM.fut (R8.fut (mu := fun a => a = b) rfl R5.bag)).fut fg).snoc (seqT_fut (.of upd_same) fg) ((hrow.same sl).fut fg)
        · rcases List.mem_append.mp hg with hg | hg
          · exact hs gs hg
          · rw [List.mem_singleton.mp hg]
            exact ⟨by omega, hsm⟩
    · rintro H5 ⟨ws, M, hD, hM, hl', hs, R5⟩
      have nDb : D ≠ b := fun z => by
        obtain ⟨_, _, _, _, _, q, _⟩ := hb4
        rw [z, q] at nD
        cases nD
      have hb5 := R5.bag
      have okM : SqM n M := ⟨by rw [← hM.len, hl']; omega, fun fs h => ⟨(hs fs h).1, fun f hf => ((hs fs h).2 f hf).mono (by decide) (by decide)⟩⟩
      refine ⟨fun σ H' => ∃ o6 ws M, σ = [some (.ref a), some (.ref b), some x, some (.int n), some (.ref D), none, o6, none, o8, o9, o10, o11, o12, o13, none] ∧ BagAt H' b ∧ H' D = some (.lst ws) ∧ RowsF K H' ws M ∧ SqM n M, ?_, ?_⟩
      · refine ⟨_, rfl, _, _, rfl, rfl, _, rfl, iteP (fun hc => ?_) fun hc => ⟨o6, ws, M, rfl, hb5, hD, hM, okM⟩⟩
        refine ⟨_, rfl, b, 3, rfl, hb5, by decide, by decide, fun t H6 t0 t1 R6 => ⟨rfl, _, rfl, iteEq (fun _ => ?_) fun _ => ?_⟩⟩
        · have hM6 := hM.fut (R6.fut (mu := fun a => a = b) rfl hb5)
          have hD6 := R6.keep _ _ nDb hD
          refine ⟨_, rfl, b, (fun a => a = b ∨ a = sysModules), rfl, .inl rfl, R6.bag, mE R6.bag, fun v H7 g sg R7 cg => ?_⟩
          have hM7 := hM6.fut (R7.fut (mu := fun a => a = b) rfl R6.bag)
          have hD7 := R7.keep _ _ nDb hD6
          have hb7 := R7.bag
          have hwl : ws.length = n := by omega
          have e0 : ws[0]? = some ws[0] := List.getElem?_eq_getElem (by omega)
          obtain ⟨r0, fs0, xs0, er0, em0, hx0, hr0⟩ := hM7.row 0 _ e0
          rw [er0] at e0
          have hfs0 := hs fs0 (List.mem_of_getElem? em0)
          refine ⟨_, rfl, D, ws, 0, .ref r0, rfl, rfl, .inl (.inl hD7), atI_nat (j := 0) e0, r0, rfl, ⟨xs0, hx0⟩, fun D3 nD3 => lc_it (walk_tup (K := K) (xs := xs0) (a := r0)) (fun i' H' => ∃ xs fs, H' D3 = some (.lst xs) ∧ RowF K H' xs fs ∧ fs.length = i' ∧ (∀ f ∈ fs, Sz 80 20 f) ∧ Same H7 H') ?_ (fun i' H' _ h => by
            obtain ⟨_, _, _, _, _, _, s⟩ := h
            exact s.seqT hx0) ?_ ?_⟩
          · exact ⟨[], [], upd_same, trivial, rfl, (fun f h => nomatch h), same_upd nD3⟩
          · rintro i' x' H8 H9 hi' ⟨xs, fs, hD3, hrow, hlen, hsm, s8⟩ ⟨rfl, hx'⟩
            obtain ⟨g2, eg2, cg2⟩ := hr0.get hx'
            have sg2 := hfs0.2 g2 (List.mem_of_getElem? eg2)
            refine ⟨rfl, _, rfl, _, rfl, v, x', g.1, g.2, g2.1, g2.2, rfl, cg.same s8, cg2.same s8, sg.fr, sg2.fr, sg.bn (by decide), sg.bd (by decide), sg2.bn (by decide), sg2.bd (by decide), fun p H9 s9 np hp => ?_⟩
            have hD9 := s9 _ _ hD3
            have hxl := (List.getElem?_eq_some_iff.mp hx').1
            have hr0l := hr0.len
            refine ⟨xs, hD9, small1000 (by rw [hrow.len]; omega), xs ++ [.ref p], fs ++ [mulF g.1 g.2 g2.1 g2.2], upd_same, ?_, by rw [List.length_append, hlen]; rfl, fun f hf => ?_, fun c o e => ?_⟩
            · exact RowF.snoc ((Cpl.mk hp).fut (fut_at hD9)) ((hrow.same s9).fut (fut_at hD9))
            · rcases List.mem_append.mp hf with hf | hf
              · exact hsm f hf
              · rw [List.mem_singleton.mp hf]
                exact sg.mul sg2
            · rw [upd_ne (ne_of_none e nD3)]
              exact s9 _ _ (s8 _ _ e)
          · rintro H8 ⟨xs, fs, hD3, hrow, hlen, hsm, s8⟩
            refine ⟨D3, xs, rfl, .inl ⟨.inl (.inl hD3), fun l nl => ?_⟩⟩
            have sl := same_upd (o := .tup xs) nl
            have hD8 := sl _ _ (s8 _ _ hD7)
            have hM8 := (hM7.same s8).same sl
            have hrow8 := hrow.same sl
            have hl8 : (upd H8 l (.tup xs)) l = some (.tup xs) := upd_same
            have R9 := (((R5.trans R6).trans R7).same s8).same sl
            revert hD8 hM8 hrow8 hl8 R9
            generalize upd H8 l (.tup xs) = H9
            intro hD8 hM8 hrow8 hl8 R9
            have hrl := hrow.len
            have hr0l := hr0.len
            have hf0 := hfs0.1
            refine ⟨_, rfl, 1, rfl, D, ws, (-1), n - 1, rfl, rfl, hD8, ?_, ?_⟩
            · unfold ixN
              rw [if_neg (by decide), if_pos (by omega)]
              congr 1
              omega
            · have fg := fut_grow (ys := ws.set (n - 1) (.ref l)) hD8
              refine ⟨some v, ws.set (n - 1) (.ref l), M.set (n - 1) fs, rfl, ?_, upd_same, ⟨by rw [List.length_set, List.length_set, hM8.len], fun i' v' e => ?_⟩, ⟨by rw [List.length_set, ← hM8.len, hwl], fun fs' h' => ?_⟩⟩
              · exact (R9.at hb4 nD).bag
              · rw [List.getElem?_set] at e
                by_cases h1 : n - 1 = i'
                · subst h1
                  rw [if_pos rfl, if_pos (by omega)] at e
                  cases e
                  exact ⟨l, fs, xs, rfl, by rw [List.getElem?_set, if_pos rfl, if_pos (by rw [← hM8.len]; omega)], seqT_fut (.of hl8) fg, hrow8.fut fg⟩
                · rw [if_neg h1] at e
                  obtain ⟨r', fs', xs', z1, z2, z3, z4⟩ := hM8.row i' v' e
                  exact ⟨r', fs', xs', z1, by rw [List.getElem?_set, if_neg h1]; exact z2, seqT_fut z3 fg, z4.fut fg⟩
              · rcases List.mem_or_eq_of_mem_set h' with h' | h'
                · exact ⟨(hs fs' h').1, fun f hf => ((hs fs' h').2 f hf).mono (by decide) (by decide)⟩
                · subst h'
                  exact ⟨by omega, hsm⟩
        · exact ⟨o6, ws, M, rfl, R6.bag, R6.keep _ _ nDb hD, hM.fut (R6.fut (mu := fun a => a = b) rfl hb5), okM⟩
      · clear hs hD hM hb5 R5 okM hb4 nD hl'
        clear ws M H5
        rintro σ H5 ⟨o6, ws, M, rfl, hb5, hD, hM, ok⟩
        -- right
        refine ⟨_, rfl, n, rfl, by omega, by omega, fun D2 nD2 => lc_it (walk_range (lo := 0) (n := ((n : Nat) : Int).toNat)) (fun i2 H' => ∃ xs fs, H' D2 = some (.lst xs) ∧ RowF K H' xs fs ∧ fs.length = i2 ∧ (∀ f ∈ fs, Sz 40 10 f) ∧ Rel b H5 H') ?_ (fun _ _ _ _ => True.intro) ?_ ?_⟩
        · exact ⟨[], [], upd_same, trivial, rfl, (fun f h => nomatch h), Rel.of_same hb5 (same_upd nD2)⟩
        · rintro i2 x2 H7 H8 hi2 ⟨xs, fs, hD2, hrow, hlen, hsm, R7⟩ ⟨rfl, hx2⟩
          have nD2b : D2 ≠ b := fun z => by
            obtain ⟨_, _, _, _, _, q, _⟩ := hb5
            rw [z, q] at nD2
            cases nD2
          refine ⟨rfl, _, rfl, b, (fun a => a = b ∨ a = sysModules), rfl, .inl rfl, R7.bag, mE R7.bag, fun v H8 g sg R8 cg => ?_⟩
          have hD3 := R8.keep _ _ nD2b hD2
          refine ⟨_, hD3, small1000 (by rw [hrow.len]; omega), xs ++ [v], fs ++ [g], upd_same, ?_, by rw [List.length_append, hlen]; rfl, fun f hf => ?_, (R7.trans R8).at hb5 nD2⟩
          · exact RowF.snoc (cg.fut (fut_at hD3)) ((hrow.fut (R8.fut (mu := fun a => a = b) rfl R7.bag)).fut (fut_at hD3))
          · rcases List.mem_append.mp hf with hf | hf
            · exact hsm f hf
            · rw [List.mem_singleton.mp hf]
              exact sg
        rintro H6 ⟨xs, rt, hR0, hR, hlen, hsm, R6⟩
        have nDb : D ≠ b := fun z => by
          obtain ⟨_, _, _, _, _, q, _⟩ := hb5
          rw [z, q] at hD
          cases hD
          obtain ⟨_, _, _, z2, _⟩ := hM.row 0 _ rfl
          cases z2
        have hD6 := R6.keep _ _ nDb hD
        have hM6 := hM.fut (R6.fut (mu := fun a => a = b) rfl hb5)
        have hb6 := R6.bag
        have mo : MatOk n M rt := ⟨n4, ok.len, by omega, ok.rows, fun f hf => (hsm f hf).mono (by decide) (by decide)⟩
        clear hD hM R6 hb5 hsm nD2 ok
        have ball := bd_all mo
        have oall := ball.isOk (by decide) (by decide)
        have dall : ∀ {G : Hp} {p : Addr}, Same H6 G → G p = some (.lst [.ref D, .ref D2]) → Dt K (fun _ => False) G (.ref p) (dAll M rt) := fun s e =>
          .lst (fun z => z) (.inl e) (.cons (.lst (fun z => z) (.inl (s _ _ hD6)) (hM6.same s).dts) (.cons (.lst (fun z => z) (.inl (s _ _ hR0)) (RowF.dts (hR.same s))) .nil))
        -- kept, whole
        refine ⟨_, rfl, _, rfl, by show 2 ≤ sizeLine; decide, fun p np => ⟨.ref p, (fun _ => False), dAll M rt, rfl, dall (same_upd np) upd_same, oall.show, .inl ball.nd, by have := oall.dp; omega, oall.fits, ?_⟩⟩
        have s7 := same_upd (o := .lst [.ref D, .ref D2]) np
        refine ⟨_, rfl, n, n4, D, ws, M, rfl, .inl (.inl (s7 _ _ hD6)), hM6.same s7, ⟨mo.lM, mo.rows⟩, fun wv H7 f s8 cw sw ew => ?_⟩
        refine ⟨_, _, rfl, ?_⟩
        have s9 := s7.trans s8
        have ew : vf f = detQ n (qM M) := ew
        -- told
        refine ⟨_, rfl, _, rfl, D, D2, ws, xs, n, M, rt, rfl, .inl ⟨.inl (.inl (s9 _ _ hD6)), .inl (.inl (s9 _ _ hR0))⟩, hM6.same s9, hR.same s9, mo, fun tv H8 sA hT => ?_⟩
        have sB := s9.trans sA
        have cw8 := cw.same sA
        have btold := bd_told mo
        have otold := btold.isOk (by decide) (by decide)
        clear s7 s8 s9 sA cw
        -- alike
        refine ⟨_, rfl, D, ws, rfl, .inl ⟨.inl (.inl (sB _ _ hD6)), fun l1 nl1 => ⟨_, rfl, D2, xs, rfl, .inl ⟨.inl (.inl ((sB.trans (same_upd nl1)) _ _ hR0)), fun l2 nl2 => ?_⟩⟩⟩⟩
        have z1 := same_upd (o := .tup ws) nl1
        have z2 := same_upd (o := .tup xs) nl2
        have z3 := z1.trans z2
        have sC := sB.trans z3
        refine ⟨l1, l2, ws, xs, n, M, rt, rfl, .inr ⟨.of (z2 _ _ upd_same), .of upd_same⟩, hM6.same sC, hR.same sC, mo, fun tv2 H9 z4 hT2 => ?_⟩
        have z5 := z3.trans z4
        have sD := sB.trans z5
        refine ⟨_, rfl, tv2, tv, (fun _ => False), dT (resF n M rt), rfl, hT2.dt, (hT.same z5).dt, otold, .inl btold.nd, ?_⟩
        refine ⟨_, rfl, iteF ?_⟩
        have hT9 := hT.same z5
        have cw9 := cw8.same z5
        clear z1 z2 z3 z4 z5 sC sB hT hT2 cw8
        refine ⟨_, rfl, _, rfl, by show 2 ≤ sizeLine; decide, fun p2 np2 => ⟨.ref p2, (fun _ => False), dAll M rt, rfl, dall (sD.trans (same_upd np2)) upd_same, oall.show, .inl ball.nd, by have := oall.dp; omega, oall.fits, ?_⟩⟩
        have zq := same_upd (o := .lst [.ref D, .ref D2]) np2
        have sE := sD.trans zq
        have hT10 := hT9.same zq
        have cw10 := cw9.same zq
        revert sE hT10 cw10
        clear zq sD hT9 cw9
        generalize upd H9 p2 (.lst [.ref D, .ref D2]) = H10
        intro sE hT10 cw10
        obtain ⟨pw, rfl, hpw⟩ := cw10
        refine ⟨_, rfl, rfl, _, rfl, iteN (fun h => absurd h (by simp)) fun _ => ?_⟩
        refine ⟨_, rfl, rfl, _, rfl, pw, _, 0, .int f.1, rfl, rfl, hpw, atI_nat (j := 0) rfl, rfl, rfl, _, rfl, iteN (fun h => ?_) fun _ => ?_⟩
        · refine absurd (congrArg V.bl ?_) (of_decide_eq_false h)
          have v0 := vf_zero (f := f) sw.fr
          cases hr2 : resF n M rt with
          | none =>
            rw [hr2] at hT10
            have hT10 : tv = .non := hT10
            have e := (res_none mo).mp hr2
            rw [← ew] at e
            rw [hT10, v0.mp e]
            rfl
          | some zs =>
            rw [hr2] at hT10
            obtain ⟨p4, ys, rfl, _, _⟩ := hT10
            have e : f.1 ≠ 0 := fun z => by
              have e2 := v0.mpr z
              rw [ew] at e2
              rw [(res_none mo).mpr e2] at hr2
              cases hr2
            rw [decide_eq_false (fun z => nomatch z), decide_eq_false (fun z => e (V.int.inj z))]
        refine ⟨_, rfl, rfl, _, rfl, iteN (fun hne => ?_) fun _ => ⟨_, _, _, _, _, _, _, _, _, _, rfl, hb6.same sE⟩⟩
        cases hr2 : resF n M rt with
        | none =>
          rw [hr2] at hT10
          have hT10 : tv = .non := hT10
          rw [hT10] at hne
          simp at hne
        | some zs =>
        rw [hr2] at hT10
        obtain ⟨p4, ys, rfl, hx4, hr4⟩ := hT10
        obtain ⟨lz, sz, tot⟩ := res_some mo hr2
        rw [hr2] at btold otold
        have dTold : Dt K (fun _ => False) H10 (.ref p4) (.tuple (dR zs)) := dt_tup hx4 (RowF.dts hr4)
        have lys : ys.length = n := hr4.len.trans lz
        -- a tuple of fractions
        refine ⟨_, rfl, _, "tuple", (fun _ => False), _, rfl, by decide, dTold, _, rfl, iteN (fun h => nomatch h) fun _ => ?_⟩
        refine ⟨_, rfl, p4, rfl, ⟨ys, hx4⟩, fun D3 nD3 => lc_it (walk_tup (K := K) (xs := ys) (a := p4)) (fun i' H' => Same H10 H' ∧ H' D3 = some (.lst [])) ⟨same_upd nD3, upd_same⟩ (fun i' H' _ h => h.1.seqT hx4) ?_ ?_⟩
        · rintro i' x' H11 H12 hi' ⟨s11, hD3⟩ ⟨rfl, hx'⟩
          obtain ⟨g, eg, cg⟩ := hr4.get hx'
          have sg := sz g (List.mem_of_getElem? eg)
          have ifr : isFrac (dF g) = true := by
            unfold dF
            have hp := sg.fr.pos
            rw [isFrac_eq, decide_eq_true (show 1 ≤ g.2 by omega), decide_eq_true (gI_cp.mpr sg.fr.cp)]
            rfl
          refine ⟨rfl, _, rfl, x', (fun _ => False), dF g, rfl, (cg.same s11).dt, (bd_fr sg (by decide) (by decide)).isOk (by decide) (by decide), fun H13 s13 => ⟨_, rfl, iteN (fun h => ?_) fun _ => ⟨s11.trans s13, s13 _ _ hD3⟩⟩⟩
          rw [ifr] at h
          cases h
        rintro H11 ⟨s11, hD3⟩
        refine ⟨by show 0 ≤ sizeLine; exact Nat.zero_le _, fun p3 np3 => ⟨D3, p3, [], rfl, rfl, .inl (.inl ((same_upd np3) _ _ hD3)), .inl (.inl upd_same), _, rfl, iteN (fun h => nomatch h) fun _ => ?_⟩⟩
        have sF := (sE.trans s11).trans (same_upd (o := .lst []) np3)
        have s12 := s11.trans (same_upd (o := .lst []) np3)
        have hx5 := s12.seqT hx4
        have hr5 := hr4.same s12
        clear s11 s12 hx4 hr4 dTold hD3 sE
        revert sF hx5 hr5
        generalize upd H11 p3 (.lst []) = H12
        intro sF hx5 hr5
        refine ⟨_, rfl, _, ys.length, rfl, .inr ⟨_, hx5, rfl⟩, _, rfl, rfl, _, rfl, iteNe (fun h => absurd (by rw [lys]) h) fun _ => ?_⟩
        have hD12 := sF _ _ hD6
        have hR12 := sF _ _ hR0
        have hM12 := hM6.same sF
        have hRr := hR.same sF
        have lws : ws.length = n := hM6.len.trans mo.lM
        have lxs : xs.length = n := by rw [hR.len, mo.lr]
        refine ⟨_, rfl, _, rfl, D, D2, ws, xs, rfl, .inl (.inl hD12), .inl (.inl hR12), for_it (walk_zip (K := K) (a := D) (b := D2) (xs := ws) (ys := xs) (n := n) (by omega)) (fun i' σ H' => ∃ o12 o13, σ = [some (.ref a), some (.ref b), some x, some (.int n), some (.ref D), none, o6, none, some (.ref D2), some (.str (dAll M rt).shown), some (.ref pw), some (.ref p4), o12, o13, none] ∧ Same H12 H') ⟨_, _, rfl, .refl _⟩ (fun i' σ H' _ h => by
          obtain ⟨_, _, _, s⟩ := h
          exact ⟨s.seq (.inl (.inl hD12)), s.seq (.inl (.inl hR12))⟩) (fun i' x' σ H13 H14 hi' h y => ?_) fun σ H13 h => ?_⟩
        · obtain ⟨o12, o13, rfl, s13⟩ := h
          obtain ⟨T, x1, y1, rfl, nT, rfl, hx1, hy1⟩ := y
          have hx1 : ws[i']? = some x1 := hx1
          have hy1 : xs[i']? = some y1 := hy1
          obtain ⟨r, fs, qs, rfl, eM, hz, hrow⟩ := hM12.row i' x1 hx1
          obtain ⟨g, eg, cg⟩ := hRr.get hy1
          have sT := s13.trans (same_upd (o := .tup [.ref r, y1]) nT)
          obtain ⟨lf, sf⟩ := mo.rows fs (List.mem_of_getElem? eM)
          have et := tot i' fs g eM eg
          have sgg := mo.rt g (List.mem_of_getElem? eg)
          have lq : qs.length = n := hrow.len.trans lf
          refine ⟨T, _, rfl, .inl (.inl upd_same), rfl, _, _, rfl, _, _, rfl, rfl, ?_⟩
          revert sT
          generalize upd H13 T (.tup [.ref r, y1]) = H14
          intro sT
          have hz14 := sT.seqT hz
          have hx14 := sT.seqT hx5
          have hrow14 := hrow.same sT
          have hr14 := hr5.same sT
          have cg14 := cg.same sT
          clear nT s13
          have zl : (List.zipWith (fun f x => mulF f.1 f.2 x.1 x.2) fs zs).length = n := by rw [List.length_zipWith, lf, lz, Nat.min_self]
          refine ⟨_, rfl, _, rfl, r, p4, qs, ys, rfl, .inr ⟨hz14, hx14, fun D4 nD4 => lc_it (walk_zipT (K := K) (a := r) (b := p4) (xs := qs) (ys := ys) (n := n) (by omega)) (fun j' H' => Same H14 H' ∧ ∃ us, H' D4 = some (.lst us) ∧ us.length = j' ∧ RowF K H' us ((List.zipWith (fun f x => mulF f.1 f.2 x.1 x.2) fs zs).take j')) ?_ (fun j' H' _ h => ⟨h.1.seqT hz14, h.1.seqT hx14⟩) ?_ ?_⟩⟩
          · exact ⟨same_upd nD4, [], upd_same, rfl, trivial⟩
          · rintro j' x' H15 H16 hj' ⟨s15, us, hD4, lus, hus⟩ ⟨T2, x2, y2, rfl, nT2, rfl, hx2, hy2⟩
            have hx2 : qs[j']? = some x2 := hx2
            have hy2 : ys[j']? = some y2 := hy2
            obtain ⟨f2, ef2, cf2⟩ := hrow14.get hx2
            obtain ⟨z2, ez2, cz2⟩ := hr14.get hy2
            have sf2 := sf f2 (List.mem_of_getElem? ef2)
            have sz2 := sz z2 (List.mem_of_getElem? ez2)
            have TD : T2 ≠ D4 := fun e => by
              rw [e, hD4] at nT2
              cases nT2
            have sT2 := same_upd (o := .tup [x2, y2]) nT2
            refine ⟨T2, _, rfl, .inl (.inl upd_same), rfl, _, _, rfl, _, _, rfl, rfl, rfl, ?_⟩
            have s16 := s15.trans sT2
            have hD5 := sT2 _ _ hD4
            have hus5 := hus.same sT2
            revert s16 hD5 hus5
            generalize upd H15 T2 (.tup [x2, y2]) = H16
            intro s16 hD5 hus5
            refine ⟨_, rfl, _, rfl, x2, y2, f2.1, f2.2, z2.1, z2.2, rfl, cf2.same s16, cz2.same s16, sf2.fr, sz2.fr, sf2.bn (by decide), sf2.bd (by decide), sz2.bn (by decide), sz2.bd (by decide), fun p5 H17 s17 np5 hp5 => ?_⟩
            have hD6' := s17 _ _ hD5
            refine ⟨us, hD6', small1000 (by omega), fun c o e => ?_, us ++ [.ref p5], upd_same, by rw [List.length_append, lus]; rfl, ?_⟩
            · rw [upd_ne (ne_of_none e nD4)]
              exact s17 _ _ (s16 _ _ e)
            · have ej : (List.zipWith (fun f x => mulF f.1 f.2 x.1 x.2) fs zs)[j']? = some (mulF f2.1 f2.2 z2.1 z2.2) := by
                rw [List.getElem?_zipWith, ef2, ez2]
              rw [take_snoc ej]
              exact rowF_snoc ((hus5.same s17).fut (fut_at hD6')) ((Cpl.mk hp5).fut (fut_at hD6'))
          · rintro H15 ⟨s15, us, hD4, lus, hus⟩
            rw [List.take_of_length_le (by omega)] at hus
            refine ⟨D4, us, _, rfl, .inl (.inl hD4), hus, fun u hu2 => ?_, by omega, fun v H16 s16 cv => ?_⟩
            · obtain ⟨k2, hk2, ek2⟩ := List.getElem_of_mem hu2
              have hk3 : k2 < n := by omega
              have e3 : (List.zipWith (fun f x => mulF f.1 f.2 x.1 x.2) fs zs)[k2]? = some u := by rw [List.getElem?_eq_getElem hk2, ek2]
              rw [List.getElem?_zipWith, List.getElem?_eq_getElem (show k2 < fs.length by omega), List.getElem?_eq_getElem (show k2 < zs.length by omega)] at e3
              cases e3
              exact (sf _ (List.getElem_mem (by omega))).mul (sz _ (List.getElem_mem (by omega)))
            · rw [et] at cv
              have s17 := s15.trans s16
              refine ⟨_, rfl, (fun _ => False), dF g, dF g, cv.dt, (cg14.same s17).dt, shaped_cpl _ _, shaped_cpl _ _, _, rfl, iteN (fun h => ?_) fun _ => ⟨_, _, rfl, sT.trans s17⟩⟩
              rw [show PyData.eqv (dF g) (dF g) = decide ((g.1, g.2) = (g.1, g.2)) from eqv_cpl _ _ _ _] at h
              simp at h
        · obtain ⟨_, _, rfl, s13⟩ := h
          exact ⟨_, _, _, _, _, _, _, _, _, _, rfl, (hb6.same sF).same s13⟩
  · obtain ⟨_, _, _, _, _, _, _, _, _, _, rfl, _⟩ := h
    exact k H2
end
end K35
namespace K35
open PySem PySem.Spec PyProof.Rows L2 Sw
section
variable {K : PySem.W.Frag} {h : Heap} {mg : Str → Option Value}
/-- the top has written the def x -/
def DefE (K : PySem.W.Frag) (mg : Str → Option Value) (x : Str) (st : Stmt) : Prop := ∃ (f : Addr) (fd : FuncData), Fun K x x st f fd ∧ mg x = some (.ref f) ∧ PySem.W.keepIn K (.ref f) = true
theorem def_mk {x : Str} {st : Stmt} {f : Addr} {oc : Value} {od an : Option Addr} {osl : Array (Option Value)} {kV doc pm cdv ct : Value} (X : K.In h) (G : h.Ns mainGlobals mg) (a : PySem.W.nsIn K mainGlobals x = some (some (.ref f)))
    (l : K.lookup f = some ⟨oc, od, .func (PySem.W.fnOf x x (defArgs st) (defBody st) (defScope st) .none kV doc pm an cdv ct), osl⟩) (c : PySem.W.codeIn K cdv x = true) (k : PySem.W.keepIn K (.ref f) = true) : DefE K mg x st :=
  ⟨f, _, fun_mk l c k, PySem.W.mg_of X G a, k⟩
def DefL (K : PySem.W.Frag) (mg : Str → Option Value) : Prop := ∃ (f : Addr) (fd : FuncData), Fun K "law" "law" slaw f fd ∧ mg "law" = some (.ref f) ∧ ∀ (s : Shared) (v : Value), BindsTo s fd ⟨[v], []⟩ [("script", v)]
theorem law_mk {f : Addr} {oc : Value} {od an : Option Addr} {osl : Array (Option Value)} {kV doc pm cdv ct : Value} (X : K.In h) (G : h.Ns mainGlobals mg) (a : PySem.W.nsIn K mainGlobals "law" = some (some (.ref f)))
    (l : K.lookup f = some ⟨oc, od, .func (PySem.W.fnOf "law" "law" (defArgs slaw) (defBody slaw) (defScope slaw) .none kV doc pm an cdv ct), osl⟩) (c : PySem.W.codeIn K cdv "law" = true) (k : PySem.W.keepIn K (.ref f) = true) : DefL K mg :=
  ⟨f, _, fun_mk l c k, PySem.W.mg_of X G a, fun s v => .of_eq rfl⟩
def BtE (K : PySem.W.Frag) : Prop := ∀ x ∈ (["len", "int", "bool", "str", "tuple", "list", "dict", "isinstance", "repr", "abs", "max", "min", "range", "enumerate", "zip", "sum", "reversed"] : List Str), PySem.W.nsIn K mainGlobals x = some none
theorem BtE.get (b : BtE K) (X : K.In h) (G : h.Ns mainGlobals mg) {x : Str} (hx : x ∈ (["len", "int", "bool", "str", "tuple", "list", "dict", "isinstance", "repr", "abs", "max", "min", "range", "enumerate", "zip", "sum", "reversed"] : List Str)) : mg x = none := PySem.W.mg_none_of X G (b x hx)
theorem bte_mk (z0 : PySem.W.nsIn K mainGlobals "len" = some none) (z1 : PySem.W.nsIn K mainGlobals "int" = some none) (z2 : PySem.W.nsIn K mainGlobals "bool" = some none) (z3 : PySem.W.nsIn K mainGlobals "str" = some none) (z4 : PySem.W.nsIn K mainGlobals "tuple" = some none) (z5 : PySem.W.nsIn K mainGlobals "list" = some none) (z6 : PySem.W.nsIn K mainGlobals "dict" = some none) (z7 : PySem.W.nsIn K mainGlobals "isinstance" = some none) (z8 : PySem.W.nsIn K mainGlobals "repr" = some none) (z9 : PySem.W.nsIn K mainGlobals "abs" = some none) (z10 : PySem.W.nsIn K mainGlobals "max" = some none) (z11 : PySem.W.nsIn K mainGlobals "min" = some none) (z12 : PySem.W.nsIn K mainGlobals "range" = some none) (z13 : PySem.W.nsIn K mainGlobals "enumerate" = some none) (z14 : PySem.W.nsIn K mainGlobals "zip" = some none) (z15 : PySem.W.nsIn K mainGlobals "sum" = some none) (z16 : PySem.W.nsIn K mainGlobals "reversed" = some none) : BtE K := by
  intro x hx
  simp only [List.mem_cons, List.not_mem_nil, or_false] at hx
  rcases hx with rfl | rfl | rfl | rfl | rfl | rfl | rfl | rfl | rfl | rfl | rfl | rfl | rfl | rfl | rfl | rfl | rfl <;> assumption
/-- .. a tuple of two integers -/
def TupE (K : PySem.W.Frag) (mg : Str → Option Value) (x : Str) (n d : Int) : Prop := ∃ z, mg x = some (.ref z) ∧ KTup K z [.int n, .int d]
theorem tup_mk {x : Str} {n d : Int} {z : Addr} {od : Option Addr} {t t' : Tok} {k : Nat} {osl : Array (Option Value)} (X : K.In h) (G : h.Ns mainGlobals mg) (a : PySem.W.nsIn K mainGlobals x = some (some (.ref z)))
    (l : K.lookup z = some ⟨.type "tuple", od, .seq #[.int n t, .int d t'] k, osl⟩) : TupE K mg x n d :=
  ⟨z, PySem.W.mg_of X G a, _, _, _, l, rfl, rfl, (show 2 ≤ sizeLine by decide), .cons ⟨_, rfl⟩ (.cons ⟨_, rfl⟩ .nil)⟩
def GcE (K : PySem.W.Frag) (x : Str) (b : String) : Prop := PySem.W.nsIn K mainGlobals x = some (some (.builtin b))
theorem gc_mk {x : Str} {b : String} (a : PySem.W.nsIn K mainGlobals x = some (some (.builtin b))) : GcE K x b := a
def IntE (K : PySem.W.Frag) (x : Str) (n : Int) : Prop := ∃ t : Tok, PySem.W.nsIn K mainGlobals x = some (some (.int n t))
theorem int_mk {x : Str} {n : Int} {t : Tok} (a : PySem.W.nsIn K mainGlobals x = some (some (.int n t))) : IntE K x n := ⟨t, a⟩
/-- all that the top has written, put together -/
theorem all_mk {P : Program} {w : World} {fa : Addr} (X : K.In h) (G : h.Ns mainGlobals mg) (hfa : mg "law" = some (.ref fa))
    (D0 : DefE K mg "reduced" sreduced)
    (D1 : DefE K mg "solved" ssolved)
    (D2 : DefE K mg "stepped" sstepped)
    (D3 : DefE K mg "tops_over_last" stops_over_last)
    (D4 : DefE K mg "common_multiple" scommon_multiple)
    (D5 : DefE K mg "whole_row" swhole_row)
    (D6 : DefE K mg "pivot_place" spivot_place)
    (D7 : DefE K mg "cleared" scleared)
    (D8 : DefE K mg "_law_bag" s_law_bag)
    (D9 : DefE K mg "_law_take" s_law_take)
    (D10 : DefE K mg "_law_some" s_law_some)
    (D11 : DefE K mg "_law_alike" s_law_alike)
    (D12 : DefE K mg "_law_is_int" s_law_is_int)
    (D13 : DefE K mg "_law_common" s_law_common)
    (D14 : DefE K mg "_law_reduced" s_law_reduced)
    (D15 : DefE K mg "_law_added" s_law_added)
    (D16 : DefE K mg "_law_multiplied" s_law_multiplied)
    (D17 : DefE K mg "_law_total" s_law_total)
    (D18 : DefE K mg "_law_number" s_law_number)
    (D19 : DefE K mg "_law_is_fraction" s_law_is_fraction)
    (D20 : DefE K mg "_law_whole" s_law_whole)
    (D21 : DefE K mg "_law_entry" s_law_entry)
    (DL : DefL K mg)
    (GC : GcE K "gcd" "math.gcd")
    (LC : GcE K "lcm" "math.lcm")
    (Z : BtE K) :
    ∃ fd : FuncData, (∀ (s : Shared) (v : Value), BindsTo s fd ⟨[v], []⟩ [("script", v)]) ∧ ∀ base : Heap, K.In base → base.Ns mainGlobals mg → FnG P w K mg base 9 fa fd ["script"] (spLaw K) := by
  obtain ⟨fL, fdL, FL, mL, bL⟩ := DL
  have e := hfa.symm.trans mL
  cases e
  obtain ⟨f0, fd0, F0, m0, k0⟩ := D0
  have b0 := F0.binds (ps := ["n", "d"]) fun _ _ _ _ _ _ us hl => match us, hl with | [_, _], _ => rfl
  obtain ⟨f1, fd1, F1, m1, k1⟩ := D1
  have b1 := F1.binds (ps := ["rows", "right"]) fun _ _ _ _ _ _ us hl => match us, hl with | [_, _], _ => rfl
  obtain ⟨f2, fd2, F2, m2, k2⟩ := D2
  have b2 := F2.binds (ps := ["grid"]) fun _ _ _ _ _ _ us hl => match us, hl with | [_], _ => rfl
  obtain ⟨f3, fd3, F3, m3, k3⟩ := D3
  have b3 := F3.binds (ps := ["steps"]) fun _ _ _ _ _ _ us hl => match us, hl with | [_], _ => rfl
  obtain ⟨f4, fd4, F4, m4, k4⟩ := D4
  have b4 := F4.binds (ps := ["fractions"]) fun _ _ _ _ _ _ us hl => match us, hl with | [_], _ => rfl
  obtain ⟨f5, fd5, F5, m5, k5⟩ := D5
  have b5 := F5.binds (ps := ["row", "scales"]) fun _ _ _ _ _ _ us hl => match us, hl with | [_, _], _ => rfl
  obtain ⟨f6, fd6, F6, m6, k6⟩ := D6
  have b6 := F6.binds (ps := ["grid", "place"]) fun _ _ _ _ _ _ us hl => match us, hl with | [_, _], _ => rfl
  obtain ⟨f7, fd7, F7, m7, k7⟩ := D7
  have b7 := F7.binds (ps := ["row", "lead", "place", "divisor"]) fun _ _ _ _ _ _ us hl => match us, hl with | [_, _, _, _], _ => rfl
  obtain ⟨f8, fd8, F8, m8, k8⟩ := D8
  have b8 := F8.binds (ps := ["script"]) fun _ _ _ _ _ _ us hl => match us, hl with | [_], _ => rfl
  obtain ⟨f9, fd9, F9, m9, k9⟩ := D9
  have b9 := F9.binds (ps := ["bag", "many"]) fun _ _ _ _ _ _ us hl => match us, hl with | [_, _], _ => rfl
  obtain ⟨f10, fd10, F10, m10, k10⟩ := D10
  have b10 := F10.binds (ps := ["bag", "things"]) fun _ _ _ _ _ _ us hl => match us, hl with | [_, _], _ => rfl
  obtain ⟨f11, fd11, F11, m11, k11⟩ := D11
  have b11 := F11.binds (ps := ["found", "due"]) fun _ _ _ _ _ _ us hl => match us, hl with | [_, _], _ => rfl
  obtain ⟨f12, fd12, F12, m12, k12⟩ := D12
  have b12 := F12.binds (ps := ["thing"]) fun _ _ _ _ _ _ us hl => match us, hl with | [_], _ => rfl
  obtain ⟨f13, fd13, F13, m13, k13⟩ := D13
  have b13 := F13.binds (ps := ["one", "other"]) fun _ _ _ _ _ _ us hl => match us, hl with | [_, _], _ => rfl
  obtain ⟨f14, fd14, F14, m14, k14⟩ := D14
  have b14 := F14.binds (ps := ["n", "d"]) fun _ _ _ _ _ _ us hl => match us, hl with | [_, _], _ => rfl
  obtain ⟨f15, fd15, F15, m15, k15⟩ := D15
  have b15 := F15.binds (ps := ["one", "other"]) fun _ _ _ _ _ _ us hl => match us, hl with | [_, _], _ => rfl
  obtain ⟨f16, fd16, F16, m16, k16⟩ := D16
  have b16 := F16.binds (ps := ["one", "other"]) fun _ _ _ _ _ _ us hl => match us, hl with | [_, _], _ => rfl
  obtain ⟨f17, fd17, F17, m17, k17⟩ := D17
  have b17 := F17.binds (ps := ["fractions"]) fun _ _ _ _ _ _ us hl => match us, hl with | [_], _ => rfl
  obtain ⟨f18, fd18, F18, m18, k18⟩ := D18
  have b18 := F18.binds (ps := ["bag", "most"]) fun _ _ _ _ _ _ us hl => match us, hl with | [_, _], _ => rfl
  obtain ⟨f19, fd19, F19, m19, k19⟩ := D19
  have b19 := F19.binds (ps := ["thing"]) fun _ _ _ _ _ _ us hl => match us, hl with | [_], _ => rfl
  obtain ⟨f20, fd20, F20, m20, k20⟩ := D20
  have b20 := F20.binds (ps := ["rows"]) fun _ _ _ _ _ _ us hl => match us, hl with | [_], _ => rfl
  obtain ⟨f21, fd21, F21, m21, k21⟩ := D21
  have b21 := F21.binds (ps := ["bag"]) fun _ _ _ _ _ _ us hl => match us, hl with | [_], _ => rfl
  have B : Bt mg := ⟨Z.get X G (by decide +kernel), Z.get X G (by decide +kernel), Z.get X G (by decide +kernel), Z.get X G (by decide +kernel), Z.get X G (by decide +kernel), Z.get X G (by decide +kernel), Z.get X G (by decide +kernel), Z.get X G (by decide +kernel), Z.get X G (by decide +kernel), Z.get X G (by decide +kernel), Z.get X G (by decide +kernel), Z.get X G (by decide +kernel), Z.get X G (by decide +kernel), Z.get X G (by decide +kernel), Z.get X G (by decide +kernel)⟩
  have T_sum : mg "sum" = none := Z.get X G (by decide +kernel)
  have T_reversed : mg "reversed" = none := Z.get X G (by decide +kernel)
  have T : Tx mg := ⟨PySem.W.mg_of X G GC, PySem.W.mg_of X G LC⟩
  refine ⟨fdL, bL, fun base hKb _ => ?_⟩
  have C_reduced : CalG P w K mg base 1 "reduced" (spReduced) := ⟨f0, fd0, _, ok_reduced F0 B T, m0, k0, b0⟩
  have C_common_multiple : CalG P w K mg base 1 "common_multiple" (spLcm K) := ⟨f4, fd4, _, ok_common_multiple F4 B T, m4, k4, b4⟩
  have C_whole_row : CalG P w K mg base 1 "whole_row" (spWholeRow K) := ⟨f5, fd5, _, ok_whole_row F5 B, m5, k5, b5⟩
  have C_pivot_place : CalG P w K mg base 1 "pivot_place" (spPivot K) := ⟨f6, fd6, _, ok_pivot_place F6 B, m6, k6, b6⟩
  have C_cleared : CalG P w K mg base 1 "cleared" (spCleared K) := ⟨f7, fd7, _, ok_cleared F7 B, m7, k7, b7⟩
  have C_stepped : CalG P w K mg base 2 "stepped" (spStepped K) := ⟨f2, fd2, _, ok_stepped F2 B C_pivot_place C_cleared, m2, k2, b2⟩
  have C_tops_over_last : CalG P w K mg base 1 "tops_over_last" (spTops K) := ⟨f3, fd3, _, ok_tops_over_last F3 B T_sum T_reversed, m3, k3, b3⟩
  have C_solved : CalG P w K mg base 3 "solved" (spSolved K) := ⟨f1, fd1, _, ok_solved F1 B C_common_multiple C_whole_row C_stepped C_tops_over_last C_reduced, m1, k1, b1⟩
  have C__law_bag : CalG P w K mg base 1 "_law_bag" (spBag K) := ⟨f8, fd8, _, ok__law_bag F8 B, m8, k8, b8⟩
  have C__law_take : CalG P w K mg base 1 "_law_take" (spTake) := ⟨f9, fd9, _, ok__law_take F9 B, m9, k9, b9⟩
  have C__law_some : CalG P w K mg base 2 "_law_some" (spSome) := ⟨f10, fd10, _, ok__law_some F10 B C__law_take, m10, k10, b10⟩
  have C__law_alike : CalG P w K mg base 1 "_law_alike" (spAlike K) := ⟨f11, fd11, _, ok__law_alike F11 B, m11, k11, b11⟩
  have C__law_is_int : CalG P w K mg base 1 "_law_is_int" (spP K isInt) := ⟨f12, fd12, _, ok__law_is_int F12 B, m12, k12, b12⟩
  have C__law_common : CalG P w K mg base 1 "_law_common" (spCommon) := ⟨f13, fd13, _, ok__law_common F13 B, m13, k13, b13⟩
  have C__law_reduced : CalG P w K mg base 2 "_law_reduced" (spRed) := ⟨f14, fd14, _, ok__law_reduced F14 B C__law_common, m14, k14, b14⟩
  have C__law_added : CalG P w K mg base 3 "_law_added" (spTwo K addF) := ⟨f15, fd15, _, ok__law_added F15 B C__law_reduced, m15, k15, b15⟩
  have C__law_multiplied : CalG P w K mg base 3 "_law_multiplied" (spTwo K mulF) := ⟨f16, fd16, _, ok__law_multiplied F16 B C__law_reduced, m16, k16, b16⟩
  have C__law_total : CalG P w K mg base 4 "_law_total" (spTotE K) := ⟨f17, fd17, _, ok__law_total F17 B C__law_added, m17, k17, b17⟩
  have C__law_number : CalG P w K mg base 3 "_law_number" (spNumE K) := ⟨f18, fd18, _, ok__law_number F18 B C__law_take C__law_some C__law_reduced, m18, k18, b18⟩
  have C__law_is_fraction : CalG P w K mg base 2 "_law_is_fraction" (spP K isFrac) := ⟨f19, fd19, _, ok__law_is_fraction F19 B C__law_is_int C__law_common, m19, k19, b19⟩
  have C_wF : CalG P w K mg base 3 "_law_whole" (fun _ _ _ _ => False) := ⟨f20, fd20, _, ⟨fun _ _ _ _ h => h.elim, fun _ _ _ _ _ h => h.elim⟩, m20, k20, b20⟩
  have C_w0 : CalG P w K mg base 4 "_law_whole" (spWhole K 0) := ⟨f20, fd20, _, ok__law_whole0 F20 B C__law_added C__law_multiplied C_wF, m20, k20, b20⟩
  have C_w1 : CalG P w K mg base 5 "_law_whole" (spWhole K 1) := ⟨f20, fd20, _, ok__law_whole (by decide) (by decide) F20 B C__law_added C__law_multiplied C_w0, m20, k20, b20⟩
  have C_w2 : CalG P w K mg base 6 "_law_whole" (spWhole K 2) := ⟨f20, fd20, _, ok__law_whole (by decide) (by decide) F20 B C__law_added C__law_multiplied C_w1, m20, k20, b20⟩
  have C_w3 : CalG P w K mg base 7 "_law_whole" (spWhole K 3) := ⟨f20, fd20, _, ok__law_whole (by decide) (by decide) F20 B C__law_added C__law_multiplied C_w2, m20, k20, b20⟩
  have C_w4 : CalG P w K mg base 8 "_law_whole" (spWhole K 4) := ⟨f20, fd20, _, ok__law_whole (by decide) (by decide) F20 B C__law_added C__law_multiplied C_w3, m20, k20, b20⟩
  have C__law_whole : CalG P w K mg base 8 "_law_whole" (spWholeA K) := ⟨f20, fd20, _, whole_any fun n hn => match n, hn with | 0, _ => (ok__law_whole0 F20 B C__law_added C__law_multiplied C_wF).mono (by decide) | 1, _ => (ok__law_whole (by decide) (by decide) F20 B C__law_added C__law_multiplied C_w0).mono (by decide) | 2, _ => (ok__law_whole (by decide) (by decide) F20 B C__law_added C__law_multiplied C_w1).mono (by decide) | 3, _ => (ok__law_whole (by decide) (by decide) F20 B C__law_added C__law_multiplied C_w2).mono (by decide) | 4, _ => (ok__law_whole (by decide) (by decide) F20 B C__law_added C__law_multiplied C_w3).mono (by decide) | n + 5, h => absurd h (by omega), m20, k20, b20⟩
  have C__law_entry : CalG P w K mg base 4 "_law_entry" (spEntry K) := ⟨f21, fd21, _, ok__law_entry F21 B C__law_take C__law_some C__law_number, m21, k21, b21⟩
  exact ok_law FL B ⟨C__law_bag, C__law_take, C__law_some, C__law_alike, C__law_entry, C__law_multiplied, C__law_whole, C_solved, C__law_is_fraction, C__law_total⟩
end
end K35
open PySem PySem.W PyProof.Rows
set_option maxRecDepth 100000 in
set_option maxHeartbeats 0 in
theorem PySem.Challenge.cw_soldwhole_k35_linear_rows_holds : PySem.Challenge.rw_soldwhole_k35_linear_rows.Holds := by
  w_on; o_law; k_head; (case hw => w_witness2)
  k_fill
  refine Sw.walkG (l := PySem.Challenge.rw_soldwhole_k35_linear_rows) (n := 63) (k := 9) (x := "script") (sp := fun w => K35.spLaw _) rfl (by decide) rfl ⟨rfl, by decide, by decide⟩ (fun w h Y => PySem.W.kIn_of Y) ?F (fun _ _ a ns hl _ _ hS => ⟨a, ns, rfl, hS, hl, fun _ => rfl⟩)
  case F =>
    intro w mg fa h KX G hmg
    refine' K35.all_mk KX G hmg ?D0 ?D1 ?D2 ?D3 ?D4 ?D5 ?D6 ?D7 ?D8 ?D9 ?D10 ?D11 ?D12 ?D13 ?D14 ?D15 ?D16 ?D17 ?D18 ?D19 ?D20 ?D21 ?DL ?GC ?LC ?Z
    (case D0 => (refine' K35.def_mk KX G ?a ?l ?c ?k; (case a => k_is); (case l => k_is); (case c => k_is); (case k => k_is)))
    (case D1 => (refine' K35.def_mk KX G ?a ?l ?c ?k; (case a => k_is); (case l => k_is); (case c => k_is); (case k => k_is)))
    (case D2 => (refine' K35.def_mk KX G ?a ?l ?c ?k; (case a => k_is); (case l => k_is); (case c => k_is); (case k => k_is)))
    (case D3 => (refine' K35.def_mk KX G ?a ?l ?c ?k; (case a => k_is); (case l => k_is); (case c => k_is); (case k => k_is)))
    (case D4 => (refine' K35.def_mk KX G ?a ?l ?c ?k; (case a => k_is); (case l => k_is); (case c => k_is); (case k => k_is)))
    (case D5 => (refine' K35.def_mk KX G ?a ?l ?c ?k; (case a => k_is); (case l => k_is); (case c => k_is); (case k => k_is)))
    (case D6 => (refine' K35.def_mk KX G ?a ?l ?c ?k; (case a => k_is); (case l => k_is); (case c => k_is); (case k => k_is)))
    (case D7 => (refine' K35.def_mk KX G ?a ?l ?c ?k; (case a => k_is); (case l => k_is); (case c => k_is); (case k => k_is)))
    (case D8 => (refine' K35.def_mk KX G ?a ?l ?c ?k; (case a => k_is); (case l => k_is); (case c => k_is); (case k => k_is)))
    (case D9 => (refine' K35.def_mk KX G ?a ?l ?c ?k; (case a => k_is); (case l => k_is); (case c => k_is); (case k => k_is)))
    (case D10 => (refine' K35.def_mk KX G ?a ?l ?c ?k; (case a => k_is); (case l => k_is); (case c => k_is); (case k => k_is)))
    (case D11 => (refine' K35.def_mk KX G ?a ?l ?c ?k; (case a => k_is); (case l => k_is); (case c => k_is); (case k => k_is)))
    (case D12 => (refine' K35.def_mk KX G ?a ?l ?c ?k; (case a => k_is); (case l => k_is); (case c => k_is); (case k => k_is)))
    (case D13 => (refine' K35.def_mk KX G ?a ?l ?c ?k; (case a => k_is); (case l => k_is); (case c => k_is); (case k => k_is)))
    (case D14 => (refine' K35.def_mk KX G ?a ?l ?c ?k; (case a => k_is); (case l => k_is); (case c => k_is); (case k => k_is)))
    (case D15 => (refine' K35.def_mk KX G ?a ?l ?c ?k; (case a => k_is); (case l => k_is); (case c => k_is); (case k => k_is)))
    (case D16 => (refine' K35.def_mk KX G ?a ?l ?c ?k; (case a => k_is); (case l => k_is); (case c => k_is); (case k => k_is)))
    (case D17 => (refine' K35.def_mk KX G ?a ?l ?c ?k; (case a => k_is); (case l => k_is); (case c => k_is); (case k => k_is)))
    (case D18 => (refine' K35.def_mk KX G ?a ?l ?c ?k; (case a => k_is); (case l => k_is); (case c => k_is); (case k => k_is)))
    (case D19 => (refine' K35.def_mk KX G ?a ?l ?c ?k; (case a => k_is); (case l => k_is); (case c => k_is); (case k => k_is)))
    (case D20 => (refine' K35.def_mk KX G ?a ?l ?c ?k; (case a => k_is); (case l => k_is); (case c => k_is); (case k => k_is)))
    (case D21 => (refine' K35.def_mk KX G ?a ?l ?c ?k; (case a => k_is); (case l => k_is); (case c => k_is); (case k => k_is)))
    (case DL => (refine' K35.law_mk KX G ?a ?l ?c ?k; (case a => k_is); (case l => k_is); (case c => k_is); (case k => k_is)))
    (case GC => (refine' K35.gc_mk ?a; (case a => k_is)))
    (case LC => (refine' K35.gc_mk ?a; (case a => k_is)))
    (case Z => (refine' K35.bte_mk ?z0 ?z1 ?z2 ?z3 ?z4 ?z5 ?z6 ?z7 ?z8 ?z9 ?z10 ?z11 ?z12 ?z13 ?z14 ?z15 ?z16; (case z0 => k_is); (case z1 => k_is); (case z2 => k_is); (case z3 => k_is); (case z4 => k_is); (case z5 => k_is); (case z6 => k_is); (case z7 => k_is); (case z8 => k_is); (case z9 => k_is); (case z10 => k_is); (case z11 => k_is); (case z12 => k_is); (case z13 => k_is); (case z14 => k_is); (case z15 => k_is); (case z16 => k_is)))
