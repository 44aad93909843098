import PyProof.Rows.All
import Wide.All
import OpenK.AllK
import Wide.FinOn
import HandS.ForMost
import HandS.IsInst
import HandS.Gcd
import HandS.Wide
import HandS.WideBits
import HandS.Flow
import HandS.TupAny
import HandS.StrMore
import HandS.Conv
import HandS.RaiseMore
import HandS.ExcInit
import HandS.ExcIs
import HandS.ExcField
import HandS.ExcValue
import HandS.EndBits
import HandS.DeepEq
import HandS.Walk
import HandS.Codes
import KE.KExcIs
import PySem.Challenge.RW_soldwhole_k00_errors_and_small_forms
set_option Elab.async false
set_option linter.all false
set_option maxRecDepth 100000
set_option maxHeartbeats 8000000
/-! The guarded layer: a def's promise where no repr is under way (guards = []), so that repr of data may be asked. -/
namespace Sw
open PySem PySem.Spec PyProof.Rows L2

/-- no repr is under way -/
def Gd (A : Around) : Prop := A.guards = some []
theorem Gd.deeper {A : Around} (g : Gd A) (env : Env) : Gd (A.deeper env) := by
  unfold Gd at *
  first
    | exact g
    | (simp [Around.deeper, g])
theorem Gd.make {A : Around} (g : Gd A) (C : Addr) (us : List Value) (kw : List (Str × Value)) : Gd (A.under (.builtin "type.__call__" ⟨.ref C :: us, kw⟩)) := by
  unfold Gd at *
  first
    | exact g
    | (simp [Around.under, Code.guards, Code.isGuard, guardIds, pushGuards, g])
theorem gd_caller : Gd callerA := rfl

/-- the def at f keeps the promise sp, where no repr is under way -/
structure FnG (P : Program) (w : World) (K : PySem.W.Frag) (mg : Str → Option Value) (base : Heap) (k : Nat) (f : Addr) (fd : FuncData) (ps : List Str) (sp : Sp) : Prop where
  len : ∀ vs H Q E, sp vs H Q E → vs.length = ps.length
  go : ∀ {A : Around} {outer : List Env} {s : Shared} {H : Hp} {args : Args} {us : List Value} {vs : List V} {Q : VK} {E : XK},
    Gd A → Room k A → Env0 P w K mg base A outer s H → BindsTo s fd args (ps.zip us) → Vals vs us → sp vs H Q E →
    codeAny (model P w) A (.call (.ref f) args) (CR CX0 outer P w H s Q E) s
section
variable {P : Program} {w : World} {K : PySem.W.Frag} {mg : Str → Option Value} {base : Heap}
theorem FnG.of {k : Nat} {f : Addr} {fd : FuncData} {ps : List Str} {sp : Sp} (F : FnOk P w K mg base CX0 k f fd ps sp) : FnG P w K mg base k f fd ps sp :=
  ⟨F.len, fun _ hr e0 hb hv hs => F.run _ _ _ _ _ _ _ _ _ hr e0 hb hv hs⟩
theorem FnG.mono {j k : Nat} {f : Addr} {fd : FuncData} {ps : List Str} {sp : Sp} (F : FnG P w K mg base j f fd ps sp) (h : j ≤ k) : FnG P w K mg base k f fd ps sp :=
  ⟨F.len, fun g hr => F.go g (hr.mono h)⟩
end
section
variable {X : Cx} {k : Nat} {f : Addr} {fd : FuncData} {ps : List Str} {sp : Sp} {ds : List Value} {dvs : List V} {x : Str} {e : Expr} {es : List Expr} {t : TA} {p pos : Pos}
theorem runG {pins : List (Addr × Obj)} {σ : L2.St} {H : Hp} {s : Shared} {Q : VK} {us : List Value} {vs : List V} (F : FnG X.prog X.w X.K X.mg X.base k f fd ps sp) (g : Gd X.A) (hr : Room k X.A)
    (hb : Binds X.K fd ps ds) (hd : Vals dvs ds) (I : Inv X pins σ H s) (r : Vals vs us) (h : sp (vs ++ dvs) H Q E0) : wpAny (model X.prog X.w) X.A (call (.ref f) us) (EP X pins σ Q) X.xe s := by
  have rr : Vals (vs ++ dvs) (us ++ ds) := r.append hd
  have hz : (us ++ ds).length = ps.length := rr.length.symm.trans (F.len _ _ _ _ h)
  refine wpAny_call (codeAny_mono (F.go g hr I.env0 (hb s us I.kIn hz) rr h) fun res s' z => ?_)
  match res, z with
  | .ok (.ret u), z => exact I.after z
/-- f(e, ..), f a def of the text -/
theorem peG (F : FnG X.prog X.w X.K X.mg X.base k f fd ps sp) (g : Gd X.A) (hr : Room k X.A) (hg : Gl X x) (hm : X.mg x = some (.ref f)) (hk : PySem.W.keepIn X.K (.ref f) = true) (hb : Binds X.K fd ps ds) (hd : Vals dvs ds) (ha : PA X (e :: es) t)
    (hdb : (x == ("__debug__" : Str)) = false := by decide) (he : starEach (e :: es) X.env = (false, eval e X.env) :: starEach es X.env := by rfl) (hpl : (backTo pos (starEach es X.env)).any (·.1) = false := by rfl) :
    PE X (.Call (.Name x p) (e :: es) [] pos) (tCall sp dvs E0 t) :=
  ⟨fun pins s σ H Q I h => wpAny_Call_Name_kw (ld_glob I hg hm (PySem.W.callWith_K (h₀ := X.base) I.ok.mod.kin hk
    (thn (ha.run pos pins s σ H _ I h) fun us s1 z => by obtain ⟨vs, H1, I1, r, q⟩ := z; exact ⟨I1.kIn, runG F g hr hb hd I1 r q⟩) he hpl) hdb)⟩
theorem peG0 (F : FnG X.prog X.w X.K X.mg X.base k f fd ps sp) (g : Gd X.A) (hr : Room k X.A) (hg : Gl X x) (hm : X.mg x = some (.ref f)) (hk : PySem.W.keepIn X.K (.ref f) = true) (hb : Binds X.K fd ps ds) (hd : Vals dvs ds)
    (hdb : (x == ("__debug__" : Str)) = false := by decide) : PE X (.Call (.Name x p) [] [] pos) (tCall sp dvs E0 tNil) :=
  ⟨fun pins s σ H Q I h => wpAny_Call_Name_kw (ld_glob I hg hm (PySem.W.callWith_K0 I.kIn hk (runG (us := []) F g hr hb hd I .nil h)) hdb)⟩
end
section
variable {P : Program} {w : World} {K : PySem.W.Frag} {mg : Str → Option Value} {base : Heap}
/-- a def by its body, where no repr is under way -/
theorem Fun.okG {x qual : Str} {st : Stmt} {f : Addr} {fd : FuncData} {N ps : List Str} {k : Nat} {sp : Sp} (F : Fun K x qual st f fd) (S : FnScope N ps (defScope st)) (len : ∀ vs H Q E, sp vs H Q E → vs.length = ps.length)
    (hbody : ∀ (cdv : Value) (A : Around) (outer : List Env) (s : Shared) (H : Hp) (vs : List V) (Q : VK) (E : XK), Gd (A.deeper (envOfC qual (defScope st) s.heap.objs.size f cdv)) → Room k (A.deeper (envOfC qual (defScope st) s.heap.objs.size f cdv)) → sp vs H Q E →
      ∃ t, PSs (cxOf CX0 P w K mg base N qual (defScope st) f cdv A outer s H E).nox (defBody st) t ∧ t { nx := fun _ H' => Q .non H', rt := Q } (start N vs) H) : FnG P w K mg base (k + 1) f fd ps sp := by
  obtain ⟨oc, od, kV, doc, pm, an, cdv, ct, osl, rfl, lk, hcd⟩ := F.ex
  refine ⟨len, ?_⟩
  intro A outer s H args us vs Q E g hr e0 hb r hs
  have hz := len _ _ _ _ hs
  have up : ∀ b o, base.get? b = some o → s.heap.get? b = some o := fun b o z => (e0.bs b o z).1
  refine codeAny_call_function hr.depth ((e0.mod.kin.keeps up) _ _ lk) rfl S.co S.gen rfl (PySem.W.codeRec_of (e0.mod.kin.keeps up) hcd) (hb _ _ _ _ (wpAny_newFunctionEnv_cells S.kind (fun y hy => ?_) fun env he s1 x1 => ?_))
  · rcases S.par y.1 (List.of_mem_zip (show (y.1, y.2) ∈ ps.zip us from hy)).1 with q | q
    · exact .inl q
    · exact .inr ⟨q, PySem.W.cellsFrom_some _ _ _ (.inl q)⟩
  · subst he
    obtain ⟨t, ht, hq⟩ := hbody cdv A outer s H vs Q E (g.deeper _) (hr.deeper _) hs
    refine ⟨(e0.mod.nolimit.keeps up).keeps x1.toInCall.keep, codeAny_func (wpAny_mono (ht.nox.run [] s1 (start N vs) H _ (inv_start S hr.hd e0 hz r x1) hq) ?_ fun _ _ z => z)⟩
    intro fl s' z
    match fl, z with
    | .ret u, ⟨v, σ', H', J, rv, q⟩ => exact ⟨v, H', J.os, J.bare, J.base, J.hok, rv, q⟩
    | .next, ⟨σ', H', J, q⟩ => exact ⟨.non, H', J.os, J.bare, J.base, J.hok, rfl, q⟩
    | .brk, ⟨_, _, _, q⟩ => exact q.elim
    | .cont, ⟨_, _, _, q⟩ => exact q.elim
end
/-! ### the law's own call -/
section
variable {P : Program} {w : World} {K : PySem.W.Frag} {mg mb : Str → Option Value} {k : Nat} {fa a : Addr} {fd : FuncData} {x : Str} {sp : Sp} {s₁ : Shared} {vs : List Value} {ns : List Int}
/-- the abstract heap in which the script alone is known -/
def scr (a : Addr) (ob : Obj) (ns : List Int) : Hp := fun b => if b = a then some (.frz ob (.lst (ns.map V.int))) else none
theorem scr_at {ob : Obj} : scr a ob ns a = some (.frz ob (.lst (ns.map V.int))) := if_pos rfl
theorem scr_ne {ob : Obj} {b : Addr} (h : b ≠ a) : scr a ob ns b = none := if_neg h
theorem lawFrom (H : Hp) (hO : Only H) (KX : K.In s₁.heap) (hns : s₁.heap.Ns mainGlobals mg) (hb : s₁.heap.Ns builtinsNs mb) (hbb : ∀ y : Str, y ≠ "__name__" → mb y = bootBuiltins y) (hlim : s₁.heap.NoLimit) (hg : s₁.gens = #[])
    (ok : HOk P w H s₁.heap) (nk : ∀ b o, K.lookup b = some o → H b = none) (nd : ∀ b o es ep, s₁.heap.get? b = some o → o.data = .dict es ep → H b = none) (hr : Room k callerA)
    (F : ∀ base : Heap, K.In base → base.Ns mainGlobals mg → FnG P w K mg base k fa fd [x] sp) (hbind : ∀ (s : Shared) (u : Value), BindsTo s fd ⟨[u], []⟩ [(x, u)])
    (hs : sp [.ref a] H (fun v _ => v = .bl true) fun _ _ _ => False) :
    codeAny (model P w) callerA (.call (.ref fa) ⟨[.ref a], []⟩) (fun r s' => r = .ok (.ret (.bool true)) ∧ OldK s₁.heap s'.heap ∧ s'.os = s₁.os ∧ AllBare s'.gens) s₁ := by
  have kIn : K.In (hidT s₁.heap H) := fun b o z => hidT_get (KX b o z) (nk b o z)
  have nsIn : ∀ {b : Addr} {m : Str → Option Value}, s₁.heap.Ns b m → (hidT s₁.heap H).Ns b m := fun {b m} z => by
    obtain ⟨o, es, ep, z1, z2, z3⟩ := z
    exact ⟨o, es, ep, hidT_get z1 (nd b o es ep z1 z2), z2, z3⟩
  have lim : (hidT s₁.heap H).NoLimit := by
    obtain ⟨mc, z1, z2⟩ := hlim
    exact ⟨mc, nsIn z1, z2⟩
  have e0 : Env0 P w K mg (hidT s₁.heap H) callerA [] s₁ H :=
    { frames := rfl, mod := ⟨kIn, nsIn hns, ⟨mb, nsIn hb, hbb⟩, lim⟩, bs := fun _ _ z => of_hidT z, bsz := Nat.le_of_eq (hidT_size _ _), funs := trivial, frf := (fun b z => nomatch z), hok := ok, bare := .of_eq hg }
  refine codeAny_mono ((F _ kIn (nsIn hns)).go (us := [.ref a]) (vs := [.ref a]) gd_caller hr e0 (hbind s₁ (.ref a)) (.cons rfl .nil) hs) fun r s' z => ?_
  match r, z with
  | .ok (.ret u), z =>
    obtain ⟨v, H', zo, zb, un, ok', rv, q⟩ := z
    have q : v = .bl true := q
    subst q
    have eu : u = Value.bool true := rv
    subst eu
    refine ⟨rfl, .of_keep fun b o e => ?_, zo, zb⟩
    rcases hO b with n | ⟨ob, xs, n⟩
    · exact un.keep b o e n (fun z => nomatch z) (fun z => nomatch z)
    · have e1 := (ok b _ n).1
      have e2 := (ok' b _ (un.frzs b ob _ n)).1
      have e3 : o = ob := Option.some.inj (e.symm.trans e1)
      rw [e3]
      exact e2
theorem lawG (KX : K.In s₁.heap) (hns : s₁.heap.Ns mainGlobals mg) (hb : s₁.heap.Ns builtinsNs mb) (hbb : ∀ y : Str, y ≠ "__name__" → mb y = bootBuiltins y) (hlim : s₁.heap.NoLimit) (hg : s₁.gens = #[])
    (ha : s₁.heap.get? a = some { cls := .type "list", data := .seq vs.toArray }) (hi : IntsAre vs ns) (hl : ns.length ≤ sizeLine) (hr : Room k callerA)
    (F : ∀ base : Heap, K.In base → base.Ns mainGlobals mg → FnG P w K mg base k fa fd [x] sp) (hbind : ∀ (s : Shared) (u : Value), BindsTo s fd ⟨[u], []⟩ [(x, u)])
    (hsp : ∀ H : Hp, Only H → SqL K H a (ns.map V.int) → sp [.ref a] H (fun v _ => v = .bl true) fun _ _ _ => False) :
    codeAny (model P w) callerA (.call (.ref fa) ⟨[.ref a], []⟩) (fun r s' => r = .ok (.ret (.bool true)) ∧ OldK s₁.heap s'.heap ∧ s'.os = s₁.os ∧ AllBare s'.gens) s₁ := by
  have rv := vals_ints hi
  have hln := hi.length
  rcases hk : K.lookup a with _ | o
  · refine lawFrom (scr a { cls := .type "list", data := .seq vs.toArray } ns) ?_ KX hns hb hbb hlim hg ?_ ?_ ?_ hr F hbind (hsp _ ?_ (.inl (.inr ⟨_, scr_at⟩)))
    rotate_left
    · intro b u z
      by_cases e : b = a
      · rw [e, scr_at] at z
        cases z
        rw [e]
        exact ⟨ha, by rw [List.length_map]; exact hl, vs, _, rv, ha⟩
      · rw [scr_ne e] at z
        cases z
    · intro b o z
      refine scr_ne fun e => ?_
      rw [e, hk] at z
      cases z
    · intro b o es ep z1 z2
      refine scr_ne fun e => ?_
      rw [e, ha] at z1
      cases z1
      cases z2
    all_goals
      intro b
      by_cases e : b = a
      · exact .inr ⟨_, _, by rw [e]; exact scr_at⟩
      · exact .inl (scr_ne e)
  · have z := KX a o hk
    rw [ha] at z
    cases z
    exact lawFrom (fun _ => none) (fun _ => .inl rfl) KX hns hb hbb hlim hg (fun _ _ z => nomatch z) (fun _ _ _ => rfl) (fun _ _ _ _ _ _ => rfl) hr F hbind
      (hsp _ (fun _ => .inl rfl) (.inr ⟨_, vs.toArray, _, hk, rfl, rfl, rfl, by rw [List.size_toArray, hln]; exact hl, by simpa using rv⟩))
end
theorem walkG {l : PySem.W.OpenLaw} {n k : Nat} {q : Program} {loose : List Str} {XP : (Str → Option Value) → Heap → Prop} {YP : World → Heap → Prop} {d : DefRec} {K : Params → PySem.W.Frag} {sp : World → Sp} {x : Str}
    (hn : l.most = some n) (hn2 : n ≤ sizeLine) (hdf : d.params.defaults = []) (hr : Room k callerA) (hY : ∀ (w : World) (h : Heap), YP w h → (K w.params).In h)
    (F : ∀ (w : World) (mg : Str → Option Value) (fa : Addr) (h : Heap), (K w.params).In h → h.Ns mainGlobals mg → mg d.name = some (.ref fa) →
      ∃ fd : FuncData, (∀ (s : Shared) (u : Value), BindsTo s fd ⟨[u], []⟩ [(x, u)]) ∧
        ∀ base : Heap, (K w.params).In base → base.Ns mainGlobals mg → FnG l.prog w (K w.params) mg base k fa fd [x] (sp w))
    (hsp : ∀ (w : World) (H : Hp) (a : Addr) (ns : List Int), ns.length ≤ n → (∀ z ∈ ns, Builtin.Int.intBits z ≤ 1048576) → Only H → SqL (K w.params) H a (ns.map V.int) → sp w [.ref a] H (fun v _ => v = .bl true) fun _ _ _ => False) :
    PySem.W.WalkO q loose XP YP l.row.toRowW d [] (fun f vs => PySem.call f vs) :=
  Att.attach_callB hn hdf fun w s₀ s₁ mg mb fa o pm cd doc a vs ns G Y ho hd hcd hmg hobj hints hlen hbits hg => by
    obtain ⟨fd, hb, hF⟩ := F w mg fa _ (hY w _ Y) G.T.g hmg
    exact lawG (hY w _ Y) G.T.g G.T.b G.T.builtins G.T.nolimit hg hobj hints (Nat.le_trans hlen hn2) hr hF hb fun H hO hS => hsp w H a ns hlen hbits hO hS
end Sw
/-! Data as a whole over the abstract heap (Dt), what stays (Fut), == and repr of data. -/
namespace Sw
open PySem PySem.Spec PyProof.Rows L2

/-- a tuple of the written part -/
def KTup (K : PySem.W.Frag) (a : Addr) (xs : List V) : Prop :=
  ∃ (o : Obj) (its : Array Value) (n : Nat), K.lookup a = some o ∧ o.cls = .type "tuple" ∧ o.data = .seq its n ∧ its.size ≤ sizeLine ∧ Vals xs its.toList
def keyD : Key → PyData
  | .inl i => .int i
  | .inr x => .str x
mutual
/-- v is the datum d; mu: the lists and dicts that are about to change (none of them is part of d) -/
inductive Dt (K : PySem.W.Frag) (mu : Addr → Prop) (H : Hp) : V → PyData → Prop
  | non : Dt K mu H .non .none
  | bl (b : Bool) : Dt K mu H (.bl b) (.bool b)
  | int (i : Int) : Dt K mu H (.int i) (.int i)
  | str (x : Str) : Dt K mu H (.str x) (.str x)
  | lst {a : Addr} {xs : List V} {ds : List PyData} : ¬ mu a → Rd H a (.lst xs) → DtA K mu H xs ds → Dt K mu H (.ref a) (.list ds)
  | tup {a : Addr} {xs : List V} {ds : List PyData} : Rd H a (.tup xs) → DtA K mu H xs ds → Dt K mu H (.ref a) (.tuple ds)
  | tupK {a : Addr} {xs : List V} {ds : List PyData} : KTup K a xs → DtA K mu H xs ds → Dt K mu H (.ref a) (.tuple ds)
  | dct {a : Addr} {kvs : List (Key × V)} {ds : List (PyData × PyData)} : ¬ mu a → Rd H a (.dK kvs) → DtK K mu H kvs ds → Dt K mu H (.ref a) (.dict ds)
inductive DtA (K : PySem.W.Frag) (mu : Addr → Prop) (H : Hp) : List V → List PyData → Prop
  | nil : DtA K mu H [] []
  | cons {v : V} {vs : List V} {d : PyData} {ds : List PyData} : Dt K mu H v d → DtA K mu H vs ds → DtA K mu H (v :: vs) (d :: ds)
inductive DtK (K : PySem.W.Frag) (mu : Addr → Prop) (H : Hp) : List (Key × V) → List (PyData × PyData) → Prop
  | nil : DtK K mu H [] []
  | cons {k : Key} {v : V} {kvs : List (Key × V)} {d : PyData} {ds : List (PyData × PyData)} : Dt K mu H v d → DtK K mu H kvs ds → DtK K mu H ((k, v) :: kvs) ((keyD k, d) :: ds)
end

/-- what is not about to change stays, and tuples do -/
def Fut (mu : Addr → Prop) (H H' : Hp) : Prop := ∀ a o, H a = some o → (¬ mu a ∨ (∃ xs, o = .tup xs) ∨ ∃ ob u, o = .frz ob u) → H' a = some o
theorem Fut.refl {mu : Addr → Prop} (H : Hp) : Fut mu H H := fun _ _ e _ => e
theorem Fut.trans {mu : Addr → Prop} {H H1 H2 : Hp} (a : Fut mu H H1) (b : Fut mu H1 H2) : Fut mu H H2 := fun x o e h => b x o (a x o e h) h
theorem Fut.of_same {mu : Addr → Prop} {H H' : Hp} (s : Same H H') : Fut mu H H' := fun a o e _ => s a o e
theorem Fut.mono {mu mv : Addr → Prop} {H H' : Hp} (f : Fut mu H H') (h : ∀ a, mu a → mv a) : Fut mv H H' := fun a o e z => f a o e (z.imp (fun n m => n (h a m)) id)
theorem Fut.rd {mu : Addr → Prop} {H H' : Hp} (f : Fut mu H H') {a : Addr} {o : HO} (hm : ¬ mu a) (r : Rd H a o) : Rd H' a o := by
  rcases r with r | ⟨ob, r⟩
  · exact .inl (f a _ r (.inl hm))
  · exact .inr ⟨ob, f a _ r (.inl hm)⟩
theorem Fut.rdT {mu : Addr → Prop} {H H' : Hp} (f : Fut mu H H') {a : Addr} {xs : List V} (r : Rd H a (.tup xs)) : Rd H' a (.tup xs) := by
  rcases r with r | ⟨ob, r⟩
  · exact .inl (f a _ r (.inr (.inl ⟨xs, rfl⟩)))
  · exact .inr ⟨ob, f a _ r (.inr (.inr ⟨ob, _, rfl⟩))⟩
section
variable {K : PySem.W.Frag} {mu mv : Addr → Prop} {H H' : Hp}
mutual
theorem Dt.fut (f : Fut mu H H') : ∀ {v : V} {d : PyData}, Dt K mu H v d → Dt K mu H' v d
  | _, _, .non => .non
  | _, _, .bl b => .bl b
  | _, _, .int i => .int i
  | _, _, .str x => .str x
  | _, _, .lst n r h => .lst n (f.rd n r) (DtA.fut f h)
  | _, _, .tup r h => .tup (f.rdT r) (DtA.fut f h)
  | _, _, .tupK r h => .tupK r (DtA.fut f h)
  | _, _, .dct n r h => .dct n (f.rd n r) (DtK.fut f h)
theorem DtA.fut (f : Fut mu H H') : ∀ {vs : List V} {ds : List PyData}, DtA K mu H vs ds → DtA K mu H' vs ds
  | _, _, .nil => .nil
  | _, _, .cons h t => .cons (Dt.fut f h) (DtA.fut f t)
theorem DtK.fut (f : Fut mu H H') : ∀ {vs : List (Key × V)} {ds : List (PyData × PyData)}, DtK K mu H vs ds → DtK K mu H' vs ds
  | _, _, .nil => .nil
  | _, _, .cons h t => .cons (Dt.fut f h) (DtK.fut f t)
end
mutual
/-- fewer that change -/
theorem Dt.less (f : ∀ a, mv a → mu a) : ∀ {v : V} {d : PyData}, Dt K mu H v d → Dt K mv H v d
  | _, _, .non => .non
  | _, _, .bl b => .bl b
  | _, _, .int i => .int i
  | _, _, .str x => .str x
  | _, _, .lst n r h => .lst (fun z => n (f _ z)) r (DtA.less f h)
  | _, _, .tup r h => .tup r (DtA.less f h)
  | _, _, .tupK r h => .tupK r (DtA.less f h)
  | _, _, .dct n r h => .dct (fun z => n (f _ z)) r (DtK.less f h)
theorem DtA.less (f : ∀ a, mv a → mu a) : ∀ {vs : List V} {ds : List PyData}, DtA K mu H vs ds → DtA K mv H vs ds
  | _, _, .nil => .nil
  | _, _, .cons h t => .cons (Dt.less f h) (DtA.less f t)
theorem DtK.less (f : ∀ a, mv a → mu a) : ∀ {vs : List (Key × V)} {ds : List (PyData × PyData)}, DtK K mu H vs ds → DtK K mv H vs ds
  | _, _, .nil => .nil
  | _, _, .cons h t => .cons (Dt.less f h) (DtK.less f t)
end
mutual
/-- one more that changes, not tracked as yet -/
theorem Dt.more {l : Addr} (n : H l = Option.none) : ∀ {v : V} {d : PyData}, Dt K mu H v d → Dt K (fun a => mu a ∨ a = l) H v d
  | _, _, .non => .non
  | _, _, .bl b => .bl b
  | _, _, .int i => .int i
  | _, _, .str x => .str x
  | _, _, .lst m r h => .lst (fun z => z.elim m fun e => by
      rw [e] at r
      rcases r with r | ⟨_, r⟩ <;> (rw [n] at r; cases r)) r (DtA.more n h)
  | _, _, .tup r h => .tup r (DtA.more n h)
  | _, _, .tupK r h => .tupK r (DtA.more n h)
  | _, _, .dct m r h => .dct (fun z => z.elim m fun e => by
      rw [e] at r
      rcases r with r | ⟨_, r⟩ <;> (rw [n] at r; cases r)) r (DtK.more n h)
theorem DtA.more {l : Addr} (n : H l = Option.none) : ∀ {vs : List V} {ds : List PyData}, DtA K mu H vs ds → DtA K (fun a => mu a ∨ a = l) H vs ds
  | _, _, .nil => .nil
  | _, _, .cons h t => .cons (Dt.more n h) (DtA.more n t)
theorem DtK.more {l : Addr} (n : H l = Option.none) : ∀ {vs : List (Key × V)} {ds : List (PyData × PyData)}, DtK K mu H vs ds → DtK K (fun a => mu a ∨ a = l) H vs ds
  | _, _, .nil => .nil
  | _, _, .cons h t => .cons (Dt.more n h) (DtK.more n t)
end
theorem DtA.length : ∀ {vs : List V} {ds : List PyData}, DtA K mu H vs ds → vs.length = ds.length
  | _, _, .nil => rfl
  | _, _, .cons _ t => by rw [List.length_cons, List.length_cons, DtA.length t]
theorem DtA.get : ∀ {vs : List V} {ds : List PyData} {i : Nat} {v : V}, DtA K mu H vs ds → vs[i]? = some v → ∃ d, ds[i]? = some d ∧ Dt K mu H v d
  | _, _, _, _, .nil, e => by simp at e
  | _, _, 0, _, .cons h _, e => by
    simp at e
    subst e
    exact ⟨_, rfl, h⟩
  | _, _, i + 1, v, .cons _ t, e => by
    obtain ⟨d, h1, h2⟩ := DtA.get (i := i) (v := v) t (by simpa using e)
    exact ⟨d, by simpa using h1, h2⟩
theorem DtA.getD : ∀ {vs : List V} {ds : List PyData} {i : Nat} {d : PyData}, DtA K mu H vs ds → ds[i]? = some d → ∃ v, vs[i]? = some v ∧ Dt K mu H v d
  | _, _, _, _, .nil, e => by simp at e
  | _, _, 0, _, .cons h _, e => by
    simp at e
    subst e
    exact ⟨_, rfl, h⟩
  | _, _, i + 1, v, .cons _ t, e => by
    obtain ⟨d, h1, h2⟩ := DtA.getD (i := i) (d := v) t (by simpa using e)
    exact ⟨d, by simpa using h1, h2⟩
theorem DtA.append : ∀ {vs ws : List V} {ds es : List PyData}, DtA K mu H vs ds → DtA K mu H ws es → DtA K mu H (vs ++ ws) (ds ++ es)
  | _, _, _, _, .nil, s => s
  | _, _, _, _, .cons h t, s => .cons h (DtA.append t s)
theorem DtA.drop : ∀ {vs : List V} {ds : List PyData} (n : Nat), DtA K mu H vs ds → DtA K mu H (vs.drop n) (ds.drop n)
  | _, _, 0, r => r
  | _, _, _ + 1, .nil => .nil
  | _, _, n + 1, .cons _ t => DtA.drop n t
theorem DtA.take : ∀ {vs : List V} {ds : List PyData} (n : Nat), DtA K mu H vs ds → DtA K mu H (vs.take n) (ds.take n)
  | _, _, 0, _ => .nil
  | _, _, _ + 1, .nil => .nil
  | _, _, n + 1, .cons h t => .cons h (DtA.take n t)
theorem DtA.one {vs : List V} {ds : List PyData} (h : DtA K mu H vs ds) (e : ds.length = 1) : ∃ x d, vs = [x] ∧ ds = [d] ∧ Dt K mu H x d := by
  cases h with
  | nil => simp at e
  | cons r1 t =>
    cases t with
    | nil => exact ⟨_, _, rfl, rfl, r1⟩
    | cons _ _ => simp at e
theorem DtA.two {vs : List V} {ds : List PyData} (h : DtA K mu H vs ds) (e : ds.length = 2) : ∃ x y d f, vs = [x, y] ∧ ds = [d, f] ∧ Dt K mu H x d ∧ Dt K mu H y f := by
  cases h with
  | nil => simp at e
  | cons r1 t =>
    obtain ⟨y, f, rfl, rfl, r2⟩ := t.one (by simpa using e)
    exact ⟨_, _, _, _, rfl, rfl, r1, r2⟩
theorem DtA.three {vs : List V} {ds : List PyData} (h : DtA K mu H vs ds) (e : ds.length = 3) : ∃ x y z d f g, vs = [x, y, z] ∧ ds = [d, f, g] ∧ Dt K mu H x d ∧ Dt K mu H y f ∧ Dt K mu H z g := by
  cases h with
  | nil => simp at e
  | cons r1 t =>
    obtain ⟨y, z, f, g, rfl, rfl, r2, r3⟩ := t.two (by simpa using e)
    exact ⟨_, _, _, _, _, _, rfl, rfl, r1, r2, r3⟩
theorem DtA.ints : ∀ (ns : List Int), DtA K mu H (ns.map V.int) (ns.map PyData.int)
  | [] => .nil
  | n :: ns => .cons (.int n) (DtA.ints ns)
theorem DtA.strs : ∀ (ns : List Str), DtA K mu H (ns.map V.str) (ns.map PyData.str)
  | [] => .nil
  | n :: ns => .cons (.str n) (DtA.strs ns)
theorem _root_.L2.Same.seqT {H1 H2 : Hp} (e : Same H1 H2) {a : Addr} {xs : List V} (h : SqT K H1 a xs) : SqT K H2 a xs := by
  rcases h with (h | ⟨o, h⟩) | h
  · exact .inl (.inl (e _ _ h))
  · exact .inl (.inr ⟨o, e _ _ h⟩)
  · exact .inr h
theorem DtA.bls : ∀ (bs : List Bool), DtA K mu H (bs.map V.bl) (bs.map PyData.bool)
  | [] => .nil
  | n :: ns => .cons (.bl n) (DtA.bls ns)
end

/-! ### what the library reads -/
theorem nmem_app {p : Addr → Prop} {as bs : List Addr} (ha : ∀ a ∈ as, ¬ p a) (hb : ∀ a ∈ bs, ¬ p a) : ∀ a ∈ as ++ bs, ¬ p a := fun a h => (List.mem_append.mp h).elim (ha a) (hb a)
theorem nmem_cons {p : Addr → Prop} {b : Addr} {as : List Addr} (hb : ¬ p b) (ha : ∀ a ∈ as, ¬ p a) : ∀ a ∈ b :: as, ¬ p a := fun a h => (List.mem_cons.mp h).elim (fun e => by rw [e]; exact hb) (ha a)
section
variable {X : Cx} {pins : List (Addr × Obj)} {σ : L2.St} {H : Hp} {s : Shared} {mu : Addr → Prop}
theorem Rd.sqL {K : PySem.W.Frag} {a : Addr} {xs : List V} (r : Rd H a (.lst xs)) : SqL K H a xs := .inl r
theorem Rd.sqT {K : PySem.W.Frag} {a : Addr} {xs : List V} (r : Rd H a (.tup xs)) : SqT K H a xs := .inl r
theorem KTup.sqT {K : PySem.W.Frag} {a : Addr} {xs : List V} (r : KTup K a xs) : SqT K H a xs := .inr r
mutual
theorem Dt.reads (I : Inv X pins σ H s) : ∀ (d : PyData) (v : V) (u : Value), Dt X.K mu H v d → RelV v u → ∃ as, Reads s.heap u d as ∧ ∀ a ∈ as, ¬ mu a
  | .none, _, _, h, r => by
    cases h
    cases r
    exact ⟨_, Reads.none, fun _ z => nomatch z⟩
  | .bool b, _, _, h, r => by
    cases h
    cases r
    exact ⟨_, Reads.bool b, fun _ z => nomatch z⟩
  | .int i, _, _, h, r => by
    cases h
    obtain ⟨t, rfl⟩ := r
    exact ⟨_, Reads.int i t, fun _ z => nomatch z⟩
  | .str x, _, _, h, r => by
    cases h
    obtain ⟨t, rfl⟩ := r
    exact ⟨_, Reads.str x t, fun _ z => nomatch z⟩
  | .list ds, _, _, h, r => by
    cases h with
    | lst n rd ha =>
      cases r
      obtain ⟨its, rv, ⟨o, m, ho, hc, _, hd⟩, _⟩ := I.list (Rd.sqL rd)
      obtain ⟨as, hr, hn⟩ := DtA.reads I ds _ its ha rv
      exact ⟨_, Reads.list ho hc hd hr, nmem_cons n hn⟩
  | .tuple ds, _, _, h, r => by
    have key : ∀ {a : Addr} {xs : List V} {u : Value}, SqT X.K H a xs → DtA X.K mu H xs ds → RelV (.ref a) u → ∃ as, Reads s.heap u (.tuple ds) as ∧ ∀ a ∈ as, ¬ mu a := fun {a xs u} hs ha r => by
      cases r
      obtain ⟨its, rv, ⟨o, ho, hc, n, hd⟩, _⟩ := I.tuple hs
      obtain ⟨as, hr, hn⟩ := DtA.reads I ds _ its ha rv
      exact ⟨_, Reads.tuple ho hc hd hr, hn⟩
    cases h with
    | tup rd ha => exact key (Rd.sqT rd) ha r
    | tupK rd ha => exact key (KTup.sqT rd) ha r
  | .dict ds, _, _, h, r => by
    cases h with
    | @dct a kvs _ n rd ha =>
      cases r
      have z : ObjOk X.prog X.w H s.heap a (.dK kvs) := rd.ok I.hok
      obtain ⟨_, _, vs, rel, o, es, ep, ho, hx, hd, _, hp, _⟩ := z
      obtain ⟨as, bs, h1, h2, m1, m2⟩ := DtK.reads I ds kvs vs es.toList ha rel hp
      exact ⟨_, Reads.dict ho hx.1 hd h1 h2, nmem_cons n (nmem_app m1 m2)⟩
theorem DtA.reads (I : Inv X pins σ H s) : ∀ (ds : List PyData) (vs : List V) (us : List Value), DtA X.K mu H vs ds → Vals vs us → ∃ as, ReadsAll s.heap us ds as ∧ ∀ a ∈ as, ¬ mu a
  | [], _, _, h, r => by
    cases h
    cases r
    exact ⟨_, ReadsAll.nil, fun _ z => nomatch z⟩
  | d :: ds, _, _, h, r => by
    cases h with
    | cons h1 h2 =>
      cases r with
      | cons r1 r2 =>
        obtain ⟨as, q1, m1⟩ := Dt.reads I d _ _ h1 r1
        obtain ⟨bs, q2, m2⟩ := DtA.reads I ds _ _ h2 r2
        exact ⟨_, ReadsAll.cons q1 q2, nmem_app m1 m2⟩
theorem DtK.reads (I : Inv X pins σ H s) : ∀ (ds : List (PyData × PyData)) (kvs : List (Key × V)) (vs : List (Key × Value)) (es : List DictEntry), DtK X.K mu H kvs ds → KV kvs vs → Pairs (mixKind X.prog X.w) es vs →
    ∃ as bs, ReadsAll s.heap (es.map (·.key)) (ds.map (·.1)) as ∧ ReadsAll s.heap (es.map (·.val)) (ds.map (·.2)) bs ∧ (∀ a ∈ as, ¬ mu a) ∧ ∀ a ∈ bs, ¬ mu a
  | [], _, _, _, h, r, p => by
    cases h
    cases r
    cases p
    exact ⟨_, _, ReadsAll.nil, ReadsAll.nil, (fun _ z => nomatch z), (fun _ z => nomatch z)⟩
  | (dk, d) :: ds, _, _, _, h, r, p => by
    cases h with
    | @cons k v kvs _ _ h1 h2 =>
      cases r with
      | @cons _ q _ vs r1 r2 =>
        cases p with
        | @cons e _ es _ p1 p2 p3 =>
          obtain ⟨as, q1, m1⟩ := Dt.reads I d _ q.2 h1 r1.2
          obtain ⟨cs, bs, q2, q3, m2, m3⟩ := DtK.reads I ds _ _ _ h2 r2 p3
          have ek : keyIs k e.key = true := by
            have z : keyIs q.1 e.key = true := p1
            rw [← r1.1] at z
            exact z
          have q4 : ∃ as, Reads s.heap e.key (keyD k) as ∧ ∀ a ∈ as, ¬ mu a := by
            rcases keyIs_shape ek with ⟨i, t, z1, z2⟩ | ⟨x, t, z1, z2⟩
            · rw [z1, z2]
              exact ⟨_, Reads.int i t, fun _ z => nomatch z⟩
            · rw [z1, z2]
              exact ⟨_, Reads.str x t, fun _ z => nomatch z⟩
          obtain ⟨a0, q4, m4⟩ := q4
          refine ⟨_, _, ReadsAll.cons q4 q2, ReadsAll.cons (as := as) (by show Reads s.heap e.val d as; rw [p2]; exact q1) q3, nmem_app m4 m2, nmem_app m1 m3⟩
end
end
/-! ### == and repr of data -/
section
variable {X : Cx}
def rEqW (K : PySem.W.Frag) : R2 := fun x y H Q => ∃ mu d e, Dt K mu H x d ∧ Dt K mu H y e ∧ SeqAt.shaped d = true ∧ SeqAt.shaped e = true ∧ Q (.bl (PyData.eqv d e)) H
def rNeW (K : PySem.W.Frag) : R2 := fun x y H Q => ∃ mu d e, Dt K mu H x d ∧ Dt K mu H y e ∧ SeqAt.shaped d = true ∧ SeqAt.shaped e = true ∧ Q (.bl (!PyData.eqv d e)) H
theorem op_eqW (hu : X.A.units + 64 < cLine) : OpR X (compareOp .Eq) (rEqW X.K) := by
  intro pins s σ H x y v u Q I rx ry h
  obtain ⟨mu, d, e, hd, he, sd, se, q⟩ := h
  obtain ⟨as, r1, _⟩ := Dt.reads I d x v hd rx
  obtain ⟨bs, r2, _⟩ := Dt.reads I e y u he ry
  exact SeqAt.compareEq_shaped r1 r2 sd se hu ⟨.bl _, H, I, rfl, q⟩
theorem op_neW (hu : X.A.units + 64 < cLine) : OpR X (compareOp .NotEq) (rNeW X.K) := by
  intro pins s σ H x y v u Q I rx ry h
  obtain ⟨mu, d, e, hd, he, sd, se, q⟩ := h
  obtain ⟨as, r1, _⟩ := Dt.reads I d x v hd rx
  obtain ⟨bs, r2, _⟩ := Dt.reads I e y u he ry
  exact SeqAt.compareNe_shaped r1 r2 sd se hu ⟨.bl _, H, I, rfl, q⟩
/-- == of data, or of one thing with itself -/
def rEqA (K : PySem.W.Frag) : R2 := fun x y H Q => rEqW K x y H Q ∨ (rEqV K x y H Q ∨ rEq x y H Q)
theorem op_eqA (hu : X.A.units + 64 < cLine) : OpR X (compareOp .Eq) (rEqA X.K) := OpR.or (op_eqW hu) (OpR.or (op_eqV hu) op_eq)
def rRepr (K : PySem.W.Frag) : List V → Hp → VK → Prop := fun xs H Q => ∃ (x : V) (mu : Addr → Prop) (d : PyData), xs = [x] ∧ Dt K mu H x d ∧ d.showable = true ∧ (d.hasDict = false ∨ mu sysModules) ∧ d.depth ≤ 60 ∧ d.shown.length ≤ sizeLine ∧ Q (.str d.shown) H
theorem call_repr (hg : Gd X.A) (hu : X.A.units + 64 < cLine) : CallR X (.builtin "repr") (rRepr X.K) := by
  intro pins s σ H xs us Q I r h
  obtain ⟨x, mu, d, rfl, hd, hs, hm, hdp, hl, q⟩ := h
  cases r with
  | @cons _ u _ _ r1 r2 =>
    cases r2
    have fin : ∀ {t : Tok} {tk : Nat}, EP X pins σ Q (.str d.shown t) { s with toks := tk } := fun {t tk} => ⟨.str _, H, I.tok tk, ⟨t, rfl⟩, q⟩
    cases d with
    | none =>
      cases hd
      cases r1
      exact P.repr_of_none fin
    | bool b =>
      cases hd
      cases r1
      exact P.repr_of_bool fin
    | int i =>
      cases hd
      obtain ⟨t, rfl⟩ := r1
      exact P.repr_of_int (of_decide_eq_true hs) fin
    | str y =>
      cases hd
      obtain ⟨t, rfl⟩ := r1
      exact P.repr_of_str fin hl
    | _ =>
      obtain ⟨as, hr, hn⟩ := Dt.reads I _ x u hd r1
      have hu' : ∃ a, u = .ref a := by
        cases hd <;> exact ⟨_, r1⟩
      obtain ⟨a, rfl⟩ := hu'
      exact repr_of_reads' hr hs (fun hz => hm.elim (fun z => by rw [z] at hz; cases hz) fun z y => hn _ y z) hg (by omega) (fun _ _ e => e) (fun h' t tk hk => ⟨.str _, H, (I.kept (h' := h') (t' := tk) hk), ⟨t, rfl⟩, q⟩) hl
end
end Sw
/-! Calls of defs by what they promise; isinstance, len, items of data; the built-ins' names. -/
namespace Sw
open PySem PySem.Spec PyProof.Rows L2

/-- the module's name x is a def that keeps sp -/
structure CalG (P : Program) (w : World) (K : PySem.W.Frag) (mg : Str → Option Value) (base : Heap) (k : Nat) (x : Str) (sp : Sp) : Prop where
  ex : ∃ (f : Addr) (fd : FuncData) (ps : List Str), FnG P w K mg base k f fd ps sp ∧ mg x = some (.ref f) ∧ PySem.W.keepIn K (.ref f) = true ∧ Binds K fd ps []
section
variable {X : Cx} {k j : Nat} {sp : Sp} {x : Str} {e : Expr} {es : List Expr} {t : TA} {p pos : Pos}
theorem pc (c : CalG X.prog X.w X.K X.mg X.base k x sp) (g : Gd X.A) (hr : Room j X.A) (hk : k ≤ j) (hg : Gl X x) (ha : PA X (e :: es) t)
    (hdb : (x == ("__debug__" : Str)) = false := by decide) (he : starEach (e :: es) X.env = (false, eval e X.env) :: starEach es X.env := by rfl) (hpl : (backTo pos (starEach es X.env)).any (·.1) = false := by rfl) :
    PE X (.Call (.Name x p) (e :: es) [] pos) (tCall sp [] E0 t) := by
  obtain ⟨f, fd, ps, F, hm, kp, b⟩ := c.ex
  exact peG F g (hr.mono hk) hg hm kp b .nil ha hdb he hpl
theorem pc0 (c : CalG X.prog X.w X.K X.mg X.base k x sp) (g : Gd X.A) (hr : Room j X.A) (hk : k ≤ j) (hg : Gl X x) (hdb : (x == ("__debug__" : Str)) = false := by decide) :
    PE X (.Call (.Name x p) [] [] pos) (tCall sp [] E0 tNil) := by
  obtain ⟨f, fd, ps, F, hm, kp, b⟩ := c.ex
  exact peG0 F g (hr.mono hk) hg hm kp b .nil hdb
end
theorem Room.u64 {k : Nat} {A : Around} (r : Room k A) : A.units + 64 < cLine := by
  have := r.un
  omega

/-! ### isinstance of data -/
def tyName : PyData → String
  | .none => "NoneType" | .bool _ => "bool" | .int _ => "int" | .str _ => "str" | .list _ => "list" | .tuple _ => "tuple" | .dict _ => "dict"
def isT (T : String) (d : PyData) : Bool := tyName d == T || (tyName d == "bool" && T == "int")
section
variable {K : PySem.W.Frag} {mu : Addr → Prop} {H : Hp}
theorem Dt.tyx {v : V} {d : PyData} (h : Dt K mu H v d) : TyX K H v (.type (tyName d)) := by
  cases h with
  | non => exact .base .non
  | bl b => exact .base (.bl b)
  | int i => exact .base (.int i)
  | str x => exact .base (.str x)
  | lst n r _ =>
    rcases r with r | ⟨o, r⟩
    · exact .base (.lst r)
    · exact .base (.frz r)
  | tup r _ =>
    rcases r with r | ⟨o, r⟩
    · exact .base (.tup r)
    · exact .fTuple r
  | tupK r _ =>
    obtain ⟨o, its, n, h1, h2, _⟩ := r
    exact .kTuple h1 h2
  | dct n r _ =>
    rcases r with r | ⟨o, r⟩
    · exact .base (.dK r)
    · exact .fDict r
end
def tyAsk (T : String) : Bool := ["int", "bool", "str", "list", "tuple", "dict"].contains T
theorem kit_tab : ∀ T ∈ ["int", "bool", "str", "list", "tuple", "dict"], ∀ S ∈ ["NoneType", "bool", "int", "str", "list", "tuple", "dict"], kitB S T = some (S == T || (S == "bool" && T == "int")) := by decide +kernel
theorem tyName_mem (d : PyData) : tyName d ∈ ["NoneType", "bool", "int", "str", "list", "tuple", "dict"] := by
  cases d <;> simp [tyName]
def rIsD (K : PySem.W.Frag) : List V → Hp → VK → Prop := fun xs H Q => ∃ (x : V) (T : String) (mu : Addr → Prop) (d : PyData), xs = [x, .ty T] ∧ T ∈ ["int", "bool", "str", "list", "tuple", "dict"] ∧ Dt K mu H x d ∧ Q (.bl (isT T d)) H
section
variable {X : Cx}
theorem call_isD : CallR X (.builtin "isinstance") (rIsD X.K) := by
  intro pins s σ H xs us Q I r h
  obtain ⟨x, T, mu, d, rfl, hT, hd, q⟩ := h
  exact call_isi pins s σ H _ us Q I r ⟨x, .ty T, _, .type T, _, rfl, .ty T, hd.tyx, kit_ty (kit_tab T hT _ (tyName_mem d)), q⟩

/-! ### len, items -/
def lenD : PyData → Option Nat
  | .str x => some x.length | .list ds => some ds.length | .tuple ds => some ds.length | _ => none
theorem call_lenA : CallR X (.builtin "len") (fun xs H Q => ∃ (x : V) (n : Nat), xs = [x] ∧ LenV X.K x H n ∧ Q (.int n) H) := call_len
theorem lenV_of {K : PySem.W.Frag} {mu : Addr → Prop} {H : Hp} {v : V} {d : PyData} {n : Nat} (h : Dt K mu H v d) (hn : lenD d = some n) (hs : n ≤ sizeLine) : LenV K v H n := by
  cases h with
  | str x =>
    cases hn
    exact ⟨hs, rfl⟩
  | lst m r ha =>
    cases hn
    exact .inl ⟨_, Rd.sqL r, ha.length.symm⟩
  | tup r ha =>
    cases hn
    exact .inr ⟨_, Rd.sqT r, ha.length.symm⟩
  | tupK r ha =>
    cases hn
    exact .inr ⟨_, KTup.sqT r, ha.length.symm⟩
  | _ => cases hn
/-- an item of a tuple, of a list -/
theorem Dt.tupAt {K : PySem.W.Frag} {mu : Addr → Prop} {H : Hp} {v : V} {ds : List PyData} (h : Dt K mu H v (.tuple ds)) : ∃ a xs, v = .ref a ∧ SqT K H a xs ∧ DtA K mu H xs ds := by
  cases h with
  | tup r ha => exact ⟨_, _, rfl, Rd.sqT r, ha⟩
  | tupK r ha => exact ⟨_, _, rfl, KTup.sqT r, ha⟩
theorem Dt.lstAt {K : PySem.W.Frag} {mu : Addr → Prop} {H : Hp} {v : V} {ds : List PyData} (h : Dt K mu H v (.list ds)) : ∃ a xs, v = .ref a ∧ ¬ mu a ∧ Rd H a (.lst xs) ∧ DtA K mu H xs ds := by
  cases h with
  | lst n r ha => exact ⟨_, _, rfl, n, r, ha⟩
/-- o[i] of a list by values (in o[i] op= e), i from 0 on -/
def rGetL (K : PySem.W.Frag) : R2 := fun o i H Q => ∃ (p : Addr) (xs : List V) (j : Nat) (v : V), o = .ref p ∧ i = .int j ∧ SqL K H p xs ∧ xs[j]? = some v ∧ Q v H
theorem get_list : PGet X (rGetL X.K) := by
  intro pins s σ H o i ov iv Q I ro ri h
  obtain ⟨p, xs, j, v, rfl, rfl, hq, he, q⟩ := h
  cases ro
  obtain ⟨t, rfl⟩ := ri
  obtain ⟨its, r, pl, hz⟩ := I.list hq
  obtain ⟨u, eu, ru⟩ := r.get he
  have hn := line63
  have hl := (List.getElem?_eq_some_iff.mp he).1
  exact wpAny_getItem_list pl.isList (by omega) (by omega) (by simpa using eu) ⟨v, H, I, ru, q⟩
end

/-! ### the built-ins' names, not taken by the module -/
structure Bt (mg : Str → Option Value) : Prop where
  len : mg "len" = none
  int : mg "int" = none
  bool : mg "bool" = none
  str : mg "str" = none
  tuple : mg "tuple" = none
  list : mg "list" = none
  dict : mg "dict" = none
  isin : mg "isinstance" = none
  repr : mg "repr" = none
  abs : mg "abs" = none
  max : mg "max" = none
  min : mg "min" = none
  range : mg "range" = none
  enum : mg "enumerate" = none
  zip : mg "zip" = none
theorem bb_abs : bootBuiltins "abs" = some (.builtin "abs") := by decide +kernel
theorem bb_isin : bootBuiltins "isinstance" = some (.builtin "isinstance") := by decide +kernel
theorem bb_repr : bootBuiltins "repr" = some (.builtin "repr") := by decide +kernel
theorem bb_max : bootBuiltins "max" = some (.builtin "max") := by decide +kernel
theorem bb_min : bootBuiltins "min" = some (.builtin "min") := by decide +kernel
theorem bb_len : bootBuiltins "len" = some (.builtin "len") := PySem.boot_len
theorem bb_sum : bootBuiltins "sum" = some (.builtin "sum") := by decide +kernel
theorem bb_all : bootBuiltins "all" = some (.builtin "all") := by decide +kernel
theorem bb_any : bootBuiltins "any" = some (.builtin "any") := by decide +kernel
theorem bb_sorted : bootBuiltins "sorted" = some (.builtin "sorted") := by decide +kernel
theorem bb_divmod : bootBuiltins "divmod" = some (.builtin "divmod") := by decide +kernel
theorem bb_int : bootBuiltins "int" = some (.type "int") := by decide +kernel
theorem bb_bool : bootBuiltins "bool" = some (.type "bool") := by decide +kernel
theorem bb_str : bootBuiltins "str" = some (.type "str") := by decide +kernel
theorem bb_tuple : bootBuiltins "tuple" = some (.type "tuple") := by decide +kernel
theorem bb_list : bootBuiltins "list" = some (.type "list") := by decide +kernel
theorem bb_dict : bootBuiltins "dict" = some (.type "dict") := by decide +kernel
theorem bb_set : bootBuiltins "set" = some (.type "set") := by decide +kernel
theorem bb_VE : bootBuiltins "ValueError" = some (.type "ValueError") := by decide +kernel

/-! ### data of a size that may be shown and compared -/
mutual
def okD : PyData → Bool
  | .none | .bool _ => true
  | .int i => decide (i.natAbs < 10 ^ 500)
  | .str x => PyData.strOk x
  | .list xs | .tuple xs => okA xs
  | .dict kvs => okK kvs
def okA : List PyData → Bool
  | [] => true
  | x :: xs => okD x && okA xs
def okK : List (PyData × PyData) → Bool
  | [] => true
  | (k, v) :: r => okD k && okD v && okK r
end
structure Ok (d : PyData) : Prop where
  ok : okD d = true
  dp : d.depth ≤ 50
  wt : d.weight ≤ 27000
instance (d : PyData) : Decidable (Ok d) := decidable_of_iff (okD d = true ∧ d.depth ≤ 50 ∧ d.weight ≤ 27000) ⟨fun h => ⟨h.1, h.2.1, h.2.2⟩, fun h => ⟨h.ok, h.dp, h.wt⟩⟩
theorem int_short {i : Int} (h : i.natAbs < 10 ^ 500) : (PyData.shown (.int i)).length ≤ 600 := by
  have e := int_text_length_le10 (k := 500) (by decide) h
  show (Str.ofString (toString i)).length ≤ 600
  rw [PySem.ofString_length]
  omega
theorem int_log {i : Int} (h : i.natAbs < 10 ^ 500) : i.natAbs.log2 < 1920 := by
  have e : (10 : Nat) ^ 500 ≤ 2 ^ 1900 := by decide +kernel
  by_cases z : i.natAbs = 0
  · rw [z]
    decide
  · exact Nat.lt_trans ((Nat.log2_lt z).mpr (Nat.lt_of_lt_of_le h e)) (by decide)
mutual
theorem ok_show : ∀ d : PyData, okD d = true → d.showable = true ∧ d.leavesShort 600 = true
  | .none, _ => ⟨rfl, rfl⟩
  | .bool _, _ => ⟨rfl, rfl⟩
  | .int i, h => by
    have h1 : i.natAbs < 10 ^ 500 := by simpa only [okD, decide_eq_true_eq] using h
    exact ⟨by simp only [PyData.showable, decide_eq_true_eq]; exact int_log h1, by simp only [PyData.leavesShort, decide_eq_true_eq]; exact int_short h1⟩
  | .str x, h => ⟨rfl, PyData.leavesShort_of_canLay0 600 (.str x) (by simpa only [okD, PyData.canLay0] using h) rfl⟩
  | .list xs, h => by simpa only [PyData.showable, PyData.leavesShort] using ok_showA xs (by simpa only [okD] using h)
  | .tuple xs, h => by simpa only [PyData.showable, PyData.leavesShort] using ok_showA xs (by simpa only [okD] using h)
  | .dict kvs, h => by simpa only [PyData.showable, PyData.leavesShort] using ok_showK kvs (by simpa only [okD] using h)
theorem ok_showA : ∀ xs : List PyData, okA xs = true → PyData.showableAll xs = true ∧ PyData.leavesShortAll 600 xs = true
  | [], _ => ⟨rfl, rfl⟩
  | x :: xs, h => by
    have h' : okD x = true ∧ okA xs = true := by simpa only [okA, Bool.and_eq_true] using h
    have a := ok_show x h'.1
    have b := ok_showA xs h'.2
    simp only [PyData.showableAll, PyData.leavesShortAll, a.1, a.2, b.1, b.2, Bool.and_self, and_self]
theorem ok_showK : ∀ xs : List (PyData × PyData), okK xs = true → PyData.showableKv xs = true ∧ PyData.leavesShortKv 600 xs = true
  | [], _ => ⟨rfl, rfl⟩
  | (k, v) :: xs, h => by
    have h' : (okD k = true ∧ okD v = true) ∧ okK xs = true := by simpa only [okK, Bool.and_eq_true] using h
    have a := ok_show k h'.1.1
    have c := ok_show v h'.1.2
    have b := ok_showK xs h'.2
    simp only [PyData.showableKv, PyData.leavesShortKv, a.1, a.2, b.1, b.2, c.1, c.2, Bool.and_self, and_self]
end
mutual
theorem ok_lay : ∀ d : PyData, okD d = true → d.hasDict = false → d.canLay0 = true
  | .none, _, _ => rfl
  | .bool _, _, _ => rfl
  | .int i, _, _ => rfl
  | .str x, h, _ => by simpa only [okD, PyData.canLay0] using h
  | .list xs, h, n => by simpa only [PyData.canLay0] using ok_layA xs (by simpa only [okD] using h) (by simpa only [PyData.hasDict] using n)
  | .tuple xs, h, n => by simpa only [PyData.canLay0] using ok_layA xs (by simpa only [okD] using h) (by simpa only [PyData.hasDict] using n)
  | .dict kvs, _, n => by simp [PyData.hasDict] at n
theorem ok_layA : ∀ xs : List PyData, okA xs = true → PyData.hasDictAll xs = false → PyData.canLayAll0 xs = true
  | [], _, _ => rfl
  | x :: xs, h, n => by
    have h' : okD x = true ∧ okA xs = true := by simpa only [okA, Bool.and_eq_true] using h
    have n' : x.hasDict = false ∧ PyData.hasDictAll xs = false := by simpa only [PyData.hasDictAll, Bool.or_eq_false_iff] using n
    simp only [PyData.canLayAll0, ok_lay x h'.1 n'.1, ok_layA xs h'.2 n'.2, Bool.and_self]
end
theorem Ok.show {d : PyData} (h : Ok d) : d.showable = true := (ok_show d h.ok).1
theorem Ok.fits {d : PyData} (h : Ok d) : d.shown.length ≤ sizeLine := by
  have e := PyData.shown_le 600 (by decide) d (ok_show d h.ok).2
  have w := h.wt
  rw [sizeLine_eq]
  omega
theorem Ok.shaped {d : PyData} (h : Ok d) (n : d.hasDict = false) : SeqAt.shaped d = true := by
  have := h.dp
  unfold SeqAt.shaped
  rw [ok_lay d h.ok n, decide_eq_true (by omega)]
  rfl
theorem Ok.repr {K : PySem.W.Frag} {mu : Addr → Prop} {H : Hp} {v : V} {d : PyData} {Q : VK} (h : Ok d) (r : Dt K mu H v d) (n : d.hasDict = false ∨ mu sysModules) (q : Q (.str d.shown) H) : rRepr K [v] H Q :=
  ⟨v, mu, d, rfl, r, h.show, n, by have := h.dp; omega, h.fits, q⟩
theorem eqv_same {d : PyData} (h : d.canLay0 = true) : PyData.eqv d d = true := SeqAt.eqv_refl d h
theorem lay_strs : ∀ {xs : List Str}, (∀ z ∈ xs, PyData.strOk z = true) → PyData.canLayAll0 (xs.map PyData.str) = true ∧ PyData.depthAll (xs.map PyData.str) = 0
  | [], _ => ⟨rfl, rfl⟩
  | x :: xs, h => by
    have e1 : PyData.canLay0 (.str x) = true := by simpa only [PyData.canLay0] using h x List.mem_cons_self
    have e2 := lay_strs fun z hz => h z (List.mem_cons_of_mem _ hz)
    simp only [List.map_cons, PyData.canLayAll0, PyData.depthAll, e1, e2.1, e2.2, PyData.depth, Bool.and_self, Nat.max_self, and_self]
theorem shaped_strs {xs : List Str} (h : ∀ z ∈ xs, PyData.strOk z = true) : SeqAt.shaped (.list (xs.map PyData.str)) = true := by
  have e := lay_strs h
  unfold SeqAt.shaped
  simp only [PyData.canLay0, PyData.depth, e.1, e.2, Bool.true_and]
  decide
/-! ### short words for tests -/
theorem iteNe {A B : Prop} {i j : Int} (h1 : i ≠ j → A) (h2 : i = j → B) : if (!decide (V.int i = V.int j)) = true then A else B := by
  by_cases e : i = j
  · have z : (!decide (V.int i = V.int j)) = false := by rw [e, decide_eq_true rfl]; rfl
    rw [z]
    exact iteF (h2 e)
  · have z : (!decide (V.int i = V.int j)) = true := by rw [decide_eq_false fun q => e (V.int.inj q)]; rfl
    rw [z]
    exact iteT (h1 e)
theorem iteEq {A B : Prop} {i j : Int} (h1 : i = j → A) (h2 : i ≠ j → B) : if decide (V.int i = V.int j) = true then A else B := by
  by_cases e : i = j
  · rw [e, decide_eq_true rfl]
    exact iteT (h1 e)
  · rw [decide_eq_false fun q => e (V.int.inj q)]
    exact iteF (h2 e)
theorem iteP {A B : Prop} {p : Prop} [Decidable p] (h1 : p → A) (h2 : ¬ p → B) : if decide p = true then A else B := by
  by_cases e : p
  · rw [decide_eq_true e]
    exact iteT (h1 e)
  · rw [decide_eq_false e]
    exact iteF (h2 e)
theorem iteB {A B : Prop} {b : Bool} (h1 : b = true → A) (h2 : b = false → B) : if b = true then A else B := by
  cases b with
  | true => exact iteT (h1 rfl)
  | false => exact iteF (h2 rfl)
theorem iteN {A B : Prop} {b : Bool} (h1 : b = false → A) (h2 : b = true → B) : if (!b) = true then A else B := by
  cases b with
  | true => exact iteF (h2 rfl)
  | false => exact iteT (h1 rfl)
theorem dec_int (i j : Int) : decide (V.int i = V.int j) = decide (i = j) := by
  rw [decide_eq_decide]
  exact ⟨V.int.inj, fun e => by rw [e]⟩
theorem okA_mem : ∀ {ds : List PyData} {d : PyData}, okA ds = true → d ∈ ds → okD d = true
  | x :: xs, d, h, m => by
    have h' : okD x = true ∧ okA xs = true := by simpa only [okA, Bool.and_eq_true] using h
    rcases List.mem_cons.mp m with rfl | m
    · exact h'.1
    · exact okA_mem h'.2 m
theorem depthAll_mem : ∀ {ds : List PyData} {d : PyData}, d ∈ ds → d.depth ≤ PyData.depthAll ds
  | x :: xs, d, m => by
    simp only [PyData.depthAll]
    rcases List.mem_cons.mp m with rfl | m
    · omega
    · have := depthAll_mem m
      omega
theorem weightAll_mem : ∀ {ds : List PyData} {d : PyData}, d ∈ ds → d.weight + 1 ≤ PyData.weightAll ds
  | x :: xs, d, m => by
    simp only [PyData.weightAll]
    rcases List.mem_cons.mp m with rfl | m
    · omega
    · have := weightAll_mem m
      omega
theorem Ok.inT {ds : List PyData} {d : PyData} (h : Ok (.tuple ds)) (m : d ∈ ds) : Ok d := by
  have z1 := h.dp
  have z2 := h.wt
  have z3 := h.ok
  simp only [PyData.depth] at z1
  simp only [PyData.weight] at z2
  simp only [okD] at z3
  have y1 := depthAll_mem m
  have y2 := weightAll_mem m
  exact ⟨okA_mem z3 m, by omega, by omega⟩
theorem Ok.inL {ds : List PyData} {d : PyData} (h : Ok (.list ds)) (m : d ∈ ds) : Ok d := by
  have z1 := h.dp
  have z2 := h.wt
  have z3 := h.ok
  simp only [PyData.depth] at z1
  simp only [PyData.weight] at z2
  simp only [okD] at z3
  have y1 := depthAll_mem m
  have y2 := weightAll_mem m
  exact ⟨okA_mem z3 m, by omega, by omega⟩
theorem weight_len : ∀ ds : List PyData, ds.length ≤ PyData.weightAll ds
  | [] => Nat.le_refl _
  | x :: xs => by
    have := weight_len xs
    simp only [PyData.weightAll, List.length_cons]
    omega
theorem Ok.strLen {x : Str} (h : Ok (.str x)) : x.length ≤ 27000 := by
  have := h.wt
  simp only [PyData.weight] at this
  exact this
theorem isTup (d : PyData) : isT "tuple" d = true ↔ ∃ ds, d = .tuple ds := by
  cases d <;> simp [isT, tyName]
theorem isStr (d : PyData) : isT "str" d = true ↔ ∃ x, d = .str x := by
  cases d <;> simp [isT, tyName]
theorem isLst (d : PyData) : isT "list" d = true ↔ ∃ ds, d = .list ds := by
  cases d <;> simp [isT, tyName]
theorem isIntD (d : PyData) : (isT "int" d && !isT "bool" d) = true ↔ ∃ i, d = .int i := by
  cases d <;> simp [isT, tyName]
end Sw
/-! Mathematics of names and common divisors. -/
namespace Sw
open PySem PySem.Spec PyProof.Rows L2

def low (c : Nat) : Bool := decide (97 ≤ c ∧ c ≤ 122)
theorem low_tab : ∀ c, c < 128 → (Unicode.isAlpha c && !(Unicode.isUpper c || Unicode.isTitle c)) = low c ∧ (low c = true → Unicode.isLower c = true) := by decide +kernel
theorem low_lt {c : Nat} (h : low c = true) : c < 128 := by
  have z := of_decide_eq_true h
  omega
/-- what is_name asks of a text's signs, both ways -/
theorem name_two (cs : List Nat) (h : cs ≠ []) : (cs.all (· < 128) && (cs.all Unicode.isAlpha && (cs.any Unicode.isLower && !cs.any fun c => Unicode.isUpper c || Unicode.isTitle c))) = cs.all low := by
  rw [Bool.eq_iff_iff]
  constructor
  · intro z
    simp only [Bool.and_eq_true, List.all_eq_true, decide_eq_true_eq, Bool.not_eq_true', List.any_eq_false] at z
    obtain ⟨z1, z2, z3, z4⟩ := z
    rw [List.all_eq_true]
    intro c hc
    have e := (low_tab c (z1 c hc)).1
    rw [← e, z2 c hc]
    simpa using z4 c hc
  · intro z
    rw [List.all_eq_true] at z
    have key : ∀ c ∈ cs, c < 128 ∧ Unicode.isAlpha c = true ∧ (Unicode.isUpper c || Unicode.isTitle c) = false ∧ Unicode.isLower c = true := fun c hc => by
      have l := low_lt (z c hc)
      have e := low_tab c l
      rw [z c hc] at e
      have e1 := e.1
      rw [Bool.and_eq_true, Bool.not_eq_true'] at e1
      exact ⟨l, e1.1, e1.2, e.2 rfl⟩
    simp only [Bool.and_eq_true, List.all_eq_true, decide_eq_true_eq, Bool.not_eq_true', List.any_eq_false, List.any_eq_true]
    obtain ⟨c, hc⟩ := List.exists_mem_of_ne_nil cs h
    exact ⟨fun c hc => (key c hc).1, fun c hc => (key c hc).2.1, ⟨c, hc, (key c hc).2.2.2⟩, fun c hc => by simpa using (key c hc).2.2.1⟩
/-- a NAME's text -/
def nameS (x : Str) : Bool := decide (1 ≤ x.length) && decide (x.length ≤ 12) && x.cps.toList.all low
theorem name_txt (x : Str) (h : 1 ≤ x.length) : (Txt.isascii x && (Txt.isalpha x && Txt.islower x)) = x.cps.toList.all low := by
  have hl : x.cps.toList ≠ [] := fun z => by
    have e : x.length = x.cps.toList.length := rfl
    rw [z] at e
    simp at e
    omega
  have e := name_two x.cps.toList hl
  rw [← e]
  unfold Txt.isascii Txt.isalpha Txt.islower
  have h2 : decide (x.length > 0) = true := decide_eq_true h
  rw [h2, Bool.true_and, ← Array.all_toList, ← Array.all_toList, ← Array.any_toList, ← Array.any_toList]
def az : Str := "abcdefghijklmnopqrstuvwxyz"
theorem az_mem (c : Nat) : decide (c ∈ az.cps.toList) = low c := by
  have h : az.cps.toList = (List.range 26).map (· + 97) := by decide +kernel
  rw [h]
  unfold low
  rw [decide_eq_decide]
  simp only [List.mem_map, List.mem_range]
  constructor
  · rintro ⟨i, hi, rfl⟩
    omega
  · intro z
    exact ⟨c - 97, by omega, by omega⟩

/-! ### the common divisor by rests -/
theorem gcd_step (a b : Nat) : Nat.gcd b (a % b) = Nat.gcd a b := by
  rw [Nat.gcd_comm a b, Nat.gcd_rec b a, Nat.gcd_comm]
/-- the size of the common divisor -/
def gI (n d : Int) : Int := ((Nat.gcd n.natAbs d.natAbs : Nat) : Int)
def sh (n d : Int) : Int := if gI n d > 1 then gI n d else 1
def redI (n d : Int) : Int × Int := if d < 0 then ((-n) / sh n d, (-d) / sh n d) else (n / sh n d, d / sh n d)
theorem sh_pos (n d : Int) : 0 < sh n d := by
  unfold sh
  split <;> omega
theorem sh_eq {n d : Int} (h : d ≠ 0) : sh n d = gI n d := by
  have : 0 < Nat.gcd n.natAbs d.natAbs := Nat.gcd_pos_of_pos_right _ (by omega)
  unfold sh gI
  split <;> omega
theorem sh_le {n d : Int} (h : d ≠ 0) : (sh n d).natAbs ≤ d.natAbs := by
  rw [sh_eq h]
  unfold gI
  rw [Int.natAbs_natCast]
  exact Nat.le_of_dvd (by omega) (Nat.gcd_dvd_right _ _)
/-- small positive ones, reduced -/
theorem redI_pos {n d : Int} (hn : 0 < n) (hd : 0 < d) : 1 ≤ (redI n d).1 ∧ (redI n d).1 ≤ n ∧ 1 ≤ (redI n d).2 ∧ (redI n d).2 ≤ d ∧ gI (redI n d).1 (redI n d).2 = 1 := by
  obtain ⟨a, rfl⟩ : ∃ a : Nat, n = (a : Int) := ⟨n.toNat, by omega⟩
  obtain ⟨c, rfl⟩ : ∃ c : Nat, d = (c : Int) := ⟨d.toNat, by omega⟩
  have ha : 0 < a := by omega
  have hc : 0 < c := by omega
  have hg : 0 < Nat.gcd a c := Nat.gcd_pos_of_pos_right _ hc
  have e : redI (a : Int) (c : Int) = (((a / Nat.gcd a c : Nat) : Int), ((c / Nat.gcd a c : Nat) : Int)) := by
    unfold redI
    rw [if_neg (by omega), sh_eq (by omega)]
    unfold gI
    rw [Int.natAbs_natCast, Int.natAbs_natCast, Int.natCast_ediv, Int.natCast_ediv]
  rw [e]
  have d1 : Nat.gcd a c ≤ a := Nat.le_of_dvd ha (Nat.gcd_dvd_left a c)
  have d2 : Nat.gcd a c ≤ c := Nat.le_of_dvd hc (Nat.gcd_dvd_right a c)
  have p1 : 0 < a / Nat.gcd a c := Nat.div_pos d1 hg
  have p2 : 0 < c / Nat.gcd a c := Nat.div_pos d2 hg
  have p3 : a / Nat.gcd a c ≤ a := Nat.div_le_self _ _
  have p4 : c / Nat.gcd a c ≤ c := Nat.div_le_self _ _
  have p5 : Nat.gcd (a / Nat.gcd a c) (c / Nat.gcd a c) = 1 := Nat.coprime_div_gcd_div_gcd hg
  refine ⟨by show (1 : Int) ≤ ((a / Nat.gcd a c : Nat) : Int); omega, by show ((a / Nat.gcd a c : Nat) : Int) ≤ _; omega, by show (1 : Int) ≤ ((c / Nat.gcd a c : Nat) : Int); omega, by show ((c / Nat.gcd a c : Nat) : Int) ≤ _; omega, ?_⟩
  unfold gI
  show ((Nat.gcd (((a / Nat.gcd a c : Nat) : Int)).natAbs (((c / Nat.gcd a c : Nat) : Int)).natAbs : Nat) : Int) = 1
  rw [Int.natAbs_natCast, Int.natAbs_natCast, p5]
  rfl

/-! ### the bag of draws -/
/-- the bag at b: what is left of a great cell, the stirred number, how many cells were taken, the cells -/
def BagAt (H : Hp) (b : Addr) : Prop := ∃ (x y z : Int) (l : Addr) (cs : List Int), H b = some (.lst [.int x, .int y, .int z, .ref l]) ∧ H l = some (.lst (cs.map V.int)) ∧ l ≠ b ∧ 0 ≤ x ∧ 0 ≤ y ∧ y < 2147483647 ∧ 0 ≤ z ∧ cs.length ≤ 63 ∧ ∀ c ∈ cs, 0 ≤ c
/-- its cells lie at l -/
def BagL (H : Hp) (b l : Addr) : Prop := ∃ x y z : Int, H b = some (.lst [.int x, .int y, .int z, .ref l])
theorem BagL.eq {H : Hp} {b l k : Addr} {x y z : Int} (h : BagL H b l) (e : H b = some (.lst [.int x, .int y, .int z, .ref k])) : l = k := by
  obtain ⟨x', y', z', e'⟩ := h
  rw [e] at e'
  cases e'
  rfl
/-- the bag alone has changed -/
structure Rel (b : Addr) (H H' : Hp) : Prop where
  keep : ∀ a o, a ≠ b → H a = some o → H' a = some o
  cell : ∀ l, BagL H b l → BagL H' b l
  bag : BagAt H' b
theorem Rel.refl {b : Addr} {H : Hp} (h : BagAt H b) : Rel b H H := ⟨fun _ _ _ e => e, fun _ h => h, h⟩
theorem Rel.trans {b : Addr} {H H1 H2 : Hp} (r : Rel b H H1) (s : Rel b H1 H2) : Rel b H H2 := ⟨fun a o n e => s.keep a o n (r.keep a o n e), fun l h => s.cell l (r.cell l h), s.bag⟩
theorem BagAt.same {b : Addr} {H H' : Hp} (h : BagAt H b) (s : Same H H') : BagAt H' b := by
  obtain ⟨x, y, z, l, cs, h1, h2, r⟩ := h
  exact ⟨x, y, z, l, cs, s _ _ h1, s _ _ h2, r⟩
theorem BagL.same {b l : Addr} {H H' : Hp} (h : BagL H b l) (s : Same H H') : BagL H' b l := by
  obtain ⟨x, y, z, e⟩ := h
  exact ⟨x, y, z, s _ _ e⟩
theorem Rel.same {b : Addr} {H H1 H2 : Hp} (r : Rel b H H1) (s : Same H1 H2) : Rel b H H2 := ⟨fun a o n e => s a o (r.keep a o n e), fun l h => (r.cell l h).same s, r.bag.same s⟩
theorem Rel.of_same {b : Addr} {H H1 : Hp} (h : BagAt H b) (s : Same H H1) : Rel b H H1 := ⟨fun a o n e => s a o e, fun l h => h.same s, h.same s⟩
theorem Rel.fut {b : Addr} {mu : Addr → Prop} {H H' : Hp} (r : Rel b H H') (h : mu b) (hb : BagAt H b) : Fut mu H H' := fun a o e z => r.keep a o (fun q => by
  rcases z with z | z | z
  · exact z (by rw [q]; exact h)
  · obtain ⟨x, y, z', l, cs, h1, _⟩ := hb
    obtain ⟨xs, rfl⟩ := z
    rw [q, h1] at e
    cases e
  · obtain ⟨x, y, z', l, cs, h1, _⟩ := hb
    obtain ⟨ob, u, rfl⟩ := z
    rw [q, h1] at e
    cases e) e
theorem Rel.some {b : Addr} {H H' : Hp} (r : Rel b H H') {a : Addr} (h : H' a = Option.none) : H a = Option.none := by
  by_cases e : a = b
  · obtain ⟨x, y, z', l, cs, h1, _⟩ := r.bag
    rw [e, h1] at h
    cases h
  · cases q : H a with
    | none => rfl
    | some o =>
      rw [r.keep a o e q] at h
      cases h
theorem same_upd {H : Hp} {p : Addr} {o : HO} (h : H p = Option.none) : Same H (upd H p o) := fun b x e => by
  rw [upd_ne (ne_of_none e h)]
  exact e
theorem cut_mem {xs : List V} {lo hi : Option Int} {v : V} (h : v ∈ cutV xs lo hi) : v ∈ xs := by
  unfold cutV at h
  exact List.mem_of_mem_drop (List.mem_of_mem_take h)
theorem cut_len (xs : List V) (lo hi : Option Int) : (cutV xs lo hi).length ≤ xs.length := by
  unfold cutV
  rw [List.length_take, List.length_drop]
  omega
theorem head_cell {cs : List Int} (h : ∀ c ∈ cs, 0 ≤ c) (lo hi : Option Int) : ∃ c : Int, 0 ≤ c ∧ (cutV (cs.map V.int) lo hi ++ [V.int 0])[0]? = some (.int c) := by
  cases e : cutV (cs.map V.int) lo hi with
  | nil => exact ⟨0, Int.le_refl _, rfl⟩
  | cons v r =>
    have m : v ∈ cutV (cs.map V.int) lo hi := by
      rw [e]
      exact List.mem_cons_self
    obtain ⟨c, hc, rfl⟩ := List.mem_map.mp (cut_mem m)
    exact ⟨c, h c hc, rfl⟩
/-- a drawn integer from 0 to many less 1 -/
def spTake : Sp := fun vs H Q _ => ∃ (b : Addr) (many : Int), vs = [.ref b, .int many] ∧ BagAt H b ∧ 0 < many ∧ many < 1073741824 ∧ ∀ v H', 0 ≤ v → v < many → Rel b H H' → Q (.int v) H'
end Sw
/-! What an expression that draws from the bag gives as a datum (Ge exactly, Gv by a word of it). -/
namespace Sw
open PySem PySem.Spec PyProof.Rows L2

def tLstN (t : TA) : TE := fun σ H Q => t σ H fun xs H1 => xs.length ≤ sizeLine ∧ ∀ p, H1 p = none → p ≠ sysModules → Q (.ref p) (upd H1 p (.lst xs))
/-- a list display: its place is new, and not that of sys.modules -/
theorem pe_lstN {X : Cx} {es : List Expr} {t : TA} {pos : Pos} (h : PA X es t) : PE X (.List es pos) (tLstN t) :=
  ⟨fun pins s σ H Q I hq => wpAny_List_spliced (thn (h.run pos pins s σ H _ I hq) fun us s1 g => by
    obtain ⟨xs, H1, I1, r, z, q⟩ := g
    exact ⟨by rw [← r.length]; exact z, .ref s1.heap.objs.size, upd H1 s1.heap.objs.size (.lst xs), I1.laid (t' := s1.toks) (fun b u e => Heap.get?_push_of_some _ e) (Nat.le_refl _) ⟨z, us, 0, r, Heap.get?_push_size _ rfl⟩, rfl,
      q _ (I1.hok.fresh (Nat.le_refl _)) (Nat.ne_of_gt I1.big)⟩)⟩
def tDNewN : TE := fun _ H Q => ∀ p, H p = none → p ≠ sysModules → Q (.ref p) (upd H p (.dK []))
theorem pe_dnewN {X : Cx} {pos : Pos} : PE X (.Dict [] [] pos) tDNewN := ⟨fun pins s σ H Q I h =>
  wpAny_Dict_empty ⟨.ref s.heap.objs.size, _, I.laid (a := s.heap.objs.size) (o := .dK []) (t' := s.toks) (fun _ _ q => Heap.get?_push_of_some _ q) (Nat.le_refl _) (dk_empty s.heap I.big), rfl, h _ (I.hok.fresh (Nat.le_refl _)) (Nat.ne_of_gt I.big)⟩⟩
/-- what may change is tracked (or sys.modules) -/
def MuOk (mu : Addr → Prop) (H : Hp) : Prop := ∀ a, mu a → H a ≠ none ∨ a = sysModules
theorem MuOk.rel {mu : Addr → Prop} {b : Addr} {H H' : Hp} (m : MuOk mu H) (r : Rel b H H') : MuOk mu H' := fun a h => by
  rcases m a h with z | z
  · refine .inl fun e => z (r.some e)
  · exact .inr z
theorem MuOk.same {mu : Addr → Prop} {H H' : Hp} (m : MuOk mu H) (s : Same H H') : MuOk mu H' := fun a h => by
  rcases m a h with z | z
  · exact .inl fun e => z (s.free e)
  · exact .inr z
theorem MuOk.new {mu : Addr → Prop} {H : Hp} (m : MuOk mu H) {p : Addr} (n : H p = none) (s : p ≠ sysModules) : ¬ mu p := fun h => (m p h).elim (fun z => z n) s
theorem MuOk.bag {H : Hp} {b : Addr} (h : BagAt H b) : MuOk (fun a => a = b ∨ a = sysModules) H := fun a z => by
  rcases z with rfl | z
  · obtain ⟨x, y, z, l, cs, h1, _⟩ := h
    exact .inl (by rw [h1]; exact fun z => nomatch z)
  · exact .inr z

/-- a list may be changed -/
def Own (H : Hp) (v : V) (d : PyData) : Prop := (∀ ds, d = .list ds → ∃ a xs, v = .ref a ∧ H a = some (.lst xs)) ∧ (d = .dict [] → ∃ a, v = .ref a ∧ H a = some (.dK []))
theorem Own.fut {K : PySem.W.Frag} {mu : Addr → Prop} {H H' : Hp} {v : V} {d : PyData} (o : Own H v d) (h : Dt K mu H v d) (f : Fut mu H H') : Own H' v d := ⟨fun ds e => by
  subst e
  obtain ⟨a, xs, rfl, e⟩ := o.1 ds rfl
  obtain ⟨a', _, e2, n, _, _⟩ := h.lstAt
  cases e2
  exact ⟨a, xs, rfl, f a _ e (.inl n)⟩, fun e => by
  subst e
  obtain ⟨a, rfl, e⟩ := o.2 rfl
  cases h with
  | dct n _ _ => exact ⟨a, rfl, f a _ e (.inl n)⟩⟩
theorem own_not {H : Hp} {v : V} {d : PyData} (h : ∀ ds, d ≠ .list ds) (h2 : d ≠ .dict [] := by intro z; cases z) : Own H v d := ⟨fun ds e => absurd e (h ds), fun e => absurd e h2⟩
/-- .. all of them -/
def OwnA (H : Hp) (vs : List V) (ds : List PyData) : Prop := ∀ (i : Nat) (v : V) (d : PyData), vs[i]? = some v → ds[i]? = some d → Own H v d
theorem OwnA.nil {H : Hp} {ds : List PyData} : OwnA H [] ds := fun i v d e => by simp at e
theorem OwnA.cons {H : Hp} {v : V} {vs : List V} {d : PyData} {ds : List PyData} (h : Own H v d) (t : OwnA H vs ds) : OwnA H (v :: vs) (d :: ds) := fun i x y e1 e2 => by
  cases i with
  | zero =>
    cases e1
    cases e2
    exact h
  | succ i => exact t i x y (by simpa using e1) (by simpa using e2)
section
variable (K : PySem.W.Frag) (b : Addr) (mu : Addr → Prop) (σ : L2.St) (H0 : Hp)
/-- the expression gives the datum d -/
def Ge (te : TE) (d : PyData) : Prop := ∀ H, Rel b H0 H → MuOk mu H → ∀ Q : VK, (∀ v H', Rel b H H' → Dt K mu H' v d → Q v H') → te σ H Q
/-- .. a datum of which D holds -/
def Gv (te : TE) (D : PyData → Prop) : Prop := ∀ H, Rel b H0 H → MuOk mu H → ∀ Q : VK, (∀ v H' d, D d → Rel b H H' → Dt K mu H' v d → Own H' v d → Q v H') → te σ H Q
def GeA (ta : TA) (ds : List PyData) : Prop := ∀ H, Rel b H0 H → MuOk mu H → ∀ Q : List V → Hp → Prop, (∀ vs H', Rel b H H' → DtA K mu H' vs ds → Q vs H') → ta σ H Q
def GvA (ta : TA) (D : PyData → Prop) (n : Nat) : Prop := ∀ H, Rel b H0 H → MuOk mu H → ∀ Q : List V → Hp → Prop, (∀ vs H' ds, ds.length = n → (∀ d ∈ ds, D d) → Rel b H H' → DtA K mu H' vs ds → OwnA H' vs ds → Q vs H') → ta σ H Q
end
section
variable {K : PySem.W.Frag} {b : Addr} {mu : Addr → Prop} {σ : L2.St} {H0 : Hp} {te : TE} {ta tr : TA} {d : PyData} {ds : List PyData} {D : PyData → Prop} {n : Nat}
theorem Ge.gv (h : Ge K b mu σ H0 te d) (hd : D d) (hn : ∀ ds, d ≠ .list ds := by intro _ z; cases z) (hn2 : d ≠ .dict [] := by intro z; cases z) : Gv K b mu σ H0 te D := fun H hb m Q q => h H hb m Q fun v H' r e => q v H' d hd r e (own_not hn hn2)
theorem gv_lst (hm : mu b) (h : GeA K b mu σ H0 ta ds) (hl : ds.length ≤ 1000) (hd : D (.list ds)) : Gv K b mu σ H0 (tLstN ta) D := fun H hb m Q q =>
  h H hb m _ fun vs H1 r e => ⟨Nat.le_of_lt (small1000 (by rw [e.length]; exact hl)), fun p np ns => q _ _ _ hd (r.same (same_upd np)) (.lst ((m.rel r).new np ns) (.inl upd_same) (e.fut (.of_same (same_upd np)))) ⟨fun _ _ => ⟨p, vs, rfl, upd_same⟩, fun z => nomatch z⟩⟩
theorem ge_int {i : Int} : Ge K b mu σ H0 (tC (.int i)) (.int i) := fun H hb _ _ q => q _ H (.refl hb.bag) (.int i)
theorem ge_bl {i : Bool} : Ge K b mu σ H0 (tC (.bl i)) (.bool i) := fun H hb _ _ q => q _ H (.refl hb.bag) (.bl i)
theorem ge_str {i : Str} : Ge K b mu σ H0 (tC (.str i)) (.str i) := fun H hb _ _ q => q _ H (.refl hb.bag) (.str i)
theorem ge_non : Ge K b mu σ H0 (tC .non) .none := fun H hb _ _ q => q _ H (.refl hb.bag) .non
theorem ge_neg {i : Int} : Ge K b mu σ H0 (tUn (rU fun i => .int (-i)) (tC (.int i))) (.int (-i)) := fun H hb _ _ q => ⟨i, rfl, q _ H (.refl hb.bag) (.int _)⟩
theorem geA_nil : GeA K b mu σ H0 tNil [] := fun H hb _ _ q => q _ H (.refl hb.bag) .nil
theorem geA_cons (hm : mu b) (h : Ge K b mu σ H0 te d) (t : GeA K b mu σ H0 tr ds) : GeA K b mu σ H0 (tCons te tr) (d :: ds) := fun H hb m _ q =>
  h H hb m _ fun v H1 r1 e1 => t H1 (hb.trans r1) (m.rel r1) _ fun vs H2 r2 e2 => q _ H2 (r1.trans r2) (.cons (e1.fut (r2.fut hm r1.bag)) e2)
theorem gvA_nil : GvA K b mu σ H0 tNil D 0 := fun H hb _ _ q => q _ H [] rfl (fun _ z => nomatch z) (.refl hb.bag) .nil .nil
theorem gvA_cons (hm : mu b) (h : Gv K b mu σ H0 te D) (t : GvA K b mu σ H0 tr D n) : GvA K b mu σ H0 (tCons te tr) D (n + 1) := fun H hb m _ q =>
  h H hb m _ fun v H1 d hd r1 e1 o1 => t H1 (hb.trans r1) (m.rel r1) _ fun vs H2 ds hl hds r2 e2 o2 => q _ H2 (d :: ds) (by rw [List.length_cons, hl]) (fun x z => by
    rcases List.mem_cons.mp z with rfl | z
    · exact hd
    · exact hds x z) (r1.trans r2) (.cons (e1.fut (r2.fut hm r1.bag)) e2) (.cons (o1.fut e1 (r2.fut hm r1.bag)) o2)
theorem ge_tup (hm : mu b) (h : GeA K b mu σ H0 ta ds) (hl : ds.length ≤ 1000) : Ge K b mu σ H0 (tTup ta) (.tuple ds) := fun H hb m _ q =>
  h H hb m _ fun vs H1 r e => ⟨Nat.le_of_lt (small1000 (by rw [e.length]; exact hl)), fun p np => q _ _ (r.same (same_upd np)) (.tup (.inl upd_same) (e.fut (.of_same (same_upd np))))⟩
theorem ge_lst (hm : mu b) (h : GeA K b mu σ H0 ta ds) (hl : ds.length ≤ 1000) : Ge K b mu σ H0 (tLstN ta) (.list ds) := fun H hb m _ q =>
  h H hb m _ fun vs H1 r e => ⟨Nat.le_of_lt (small1000 (by rw [e.length]; exact hl)), fun p np ns => q _ _ (r.same (same_upd np)) (.lst ((m.rel r).new np ns) (.inl upd_same) (e.fut (.of_same (same_upd np))))⟩
end
theorem gv_dict {K : PySem.W.Frag} {b : Addr} {mu : Addr → Prop} {σ : L2.St} {H0 : Hp} {D : PyData → Prop} (hd : D (.dict [])) : Gv K b mu σ H0 tDNewN D := fun H hb m Q q =>
  fun p np ns => q _ _ _ hd (Rel.of_same hb.bag (same_upd np)) (.dct (m.new np ns) (.inl upd_same) .nil) ⟨(fun _ z => nomatch z), fun _ => ⟨p, rfl, upd_same⟩⟩
/-- a menu of drawn things: t is a list, one of its items comes back -/
def spSome : Sp := fun vs H Q _ => ∃ (b t : Addr) (xs : List V), vs = [.ref b, .ref t] ∧ BagAt H b ∧ t ≠ b ∧ H t = some (.lst xs) ∧ 0 < xs.length ∧ xs.length ≤ 1000 ∧ ∀ (i : Nat) v H', xs[i]? = some v → Rel b H H' → Q v H'
/-- a menu is asked -/
theorem gv_some {K : PySem.W.Frag} {b : Addr} {mu : Addr → Prop} {σ : L2.St} {H0 : Hp} {ta : TA} {D : PyData → Prop} {n i : Nat} (hm : mu b) (hσ : σ[i]? = some (some (.ref b))) (h : GvA K b mu σ H0 ta D n) (h0 : 0 < n) (h1 : n ≤ 1000) :
    Gv K b mu σ H0 (tCall spSome [] E0 (tCons (tVar i) (tCons (tLst ta) tNil))) D := fun H hb m Q q => by
  refine ⟨_, hσ, h H hb m _ fun vs H1 ds hl hD r e oo => ?_⟩
  have hv : vs.length = n := e.length.trans hl
  refine ⟨Nat.le_of_lt (small1000 (by omega)), fun p np => ?_⟩
  have nb : p ≠ b := fun z => by
    obtain ⟨x, y, z', l, cs, h1, _⟩ := r.bag
    rw [z, h1] at np
    cases np
  refine ⟨b, p, vs, rfl, r.bag.same (same_upd np), nb, upd_same, by omega, by omega, fun j v H2 hj r2 => ?_⟩
  obtain ⟨d, hd, ed⟩ := e.get hj
  have o1 := (oo j v d hj hd).fut ed (.of_same (same_upd (o := .lst vs) np))
  have r3 := r.same (same_upd (o := .lst vs) np)
  exact q v H2 d (hD d (List.mem_of_getElem? hd)) (r3.trans r2) ((ed.fut (.of_same (same_upd np))).fut (r2.fut hm r3.bag)) (o1.fut (ed.fut (.of_same (same_upd np))) (r2.fut hm r3.bag))
theorem gv_var {K : PySem.W.Frag} {b : Addr} {mu : Addr → Prop} {σ : L2.St} {H0 : Hp} {i : Nat} {v : V} {d : PyData} {D : PyData → Prop} (hm : mu b) (hb : BagAt H0 b) (hσ : σ[i]? = some (some v)) (h : Dt K mu H0 v d) (o : Own H0 v d) (hd : D d) : Gv K b mu σ H0 (tVar i) D := fun H r m Q q =>
  ⟨v, hσ, q v H d hd (.refl r.bag) (h.fut (r.fut hm hb)) (o.fut h (r.fut hm hb))⟩
/-- a menu that lies ready -/
theorem gv_someV {K : PySem.W.Frag} {b : Addr} {mu : Addr → Prop} {σ : L2.St} {H0 : Hp} {D : PyData → Prop} {i j : Nat} {t : Addr} {xs : List V} {ds : List PyData} (hm : mu b) (hb : BagAt H0 b) (hσ : σ[i]? = some (some (.ref b))) (hτ : σ[j]? = some (some (.ref t))) (ht : H0 t = some (.lst xs)) (nt : t ≠ b)
    (e : DtA K mu H0 xs ds) (o : OwnA H0 xs ds) (hD : ∀ d ∈ ds, D d) (h0 : 0 < ds.length) (h1 : ds.length ≤ 1000) : Gv K b mu σ H0 (tCall spSome [] E0 (tCons (tVar i) (tCons (tVar j) tNil))) D := fun H r m Q q => by
  have hv : xs.length = ds.length := e.length
  refine ⟨_, hσ, _, hτ, b, t, xs, rfl, r.bag, nt, r.keep _ _ nt ht, by omega, by omega, fun k v H2 hk r2 => ?_⟩
  obtain ⟨d, hd, ed⟩ := e.get hk
  have f := (r.trans r2).fut hm hb
  exact q v H2 d (hD d (List.mem_of_getElem? hd)) r2 (ed.fut f) ((o k v d hk hd).fut ed f)
/-- a def over the bag (and further arguments) gives a datum of which D holds -/
def spG (K : PySem.W.Frag) (as : List V) (D : PyData → Prop) : Sp := fun vs H Q _ => ∃ (b : Addr) (mu : Addr → Prop), vs = .ref b :: as ∧ mu b ∧ BagAt H b ∧ MuOk mu H ∧ ∀ v H' d, D d → Rel b H H' → Dt K mu H' v d → Own H' v d → Q v H'
/-- a drawn FRACTION above 0 -/
def NumP (n m : Int) : Prop := 1 ≤ n ∧ n ≤ 1000000000000 ∧ 1 ≤ m ∧ m ≤ 1000000000000 ∧ gI n m = 1
def NumD (d : PyData) : Prop := ∃ n m, d = .tuple [.int n, .int m] ∧ NumP n m
def spNum (K : PySem.W.Frag) : Sp := fun vs H Q E => ∃ most : Int, 0 < most ∧ most ≤ 100000000 ∧ spG K [.int most] NumD vs H Q E
theorem ge_num {K : PySem.W.Frag} {b : Addr} {mu : Addr → Prop} {σ : L2.St} {H0 : Hp} {i : Nat} {n : Int} (hm : mu b) (hσ : σ[i]? = some (some (.ref b))) (h0 : 0 < n) (h1 : n ≤ 100000000) :
    Gv K b mu σ H0 (tCall (spNum K) [] E0 (tCons (tVar i) (tCons (tC (.int n)) tNil))) NumD := fun H hb m Q q =>
  ⟨_, hσ, n, h0, h1, b, mu, rfl, hm, hb.bag, m, q⟩
theorem numD {n m : Int} (h : NumP n m) : NumD (.tuple [.int n, .int m]) := ⟨n, m, rfl, h⟩
theorem int_pow {n : Int} (h1 : 1 ≤ n) (h2 : n ≤ 1000000000000) : n.natAbs < 10 ^ 500 := by
  have e : (1000000000000 : Nat) < 10 ^ 500 := by decide +kernel
  omega
theorem NumD.not {H : Hp} {v : V} {d : PyData} (h : NumD d) : Own H v d := by
  obtain ⟨n, m, rfl, _⟩ := h
  exact own_not fun _ z => nomatch z
theorem numD_ok {d : PyData} (h : NumD d) : Ok d ∧ d.hasDict = false ∧ d.weight ≤ 202 ∧ d.depth = 1 := by
  obtain ⟨n, m, rfl, h1, h2, h3, h4, _⟩ := h
  have w : ∀ i : Int, 1 ≤ i → i ≤ 1000000000000 → (PyData.int i).weight ≤ 100 := fun i a b => by
    have hz : i.natAbs ≠ 0 := by omega
    have e : i.natAbs.log2 < 40 := (Nat.log2_lt hz).mpr (by omega)
    simp only [PyData.weight]
    split <;> omega
  have w1 := w n h1 h2
  have w2 := w m h3 h4
  have e1 : (PyData.tuple [.int n, .int m]).weight ≤ 202 := by
    simp only [PyData.weight, PyData.weightAll] at w1 w2 ⊢
    omega
  have e2 : (PyData.tuple [.int n, .int m]).depth = 1 := by
    simp [PyData.depth, PyData.depthAll]
  refine ⟨⟨?_, by rw [e2]; decide, by omega⟩, by simp [PyData.hasDict, PyData.hasDictAll], e1, e2⟩
  simp only [okD, okA, Bool.and_true, Bool.and_eq_true, decide_eq_true_eq]
  exact ⟨int_pow h1 h2, int_pow h3 h4⟩
end Sw
/-! Own exceptions as values: made by their own __init__, fields read, classes asked. -/
namespace Sw
open PySem PySem.Spec PyProof.Rows L2

/-- C(e, ..), an error as a value -/
def tMkV (C : Addr) (sp : Sp) (ta : TA) : TE := fun σ H Q => ta σ H fun vs H1 => vs.length ≤ 1000 ∧ ∀ a, H1 a = none → sp (.ref a :: vs) (upd H1 a (exo a C none)) (fun v H2 => v = .non ∧ Q (.ref a) H2) E0
theorem pe_exV {X : Cx} {x : Str} {C fI : Addr} {k : Nat} {fd : FuncData} {ps : List Str} {sp : Sp} {e : Expr} {es : List Expr} {ta : TA} {p pos : Pos} (T : OexC X.K C) (iC : PySem.W.findIn X.K (.ref C) "__init__" = some (some (.ref fI))) (tI : PySem.W.typeIn X.K (.ref fI) = some (.type "function"))
    (F1 : FnG X.prog X.w X.K X.mg X.base k fI fd ps sp) (g : Gd X.A) (hr : Room (k + 1) X.A) (hb : Binds X.K fd ps []) (hg : Gl X x) (hm : X.mg x = some (.ref C)) (ha : PA X (e :: es) ta)
    (hdb : (x == ("__debug__" : Str)) = false := by decide) (he : starEach (e :: es) X.env = (false, eval e X.env) :: starEach es X.env := by rfl) (hpl : (backTo pos (starEach es X.env)).any (·.1) = false := by rfl) :
    PE X (.Call (.Name x p) (e :: es) [] pos) (tMkV C sp ta) := by
  refine ⟨fun pins s σ H Q I h => ?_⟩
  obtain ⟨nm, q, N, bs, bm, sn, sub, ab, col, dd, k0, k1, k2, k3, k5, hC, hbm⟩ := T.cls
  refine wpAny_Call_Name_kw (ld_glob I hg hm ?_ hdb)
  refine PySem.W.callWith_K (h₀ := X.base) I.ok.mod.kin T.kC (thn (ha.run pos pins s σ H _ I h) fun us s1 ⟨vs, H1, I1, r1, hz, q1⟩ => ⟨I1.kIn, ?_⟩) he hpl
  show wpAny _ _ (call (.ref C) us) _ _ _
  obtain ⟨hp, g1, dr, tk, os⟩ := s1
  have hsz : hp.objs.size ≤ hp.objs.size + 1 := Nat.le_succ _
  have hn : H1 (hp.objs.size + 1) = none := I1.hok.fresh hsz
  have hq := q1 (hp.objs.size + 1) hn
  have kk : ∀ b o, hp.get? b = some o → ((hp.push (PySem.W.kdv_tup us)).push (PySem.HandSPX.excO C hp.objs.size)).get? b = some o := fun b o e => Heap.get?_push_of_some _ (Heap.get?_push_of_some _ e)
  have hget : ((hp.push (PySem.W.kdv_tup us)).push (PySem.HandSPX.excO C hp.objs.size)).get? (hp.objs.size + 1) = some (PySem.HandSPX.excO C hp.objs.size) := by heap_get
  have I2 : Inv X pins σ (upd H1 (hp.objs.size + 1) (exo (hp.objs.size + 1) C none)) ⟨(hp.push (PySem.W.kdv_tup us)).push (PySem.HandSPX.excO C hp.objs.size), g1, dr, tk, os⟩ :=
    I1.laid (t' := tk) (a := hp.objs.size + 1) (o := exo (hp.objs.size + 1) C none) (h' := (hp.push (PySem.W.kdv_tup us)).push (PySem.HandSPX.excO C hp.objs.size)) kk hsz (exo_ok hget)
  have r2 : Vals (V.ref (hp.objs.size + 1) :: vs) (Value.ref (hp.objs.size + 1) :: us) := .cons rfl r1
  have hl : (Value.ref (hp.objs.size + 1) :: us).length = ps.length := r2.length.symm.trans (F1.len _ _ _ _ hq)
  have hus : us.length ≤ sizeLine := by
    rw [← Paired.length r1, sizeLine_eq]
    omega
  have hbb := hb ⟨(hp.push (PySem.W.kdv_tup us)).push (PySem.HandSPX.excO C hp.objs.size), g1, dr, tk, os⟩ (Value.ref (hp.objs.size + 1) :: us) I2.kIn (by simpa using hl)
  rw [List.append_nil] at hbb
  refine wpAny_call (PySem.HandSPX.call_own F.excBase_ValueError (fun Y => PySem.HandSPX.refsVE_contains Y bm hbm) (I1.kIn _ _ hC) (PySem.W.looks_findIn I1.kIn iC) (fun self => PySem.W.bind_fn I1.kIn self tI) hus
    (codeAny_mono (F1.go (Gd.make g C us []) (hr.make C us []) (I2.env0.make C us []) hbb r2 hq) fun r s' hq' => ?_))
  match r, hq' with
  | .ok (.ret u), hq' =>
    obtain ⟨v, H2, I3, rv, ev, q2⟩ := I2.after hq'
    subst ev
    exact ⟨rv, .ref (hp.objs.size + 1), H2, I3, rfl, q2⟩
/-- C(), C without an own __init__ -/
def tMk0 (C : Addr) : TE := fun σ H Q => ∀ a, H a = none → Q (.ref a) (upd H a (exo a C none))
theorem pe_ex0 {X : Cx} {C : Addr} {bmB : List Value} {B newId initId : String} {x : Str} {p pos : Pos} (F : ExcBaseFacts B newId initId bmB) (q : PySem.W.excIn X.K C bmB newId = true) (gC : X.mg x = some (.ref C)) (kC : PySem.W.keepIn X.K (.ref C) = true) (hg : Gl X x)
    (hdb : (x == ("__debug__" : Str)) = false := by decide) :
    PE X (.Call (.Name x p) [] [] pos) (tMk0 C) := by
  refine ⟨fun pins s σ H Q I h => ?_⟩
  refine wpAny_Call_Name_kw (ld_glob I hg gC (PySem.W.callWith_K0 I.kIn kC ?_) hdb)
  obtain ⟨bm, N, nm, qn, bs, hdct, sn, sub, ab, col, dd, k0, k1, k2, k3, k5, mN, hC, hN, hni, T⟩ := exc_obj I.kIn q
  refine wpAny_call_exc_subT F T hC hN hni (fun h' a hm => ?_) (by show 0 ≤ sizeLine; rw [sizeLine_eq]; omega)
  have hn : H a = none := I.hok.gone hm.new
  obtain ⟨t, ht, _, _⟩ := hm.there
  exact ⟨.ref a, upd H a (exo a C none), I.laidN hm.keeps hm.new hn (exo_ok ht), rfl, h a hn⟩
/-- e.f, e an own error whose dict is known -/
def tXv (K : PySem.W.Frag) (f : Str) (te : TE) : TE := fun σ H Q => te σ H fun x H1 => ∃ (a C dx : Addr) (fs : List (Str × V)) (v : V), x = .ref a ∧ XfC K C ∧ PySem.W.findIn K (.ref C) f = some none ∧ H1 a = some (exo a C (some dx)) ∧ H1 dx = some (exd dx fs) ∧ fs.lookup f = some v ∧ Q v H1
theorem pe_xv {X : Cx} {e : Expr} {te : TE} {pos : Pos} {n : Str} (he : PE X e te) (hb : attributeBase e n X.env (eval e X.env) = eval e X.env := by rfl) :
    PE X (.Attribute e n pos) (tXv X.K n te) := by
  refine ⟨fun pins s σ H Q I h => ?_⟩
  refine attr_of hb (thn (he.run pins s σ H _ I h) fun u s1 hh => ?_)
  obtain ⟨x, H1, I1, rx, a, C, dx, fs, v, rfl, T, hno, ea, ed, l, q⟩ := hh
  obtain rfl : u = Value.ref a := rx
  obtain ⟨t1, ho⟩ := exo_at I1.hok ea
  obtain ⟨mA, hns, hr⟩ := exd_at I1.hok ed
  obtain ⟨od, hod, hl⟩ := lookIn_ns hns
  obtain ⟨u, hu, ru⟩ := RelO.some_of (v := v) (o := mA n) (by rw [← l]; exact hr n)
  have J : PySem.W.InstAt s1.heap a { cls := .ref C, dict := some dx, data := .fields #[.ref t1, .none, .none, .none, .bool false, .none] } C (some od) := ⟨ho, rfl, rfl, hod⟩
  exact HandSPX.exc_get I1.kIn J T.ga T.gg T.exC (PySem.W.findObj_own T.hdC hno rfl (by rw [hl, hu])) (handed_of ru) ⟨v, H1, I1.tok _, ru, q⟩
/-- isinstance(e, c), e an own error -/
def rIsX (K : PySem.W.Frag) : List V → Hp → VK → Prop := fun xs H Q => ∃ (a D : Addr) (dx : Option Addr) (c : V) (cv : Value) (b : Bool), xs = [.ref a, c] ∧ ExcC K D ∧ H a = some (exo a D dx) ∧ (∀ d, dx = some d → ∃ fs, H d = some (exd d fs)) ∧ (∀ u, RelV c u → u = cv) ∧ PySem.W.kitOne K (.ref D) cv = some b ∧ Q (.bl b) H
theorem call_isX {X : Cx} : CallR X (.builtin "isinstance") (rIsX X.K) := by
  intro pins s σ H xs us Q I r h
  obtain ⟨a, D, dx, c, cv, b, rfl, C, ea, hd, hcv, e, q⟩ := h
  cases r with
  | cons rx rr =>
    cases rr with
    | cons rt rr =>
      cases rr
      cases rx
      have ec := hcv _ rt
      subst ec
      obtain ⟨t1, ho⟩ := exo_at I.hok ea
      have hcl : (PySem.W.clsIn X.K D).isSome = true := by
        obtain ⟨cd, hc, _⟩ := PySem.W.any_some C.hd
        rw [hc]
        rfl
      have J : ∃ od, PySem.W.InstAt s.heap a { cls := .ref D, dict := dx, data := .fields #[.ref t1, .none, .none, .none, .bool false, .none] } D od := by
        cases dx with
        | none => exact ⟨none, ho, rfl, rfl, trivial⟩
        | some d =>
          obtain ⟨fs, ed⟩ := hd d rfl
          obtain ⟨mA, hns, _⟩ := exd_at I.hok ed
          obtain ⟨o, es, ep, e1, _⟩ := hns
          exact ⟨some o, ho, rfl, rfl, e1⟩
      obtain ⟨od, J⟩ := J
      exact PySem.W.kia_one (PySem.W.kitx_exc hcl C.hg C.hk C.hs C.ha C.hn C.ht C.hm) I.kIn J e (fun z => nomatch z) fun tk => ⟨.bl b, H, I.kept (t' := tk) fun _ _ z => z, rfl, q⟩
/-- __init__(self, y): self.f = y -/
def spInit1 (K : PySem.W.Frag) (C : Addr) (f : Str) : Sp := fun vs H Q _ => ∃ (a : Addr) (y : V), vs = [.ref a, y] ∧ H a = some (exo a C none) ∧ ∀ d, H d = none → d ≠ a → Q .non (upd (upd H d (exd d [(f, y)])) a (exo a C (some d)))
def spInit2 (K : PySem.W.Frag) (C : Addr) (f g : Str) : Sp := fun vs H Q _ => ∃ (a : Addr) (y z : V), vs = [.ref a, y, z] ∧ H a = some (exo a C none) ∧ ∀ d H', H d = none → d ≠ a → H' a = some (exo a C (some d)) → H' d = some (exd d [(g, z), (f, y)]) → (∀ b, b ≠ a → b ≠ d → H' b = H b) → Q .non H'
/-- a tuple's display, not to be looked into -/
@[irreducible] def tTupI (t : TA) : TE := tTup t
theorem pe_tupI {X : Cx} {es : List Expr} {k : Nat} {t : TA} {pos : Pos} (h : PA X es t) : PE X (.Tuple es k pos) (tTupI t) := by
  unfold tTupI
  exact pe_tup h
theorem pg_tupK {X : Cx} {K : PySem.W.Frag} {es : List Expr} {k : Nat} {t : TGs} {n : Nat} {pos : Pos} (hK : X.K = K) (hc : X.calm = true) (h : PGs X es t)
    (hn : (assignEach es X.env).length = n := by rfl) (hst : (assignEach es X.env).findIdx? (·.1) = none := by rfl) : PG X (.Tuple es k pos) (gTup K n t) := by
  subst hK
  exact pg_tup hc h hn hst
/-- the module's name x is an error class whose __init__ keeps sp -/
structure ExV (P : Program) (w : World) (K : PySem.W.Frag) (mg : Str → Option Value) (base : Heap) (x : Str) (C : Addr) (sp : Sp) : Prop where
  hm : mg x = some (.ref C)
  oex : OexC K C
  fn : ∃ (fI : Addr) (fd : FuncData) (ps : List Str), PySem.W.findIn K (.ref C) "__init__" = some (some (.ref fI)) ∧ PySem.W.typeIn K (.ref fI) = some (.type "function") ∧ FnG P w K mg base 1 fI fd ps sp ∧ Binds K fd ps []
theorem pex {X : Cx} {x : Str} {C : Addr} {j : Nat} {sp : Sp} {e : Expr} {es : List Expr} {ta : TA} {p pos : Pos} (c : ExV X.prog X.w X.K X.mg X.base x C sp) (g : Gd X.A) (hr : Room j X.A) (hk : 2 ≤ j) (hg : Gl X x) (ha : PA X (e :: es) ta)
    (hdb : (x == ("__debug__" : Str)) = false := by decide) (he : starEach (e :: es) X.env = (false, eval e X.env) :: starEach es X.env := by rfl) (hpl : (backTo pos (starEach es X.env)).any (·.1) = false := by rfl) :
    PE X (.Call (.Name x p) (e :: es) [] pos) (tMkV C sp ta) := by
  obtain ⟨fI, fd, ps, iC, tI, F, b⟩ := c.fn
  exact pe_exV c.oex iC tI F g (hr.mono hk) b hg c.hm ha hdb he hpl
/-- .. without an own __init__ -/
structure Ex0 (K : PySem.W.Frag) (mg : Str → Option Value) (x : Str) (C : Addr) : Prop where
  hm : mg x = some (.ref C)
  kC : PySem.W.keepIn K (.ref C) = true
  q : PySem.W.excIn K C [.type "ValueError", .type "Exception", .type "BaseException", .type "object"] "ValueError.__new__" = true
theorem px0 {X : Cx} {x : Str} {C : Addr} {p pos : Pos} (c : Ex0 X.K X.mg x C) (hg : Gl X x) (hdb : (x == ("__debug__" : Str)) = false := by decide) :
    PE X (.Call (.Name x p) [] [] pos) (tMk0 C) := pe_ex0 F.excBase_ValueError c.q c.hm c.kC hg hdb
end Sw
namespace K00
open PySem PySem.Spec PyProof.Rows L2 Sw
def topS (i : Nat) : Stmt := PySem.Challenge.pw_soldwhole_k00_errors_and_small_forms.main.body.getD i (.Pass ⟨0, 0, 0, 0⟩)
/-- the module's own names -/
structure Tx (mg : Str → Option Value) : Prop where
  gcd : mg "gcd" = some (.builtin "math.gcd")
  LONGEST_NAME : ∃ u, mg "LONGEST_NAME" = some u ∧ L2.RelV (.int 12) u
/-! ### what is told of data -/
def isInt (d : PyData) : Bool := isT "int" d && !isT "bool" d
def isFrac : PyData → Bool
  | .tuple [.int n, .int d] => decide (1 ≤ d) && decide (gI n d = 1)
  | _ => false
def isAmt : PyData → Bool
  | .tuple [.int n, .int d] => isFrac (.tuple [.int n, .int d]) && decide (0 ≤ n)
  | _ => false
def isNm : PyData → Bool
  | .str x => nameS x
  | _ => false
theorem isFrac_eq (n d : Int) : isFrac (.tuple [.int n, .int d]) = (decide (1 ≤ d) && decide (gI n d = 1)) := rfl
theorem isAmt_eq (n d : Int) : isAmt (.tuple [.int n, .int d]) = (isFrac (.tuple [.int n, .int d]) && decide (0 ≤ n)) := rfl
/-- tells p of any datum -/
def spP (K : PySem.W.Frag) (p : PyData → Bool) : Sp := fun vs H Q _ => ∃ (v : V) (mu : Addr → Prop) (d : PyData), vs = [v] ∧ Dt K mu H v d ∧ Ok d ∧ ∀ H', Same H H' → Q (.bl (p d)) H'
theorem spP_len {K : PySem.W.Frag} {p : PyData → Bool} {x : Str} : ∀ vs H Q E, spP K p vs H Q E → vs.length = [x].length := fun vs H Q E h => by
  obtain ⟨v, mu, d, rfl, _⟩ := h
  rfl
section
variable {P : Program} {w : World} {K : PySem.W.Frag} {mg : Str → Option Value} {base : Heap}
abbrev sis_integer : Stmt := topS 3
theorem sc_is_integer : FnScope ["thing"] ["thing"] (defScope sis_integer) := ⟨rfl, rfl, rfl, by decide +kernel, rfl, by decide +kernel, by decide +kernel⟩
theorem ok_is_integer {f : Addr} {fd : FuncData} (F : Fun K "is_integer" "is_integer" sis_integer f fd) (B : Bt mg) : FnG P w K mg base 1 f fd ["thing"] (spP K isInt) := by
  refine Fun.okG F sc_is_integer spP_len (fun cdv A outer s H vs Q E hg hr h => ?_)
  obtain ⟨v, mu, d, rfl, hd, ho, k⟩ := h
  refine ⟨_, (pss_one (ps_ret (pe_and (pe_callB call_isD (by rfl) B.isin bb_isin (pa_cons (pv 0) (pa_cons (pe_bltn (v := .ty "int") rfl B.int bb_int rfl) pa_nil))) (pe_one (pe_not (pe_callB call_isD (by rfl) B.isin bb_isin (pa_cons (pv 0) (pa_cons (pe_bltn (v := .ty "bool") rfl B.bool bb_bool rfl) pa_nil)))))))), ?_⟩
  refine ⟨_, rfl, _, "int", mu, d, rfl, by decide, hd, _, rfl, ?_⟩
  have k := k H (Same.refl H)
  unfold isInt at k
  cases h1 : isT "int" d with
  | false =>
    rw [h1] at k
    exact iteF k
  | true =>
    rw [h1] at k
    exact iteT ⟨_, rfl, _, "bool", mu, d, rfl, by decide, hd, _, rfl, k⟩
abbrev sis_fraction : Stmt := topS 4
theorem sc_is_fraction : FnScope ["thing", "n", "d"] ["thing"] (defScope sis_fraction) := ⟨rfl, rfl, rfl, by decide +kernel, rfl, by decide +kernel, by decide +kernel⟩
theorem ok_is_fraction {f : Addr} {fd : FuncData} (F : Fun K "is_fraction" "is_fraction" sis_fraction f fd) (B : Bt mg) (T : Tx mg) (c_is_integer : CalG P w K mg base 1 "is_integer" (spP K isInt)) : FnG P w K mg base 2 f fd ["thing"] (spP K isFrac) := by
  refine Fun.okG F sc_is_fraction spP_len (fun cdv A outer s H vs Q E hg hr h => ?_)
  obtain ⟨v, mu, d, rfl, hd, ho, k⟩ := h
  refine ⟨_, (pss_cons (ps_if (PW.pt (pw_or (pt_not (pt_val (pe_callB call_isD (by rfl) B.isin bb_isin (pa_cons (pv 0) (pa_cons (pe_bltn (v := .ty "tuple") rfl B.tuple bb_tuple rfl) pa_nil))))) (pw_or1 (pt_cmpR op_ne (pe_callB call_lenA (by rfl) B.len boot_len (pa_cons (pv 0) pa_nil)) pe_int (nomark _)))))
      (pss_one (ps_ret pe_bl))
      pss_nil)
    (pss_cons (ps_asg (pv 0) (pg_tup rfl (pgs_cons (pg_name (i := 1) sc_is_fraction.nd rfl (Or.inl rfl)) (pgs_cons (pg_name (i := 2) sc_is_fraction.nd rfl (Or.inl rfl)) pgs_nil))))
    (pss_one (ps_ret (pe_and (pc c_is_integer hg hr (by decide) (by rfl) (pa_cons (pv 1) pa_nil)) (pe_and (pc c_is_integer hg hr (by decide) (by rfl) (pa_cons (pv 2) pa_nil)) (pe_and (pe_cmpR op_ge (pv 2) pe_int (nomark _)) (pe_one (pe_cmpR op_eq (pe_callBfun cr_gcd (by rfl) T.gcd (pa_cons (pv 1) (pa_cons (pv 2) pa_nil))) pe_int (nomark _)))))))))), ?_⟩
  refine ⟨_, rfl, _, "tuple", mu, d, rfl, by decide, hd, _, rfl, ?_⟩
  have k0 := k H (Same.refl H)
  refine iteN (fun ht => ?_) fun ht => ?_
  · have e : isFrac d = false := by
      cases d <;> first | rfl | (simp [isT, tyName] at ht)
    rw [e] at k0
    exact iteT k0
  · obtain ⟨ds, rfl⟩ := (isTup d).mp ht
    obtain ⟨a, xs, rfl, hS, hA⟩ := hd.tupAt
    have el := hA.length
    refine ⟨_, rfl, _, xs.length, rfl, .inr ⟨_, hS, rfl⟩, rfl, _, rfl, iteNe (fun hn => ?_) fun hn => ?_⟩
    · have e : isFrac (.tuple ds) = false := by
        unfold isFrac
        split
        · rename_i z
          injection z with z
          rw [z] at el
          simp at el
          omega
        · rfl
      rw [e] at k0
      exact k0
    · obtain ⟨x, y, d1, d2, rfl, rfl, r1, r2⟩ := hA.two (by omega)
      · have o1 : Ok d1 := ho.inT (by simp)
        have o2 : Ok d2 := ho.inT (by simp)
        refine ⟨_, rfl, a, [x, y], rfl, hS, rfl, x, [y], rfl, y, [], rfl, rfl, ?_⟩
        have no : (∀ n m, d1 = .int n → d2 = .int m → False) → isFrac (.tuple [d1, d2]) = false := fun z => by
          unfold isFrac
          split
          · rename_i q
            injection q with q
            injection q with q1 q
            injection q with q2 _
            exact (z _ _ q1 q2).elim
          · rfl
        refine ⟨x, rfl, x, mu, d1, rfl, r1, o1, fun H1 s1 => ⟨_, rfl, iteB (fun h1 => ?_) fun h1 => ?_⟩⟩
        · refine ⟨y, rfl, y, mu, d2, rfl, r2.fut (.of_same s1), o2, fun H2 s2 => ⟨_, rfl, iteB (fun h2 => ?_) fun h2 => ?_⟩⟩
          · obtain ⟨n, rfl⟩ := (isIntD d1).mp h1
            obtain ⟨m, rfl⟩ := (isIntD d2).mp h2
            cases r1
            cases r2
            have kk := k H2 (s1.trans s2)
            rw [isFrac_eq] at kk
            refine ⟨_, rfl, _, _, rfl, rfl, _, rfl, iteP (fun h3 => ?_) fun h3 => ?_⟩
            · rw [decide_eq_true h3, Bool.true_and] at kk
              refine ⟨_, rfl, _, rfl, _, _, rfl, rfl, ?_⟩
              show Q (.bl (decide (V.int (gI n m) = V.int 1))) H2
              rw [Sw.dec_int]
              exact kk
            · rw [decide_eq_false h3, Bool.false_and] at kk
              exact kk
          · have kk := k H2 (s1.trans s2)
            rw [no fun n m e1 e2 => by rw [e2] at h2; cases h2] at kk
            exact kk
        · have kk := k H1 s1
          rw [no fun n m e1 e2 => by rw [e1] at h1; cases h1] at kk
          exact kk
abbrev sis_amount : Stmt := topS 5
theorem sc_is_amount : FnScope ["thing"] ["thing"] (defScope sis_amount) := ⟨rfl, rfl, rfl, by decide +kernel, rfl, by decide +kernel, by decide +kernel⟩
theorem ok_is_amount {f : Addr} {fd : FuncData} (F : Fun K "is_amount" "is_amount" sis_amount f fd) (B : Bt mg) (c_is_fraction : CalG P w K mg base 2 "is_fraction" (spP K isFrac)) : FnG P w K mg base 3 f fd ["thing"] (spP K isAmt) := by
  refine Fun.okG F sc_is_amount spP_len (fun cdv A outer s H vs Q E hg hr h => ?_)
  obtain ⟨v, mu, d, rfl, hd, ho, k⟩ := h
  refine ⟨_, (pss_one (ps_ret (pe_and (pc c_is_fraction hg hr (by decide) (by rfl) (pa_cons (pv 0) pa_nil)) (pe_one (pe_cmpR op_ge (pe_ix ix_tup (pv 0) pe_int (fun _ _ => rfl)) pe_int (nomark _)))))), ?_⟩
  refine ⟨v, rfl, v, mu, d, rfl, hd, ho, fun H1 s1 => ⟨_, rfl, iteB (fun h1 => ?_) fun h1 => ?_⟩⟩
  · have k1 := k H1 s1
    obtain ⟨n, m, rfl⟩ : ∃ n m, d = .tuple [.int n, .int m] := by
      unfold isFrac at h1
      split at h1
      · exact ⟨_, _, rfl⟩
      · cases h1
    · obtain ⟨a, xs, rfl, hS, hA⟩ := (hd.fut (.of_same s1)).tupAt
      obtain ⟨x, y, d1, d2, rfl, e2, r1, r2⟩ := hA.two rfl
      injection e2 with e3 e4
      injection e4 with e4 _
      subst e3 e4
      cases r1
      refine ⟨_, rfl, a, _, 0, .int n, rfl, rfl, hS, atI_nat (j := 0) rfl, _, _, rfl, rfl, ?_⟩
      rw [isAmt_eq, h1, Bool.true_and] at k1
      exact k1
  · have k1 := k H1 s1
    have e : isAmt d = false := by
      unfold isAmt
      split
      · rw [h1, Bool.false_and]
      · rfl
    rw [e] at k1
    exact k1
abbrev sis_name : Stmt := topS 6
theorem sc_is_name : FnScope ["thing"] ["thing"] (defScope sis_name) := ⟨rfl, rfl, rfl, by decide +kernel, rfl, by decide +kernel, by decide +kernel⟩
theorem ok_is_name {f : Addr} {fd : FuncData} (F : Fun K "is_name" "is_name" sis_name f fd) (B : Bt mg) (T : Tx mg) : FnG P w K mg base 1 f fd ["thing"] (spP K isNm) := by
  refine Fun.okG F sc_is_name spP_len (fun cdv A outer s H vs Q E hg hr h => ?_)
  obtain ⟨v, mu, d, rfl, hd, ho, k⟩ := h
  refine ⟨_, (pss_cons (ps_if (PW.pt (pw_or (pt_not (pt_val (pe_callB call_isD (by rfl) B.isin bb_isin (pa_cons (pv 0) (pa_cons (pe_bltn (v := .ty "str") rfl B.str bb_str rfl) pa_nil))))) (pw_or1 (pt_not (pt_chain op_le op_le pe_int (pe_callB call_lenA (by rfl) B.len boot_len (pa_cons (pv 0) pa_nil)) (C8.pe_gc rfl T.LONGEST_NAME))))))
      (pss_one (ps_ret pe_bl))
      pss_nil)
    (pss_one (ps_ret (pe_and (pe_bm0 PySem.F.plainAttrs_str PySem.F.slot_str_isascii PySem.F.type_str_isascii mt_isascii (pv 0)) (pe_and (pe_bm0 PySem.F.plainAttrs_str PySem.F.slot_str_isalpha PySem.F.type_str_isalpha mt_isalpha (pv 0)) (pe_one (pe_bm0 PySem.F.plainAttrs_str PySem.F.slot_str_islower PySem.F.type_str_islower mt_islower (pv 0)))))))), ?_⟩
  refine ⟨_, rfl, _, "str", mu, d, rfl, by decide, hd, _, rfl, ?_⟩
  have k0 := k H (Same.refl H)
  refine iteN (fun ht => ?_) fun ht => ?_
  · have e : isNm d = false := by
      cases d <;> first | rfl | (simp [isT, tyName] at ht)
    rw [e] at k0
    exact k0
  · obtain ⟨x, rfl⟩ := (isStr d).mp ht
    have hl := ho.strLen
    cases hd
    have e0 : isNm (.str x) = nameS x := rfl
    unfold nameS at e0
    refine ⟨_, rfl, .str x, x.length, rfl, ⟨Nat.le_trans hl (by decide), rfl⟩, _, _, rfl, rfl, _, rfl, iteP (fun h1 => ?_) fun h1 => ?_⟩
    · refine ⟨_, _, rfl, rfl, _, rfl, iteN (fun h2 => ?_) fun h2 => ?_⟩
      · have z : ¬ x.length ≤ 12 := by
          have := of_decide_eq_false h2
          omega
        rw [e0, decide_eq_false z, Bool.and_false, Bool.false_and] at k0
        exact k0
      · have z : x.length ≤ 12 := by
          have := of_decide_eq_true h2
          omega
        have z1 : 1 ≤ x.length := by omega
        rw [e0, decide_eq_true z, decide_eq_true z1, Bool.true_and, Bool.true_and, ← name_txt x z1] at k0
        refine ⟨_, rfl, rfl, x, rfl, rfl, trivial, _, rfl, iteB (fun h3 => ?_) fun h3 => ?_⟩
        · rw [h3, Bool.true_and] at k0
          refine ⟨_, rfl, rfl, x, rfl, rfl, trivial, _, rfl, iteB (fun h4 => ?_) fun h4 => ?_⟩
          · rw [h4, Bool.true_and] at k0
            exact ⟨_, rfl, rfl, x, rfl, rfl, trivial, k0⟩
          · rw [h4, Bool.false_and] at k0
            exact k0
        · rw [h3, Bool.false_and] at k0
          exact k0
    · have z1 : ¬ 1 ≤ x.length := by omega
      rw [e0, decide_eq_false z1, Bool.false_and, Bool.false_and] at k0
      exact ⟨_, rfl, iteT k0⟩
abbrev s_law_is_int : Stmt := topS 26
theorem sc__law_is_int : FnScope ["thing"] ["thing"] (defScope s_law_is_int) := ⟨rfl, rfl, rfl, by decide +kernel, rfl, by decide +kernel, by decide +kernel⟩
theorem ok__law_is_int {f : Addr} {fd : FuncData} (F : Fun K "_law_is_int" "_law_is_int" s_law_is_int f fd) (B : Bt mg) : FnG P w K mg base 1 f fd ["thing"] (spP K isInt) := by
  refine Fun.okG F sc__law_is_int spP_len (fun cdv A outer s H vs Q E hg hr h => ?_)
  obtain ⟨v, mu, d, rfl, hd, ho, k⟩ := h
  refine ⟨_, (pss_one (ps_ret (pe_and (pe_callB call_isD (by rfl) B.isin bb_isin (pa_cons (pv 0) (pa_cons (pe_bltn (v := .ty "int") rfl B.int bb_int rfl) pa_nil))) (pe_one (pe_not (pe_callB call_isD (by rfl) B.isin bb_isin (pa_cons (pv 0) (pa_cons (pe_bltn (v := .ty "bool") rfl B.bool bb_bool rfl) pa_nil)))))))), ?_⟩
  refine ⟨_, rfl, _, "int", mu, d, rfl, by decide, hd, _, rfl, ?_⟩
  have k := k H (Same.refl H)
  unfold isInt at k
  cases h1 : isT "int" d with
  | false =>
    rw [h1] at k
    exact iteF k
  | true =>
    rw [h1] at k
    exact iteT ⟨_, rfl, _, "bool", mu, d, rfl, by decide, hd, _, rfl, k⟩
/-- the common divisor of two integers' sizes -/
def spCommon : Sp := fun vs H Q _ => ∃ a b : Int, vs = [.int a, .int b] ∧ Q (.int (gI a b)) H
abbrev s_law_common : Stmt := topS 21
theorem sc__law_common : FnScope ["one", "other"] ["one", "other"] (defScope s_law_common) := ⟨rfl, rfl, rfl, by decide +kernel, rfl, by decide +kernel, by decide +kernel⟩
theorem ok__law_common {f : Addr} {fd : FuncData} (F : Fun K "_law_common" "_law_common" s_law_common f fd) (B : Bt mg) : FnG P w K mg base 1 f fd ["one", "other"] spCommon := by
  refine Fun.okG F sc__law_common (fun vs H Q E h => ?_) (fun cdv A outer s H vs Q E hg hr h => ?_)
  · obtain ⟨a, b, rfl, _⟩ := h
    rfl
  obtain ⟨a, b, rfl, k⟩ := h
  refine ⟨_, (pss_cons (ps_par (i := 0) (j := 1) rfl sc__law_common.nd rfl rfl (by decide) rfl rfl (pa_cons (pe_callB call_abs (by rfl) B.abs bb_abs (pa_cons (pv 0) pa_nil)) (pa_cons (pe_callB call_abs (by rfl) B.abs bb_abs (pa_cons (pv 1) pa_nil)) pa_nil)) (by rfl))
    (pss_cons (ps_while PassesOwn.never (pt_cmpR op_gt (pv 1) pe_int (nomark _))
      (pss_one (ps_par (i := 0) (j := 1) rfl sc__law_common.nd rfl rfl (by decide) rfl rfl (pa_cons (pv 1) (pa_cons (pe_op op_mod (pe_callTy call_int1 (by rfl) B.int bb_int (pa_cons (pv 0) pa_nil)) (pv 1)) pa_nil)) (by rfl))))
    (pss_one (ps_ret (pv 0))))), ?_⟩
  have ab : ∀ i : Int, (if i < 0 then -i else i) = (i.natAbs : Int) := fun i => by split <;> omega
  refine ⟨_, rfl, a, rfl, _, rfl, b, rfl, _, _, rfl, ?_⟩
  rw [ab a, ab b]
  refine while_by (fun σ H1 => ∃ x y : Nat, σ = [some (.int x), some (.int y)] ∧ Nat.gcd x y = Nat.gcd a.natAbs b.natAbs ∧ H1 = H) (fun σ _ => match σ with | [_, some (.int j)] => j.toNat | _ => 0) ⟨a.natAbs, b.natAbs, rfl, rfl, rfl⟩ ?_ ?_
  · rintro σ H1 ⟨x, y, rfl, e, rfl⟩
    refine ⟨_, rfl, _, _, rfl, rfl, _, rfl, iteP (fun h => ?_) fun h => ?_⟩
    · refine ⟨_, rfl, _, rfl, .inl ⟨_, rfl, _, rfl, _, _, rfl, rfl, h, _, _, rfl, ?_⟩⟩
      refine ⟨⟨y, x % y, ?_, (gcd_step x y).trans e, rfl⟩, ?_⟩
      · show [some (V.int (y : Int)), some (V.int ((x : Int) % (y : Int)))] = _
        rw [← Int.natCast_emod]
      · show ((x : Int) % (y : Int)).toNat < ((y : Nat) : Int).toNat
        have := Int.emod_lt_of_pos (x : Int) h
        have := Int.emod_nonneg (x : Int) (show (y : Int) ≠ 0 by omega)
        omega
    · have hy : y = 0 := by omega
      subst hy
      rw [Nat.gcd_zero_right] at e
      rw [e] 
      exact ⟨_, rfl, k⟩
  · rintro σ H1 R R' hh ⟨v, e1, i, j, e2, e3, c, e4, q⟩
    exact ⟨v, e1, i, j, e2, e3, c, e4, hh _ _ q⟩
abbrev s_law_is_fraction : Stmt := topS 27
theorem sc__law_is_fraction : FnScope ["thing"] ["thing"] (defScope s_law_is_fraction) := ⟨rfl, rfl, rfl, by decide +kernel, rfl, by decide +kernel, by decide +kernel⟩
theorem ok__law_is_fraction {f : Addr} {fd : FuncData} (F : Fun K "_law_is_fraction" "_law_is_fraction" s_law_is_fraction f fd) (B : Bt mg) (c__law_is_int : CalG P w K mg base 1 "_law_is_int" (spP K isInt)) (c__law_common : CalG P w K mg base 1 "_law_common" spCommon) : FnG P w K mg base 2 f fd ["thing"] (spP K isFrac) := by
  refine Fun.okG F sc__law_is_fraction spP_len (fun cdv A outer s H vs Q E hg hr h => ?_)
  obtain ⟨v, mu, d, rfl, hd, ho, k⟩ := h
  refine ⟨_, (pss_cons (ps_if (PW.pt (pw_or (pt_not (pt_val (pe_callB call_isD (by rfl) B.isin bb_isin (pa_cons (pv 0) (pa_cons (pe_bltn (v := .ty "tuple") rfl B.tuple bb_tuple rfl) pa_nil))))) (pw_or (pt_cmpR op_ne (pe_callB call_lenA (by rfl) B.len boot_len (pa_cons (pv 0) pa_nil)) pe_int (nomark _)) (pw_or (pt_not (pt_val (pc c__law_is_int hg hr (by decide) (by rfl) (pa_cons (pe_ix ix_tup (pv 0) pe_int (fun _ _ => rfl)) pa_nil)))) (pw_or1 (pt_not (pt_val (pc c__law_is_int hg hr (by decide) (by rfl) (pa_cons (pe_ix ix_tup (pv 0) pe_int (fun _ _ => rfl)) pa_nil)))))))))
      (pss_one (ps_ret pe_bl))
      pss_nil)
    (pss_one (ps_ret (pe_and (pe_cmpR op_gt (pe_ix ix_tup (pv 0) pe_int (fun _ _ => rfl)) pe_int (nomark _)) (pe_one (pe_cmpR op_eq (pc c__law_common hg hr (by decide) (by rfl) (pa_cons (pe_ix ix_tup (pv 0) pe_int (fun _ _ => rfl)) (pa_cons (pe_ix ix_tup (pv 0) pe_int (fun _ _ => rfl)) pa_nil))) pe_int (nomark _))))))), ?_⟩
  refine ⟨_, rfl, _, "tuple", mu, d, rfl, by decide, hd, _, rfl, ?_⟩
  have k0 := k H (Same.refl H)
  refine iteN (fun ht => ?_) fun ht => ?_
  · have e : isFrac d = false := by
      cases d <;> first | rfl | (simp [isT, tyName] at ht)
    rw [e] at k0
    exact k0
  · obtain ⟨ds, rfl⟩ := (isTup d).mp ht
    obtain ⟨a, xs, rfl, hS, hA⟩ := hd.tupAt
    have el := hA.length
    refine ⟨_, rfl, _, xs.length, rfl, .inr ⟨_, hS, rfl⟩, rfl, _, rfl, iteNe (fun hn => ?_) fun hn => ?_⟩
    · have e : isFrac (.tuple ds) = false := by
        unfold isFrac
        split
        · rename_i z
          injection z with z
          rw [z] at el
          simp at el
          omega
        · rfl
      rw [e] at k0
      exact k0
    · obtain ⟨x, y, d1, d2, rfl, rfl, r1, r2⟩ := hA.two (by omega)
      have o1 : Ok d1 := ho.inT (by simp)
      have o2 : Ok d2 := ho.inT (by simp)
      have no : (∀ n m, d1 = .int n → d2 = .int m → False) → isFrac (.tuple [d1, d2]) = false := fun z => by
        unfold isFrac
        split
        · rename_i q
          injection q with q
          injection q with q1 q
          injection q with q2 _
          exact (z _ _ q1 q2).elim
        · rfl
      refine ⟨_, rfl, a, _, 0, x, rfl, rfl, hS, atI_nat (j := 0) rfl, x, mu, d1, rfl, r1, o1, fun H1 s1 => ⟨_, rfl, iteN (fun h1 => ?_) fun h1 => ?_⟩⟩
      · have kk := k H1 s1
        rw [no fun n m e1 e2 => by rw [e1] at h1; cases h1] at kk
        exact kk
      · have hS1 : SqT K H1 a [x, y] := s1.seqT hS
        refine ⟨_, rfl, a, _, 1, y, rfl, rfl, hS1, atI_nat (j := 1) rfl, y, mu, d2, rfl, r2.fut (.of_same s1), o2, fun H2 s2 => ⟨_, rfl, iteN (fun h2 => ?_) fun h2 => ?_⟩⟩
        · have kk := k H2 (s1.trans s2)
          rw [no fun n m e1 e2 => by rw [e2] at h2; cases h2] at kk
          exact kk
        · obtain ⟨n, rfl⟩ := (isIntD d1).mp h1
          obtain ⟨m, rfl⟩ := (isIntD d2).mp h2
          cases r1
          cases r2
          have hS2 := s2.seqT hS1
          have kk := k H2 (s1.trans s2)
          rw [isFrac_eq] at kk
          refine ⟨_, rfl, a, _, 1, .int m, rfl, rfl, hS2, atI_nat (j := 1) rfl, _, _, rfl, rfl, _, rfl, iteP (fun h3 => ?_) fun h3 => ?_⟩
          · rw [decide_eq_true (show 1 ≤ m by omega), Bool.true_and] at kk
            refine ⟨_, rfl, a, _, 0, .int n, rfl, rfl, hS2, atI_nat (j := 0) rfl, _, rfl, a, _, 1, .int m, rfl, rfl, hS2, atI_nat (j := 1) rfl, n, m, rfl, rfl, ?_⟩
            show Q (.bl (decide (V.int (gI n m) = V.int 1))) H2
            rw [Sw.dec_int]
            exact kk
          · rw [decide_eq_false (show ¬ 1 ≤ m by omega), Bool.false_and] at kk
            exact kk
abbrev s_law_is_amount : Stmt := topS 28
theorem sc__law_is_amount : FnScope ["thing"] ["thing"] (defScope s_law_is_amount) := ⟨rfl, rfl, rfl, by decide +kernel, rfl, by decide +kernel, by decide +kernel⟩
theorem ok__law_is_amount {f : Addr} {fd : FuncData} (F : Fun K "_law_is_amount" "_law_is_amount" s_law_is_amount f fd) (B : Bt mg) (c__law_is_fraction : CalG P w K mg base 2 "_law_is_fraction" (spP K isFrac)) : FnG P w K mg base 3 f fd ["thing"] (spP K isAmt) := by
  refine Fun.okG F sc__law_is_amount spP_len (fun cdv A outer s H vs Q E hg hr h => ?_)
  obtain ⟨v, mu, d, rfl, hd, ho, k⟩ := h
  refine ⟨_, (pss_one (ps_ret (pe_and (pc c__law_is_fraction hg hr (by decide) (by rfl) (pa_cons (pv 0) pa_nil)) (pe_one (pe_cmpR op_ge (pe_ix ix_tup (pv 0) pe_int (fun _ _ => rfl)) pe_int (nomark _)))))), ?_⟩
  refine ⟨v, rfl, v, mu, d, rfl, hd, ho, fun H1 s1 => ⟨_, rfl, iteB (fun h1 => ?_) fun h1 => ?_⟩⟩
  · have k1 := k H1 s1
    obtain ⟨n, m, rfl⟩ : ∃ n m, d = .tuple [.int n, .int m] := by
      unfold isFrac at h1
      split at h1
      · exact ⟨_, _, rfl⟩
      · cases h1
    · obtain ⟨a, xs, rfl, hS, hA⟩ := (hd.fut (.of_same s1)).tupAt
      obtain ⟨x, y, d1, d2, rfl, e2, r1, r2⟩ := hA.two rfl
      injection e2 with e3 e4
      injection e4 with e4 _
      subst e3 e4
      cases r1
      refine ⟨_, rfl, a, _, 0, .int n, rfl, rfl, hS, atI_nat (j := 0) rfl, _, _, rfl, rfl, ?_⟩
      rw [isAmt_eq, h1, Bool.true_and] at k1
      exact k1
  · have k1 := k H1 s1
    have e : isAmt d = false := by
      unfold isAmt
      split
      · rw [h1, Bool.false_and]
      · rfl
    rw [e] at k1
    exact k1
abbrev s_law_is_name : Stmt := topS 29
theorem sc__law_is_name : FnScope ["thing", "sign"] ["thing"] (defScope s_law_is_name) := ⟨rfl, rfl, rfl, by decide +kernel, rfl, by decide +kernel, by decide +kernel⟩
theorem ok__law_is_name {f : Addr} {fd : FuncData} (F : Fun K "_law_is_name" "_law_is_name" s_law_is_name f fd) (B : Bt mg) : FnG P w K mg base 1 f fd ["thing"] (spP K isNm) := by
  refine Fun.okG F sc__law_is_name spP_len (fun cdv A outer s H vs Q E hg hr h => ?_)
  have hu := Room.u64 hr
  obtain ⟨v, mu, d, rfl, hd, ho, k⟩ := h
  refine ⟨_, (pss_cons (ps_if (PW.pt (pw_or (pt_not (pt_val (pe_callB call_isD (by rfl) B.isin bb_isin (pa_cons (pv 0) (pa_cons (pe_bltn (v := .ty "str") rfl B.str bb_str rfl) pa_nil))))) (pw_or1 (pt_not (pt_chain op_le op_le pe_int (pe_callB call_lenA (by rfl) B.len boot_len (pa_cons (pv 0) pa_nil)) pe_int)))))
      (pss_one (ps_ret pe_bl))
      pss_nil)
    (pss_one (ps_ret (pe_cmpR (op_eqW hu) (pe_lc (own := [("sign", 1)]) rfl sc__law_is_name.nd (pi_str (pv 0)) (blkOk_by (own := [("sign", 1)]) (N := ["thing", "sign"]) (sc := (defScope s_law_is_name)) (by decide +kernel)) (fun _ _ _ _ _ => (pg_name (i := 1) sc__law_is_name.nd rfl (Or.inl rfl))) (fun _ _ _ _ _ => (pts_one (pt_cmpR op_notIn_sign (pv 1) pe_str (by rfl)))) (fun _ _ _ _ _ => (pv 1))) (pe_lst pa_nil) (nomark _))))), ?_⟩
  refine ⟨_, rfl, _, "str", mu, d, rfl, by decide, hd, _, rfl, ?_⟩
  have k0 := k H (Same.refl H)
  refine iteN (fun ht => ?_) fun ht => ?_
  · have e : isNm d = false := by
      cases d <;> first | rfl | (simp [isT, tyName] at ht)
    rw [e] at k0
    exact k0
  · obtain ⟨x, rfl⟩ := (isStr d).mp ht
    have hl := ho.strLen
    cases hd
    have e0 : isNm (.str x) = nameS x := rfl
    unfold nameS at e0
    refine ⟨_, rfl, .str x, x.length, rfl, ⟨Nat.le_trans hl (by decide), rfl⟩, _, _, rfl, rfl, _, rfl, iteP (fun h1 => ?_) fun h1 => ?_⟩
    · refine ⟨_, _, rfl, rfl, _, rfl, iteN (fun h2 => ?_) fun h2 => ?_⟩
      · have z : ¬ x.length ≤ 12 := by
          have := of_decide_eq_false h2
          omega
        rw [e0, decide_eq_false z, Bool.and_false, Bool.false_and] at k0
        exact k0
      · have z : x.length ≤ 12 := by
          have := of_decide_eq_true h2
          omega
        have z1 : 1 ≤ x.length := by omega
        rw [e0, decide_eq_true z, decide_eq_true z1, Bool.true_and, Bool.true_and] at k
        -- [sign for sign in thing if sign not in ..]
        refine ⟨_, rfl, x, rfl, fun D hD => lc_it walk_str (fun i H1 => Same H H1 ∧ ∃ acc : List Str, H1 D = some (.lst (acc.map V.str)) ∧ acc.length ≤ i ∧ (∀ z ∈ acc, PyData.strOk z = true) ∧ (acc = [] ↔ (x.cps.toList.take i).all low = true)) ?_ (fun _ _ _ _ => trivial) ?_ ?_⟩
        · exact ⟨fun b o e => by rw [upd_ne (ne_of_none e hD)]; exact e, [], upd_same, Nat.le_refl _, by simp, by simp⟩
        · rintro i y H1 H2 hi ⟨sm, acc, hDa, hacc, hso, hall⟩ ⟨rfl, c, hc, rfl⟩
          refine ⟨rfl, _, rfl, c, az, rfl, rfl, _, rfl, ?_⟩
          have ht : x.cps.toList.take (i + 1) = x.cps.toList.take i ++ [c] := by
            rw [List.take_add_one]
            rw [Array.getElem?_toList, hc]
            rfl
          have hc2 : c < 0x110000 := by
            have z2 : PyData.strOk x = true := by simpa only [okD] using ho.ok
            have z3 := Array.all_eq_true_iff_forall_mem.mp z2 c (Array.mem_of_getElem? hc)
            simpa using z3
          rw [az_mem]
          refine iteN (fun h3 => ?_) fun h3 => ?_
          · refine ⟨_, rfl, acc.map V.str, hDa, ?_, fun b o e => by rw [upd_ne (ne_of_none e hD)]; exact sm b o e, acc ++ [⟨#[c]⟩], ?_, ?_, ?_, ?_⟩
            · rw [List.length_map]
              have : i < x.length := hi
              exact small1000 (by omega)
            · rw [upd_same, List.map_append]
              rfl
            · rw [List.length_append]
              show acc.length + 1 ≤ i + 1
              omega
            · intro z hz
              rcases List.mem_append.mp hz with hz | hz
              · exact hso z hz
              · rw [List.mem_singleton.mp hz]
                show (#[c].all fun x => decide (x < 1114112)) = true
                simpa using hc2
            · rw [ht, List.all_append]
              constructor
              · intro q
                simp at q
              · intro q
                rw [List.all_cons, h3] at q
                simp at q
          · refine ⟨sm, acc, hDa, by omega, hso, ?_⟩
            rw [ht, List.all_append, List.all_cons, h3, List.all_nil, Bool.and_true, Bool.and_true]
            exact hall
        · rintro H1 ⟨sm, acc, hDa, hacc, hso, hall⟩
          have hx : (x.cps.toList.take x.cps.size) = x.cps.toList := List.take_of_length_le (by simp)
          rw [hx] at hall
          refine ⟨Nat.zero_le _, fun q hq => ?_⟩
          have nDq : D ≠ q := ne_of_none hDa hq
          have sm2 : Same H (upd H1 q (.lst [])) := fun b o e => by
            rw [upd_ne (ne_of_none (sm b o e) hq)]
            exact sm b o e
          refine ⟨fun _ => False, .list (acc.map PyData.str), .list [], .lst (fun z => z) (.inl (by rw [upd_ne nDq]; exact hDa)) (DtA.strs acc), .lst (fun z => z) (.inl upd_same) .nil, ?_, by decide, ?_⟩
          · exact shaped_strs hso
          · have kk := k _ sm2
            have e1 : PyData.eqv (.list (acc.map PyData.str)) (.list []) = x.cps.toList.all low := by
              rw [Bool.eq_iff_iff, ← hall]
              cases acc <;> simp [PyData.eqv, PyData.eqvAll]
            rw [e1]
            exact kk
    · have z1 : ¬ 1 ≤ x.length := by omega
      rw [e0, decide_eq_false z1, Bool.false_and, Bool.false_and] at k0
      exact ⟨_, rfl, iteT k0⟩
end
end K00
namespace K00
open PySem PySem.Spec PyProof.Rows L2 Sw
section
variable {P : Program} {w : World} {K : PySem.W.Frag} {mg : Str → Option Value} {base : Heap}
abbrev s_law_take : Stmt := topS 19
theorem sc__law_take : FnScope ["bag", "many", "cell", "stirred", "value", "begin", "second"] ["bag", "many"] (defScope s_law_take) := ⟨rfl, rfl, rfl, by decide +kernel, rfl, by decide +kernel, by decide +kernel⟩
theorem ok__law_take {f : Addr} {fd : FuncData} (F : Fun K "_law_take" "_law_take" s_law_take f fd) (B : Bt mg) : FnG P w K mg base 1 f fd ["bag", "many"] spTake := by
  refine Fun.okG F sc__law_take (fun vs H Q E h => ?_) (fun cdv A outer s H vs Q E hg hr h => ?_)
  · obtain ⟨b, m, rfl, _⟩ := h
    rfl
  obtain ⟨b, many, rfl, hb, hm0, hm1, k⟩ := h
  refine ⟨_, (C8.pss_cut (ps_if (pt_cmpR op_eq (pe_ix ix_list (pv 0) pe_int (fun _ _ => rfl)) pe_int (nomark _))
      (pss_cons (ps_set (i := 2) sc__law_take.nd rfl (Or.inl rfl) (pe_ix ix_list (pe_op op_cat (pe_slice sl_list (pe_ix ix_list (pv 0) pe_int (fun _ _ => rfl)) (po_some (pe_ix ix_list (pv 0) pe_int (fun _ _ => rfl))) po_none) (pe_lst (pa_cons pe_int pa_nil))) pe_int (fun _ _ => rfl)))
      (pss_cons (ps_augS (pv 0) pe_int get_list pe_int ip_add set_list)
      (C8.pss_cut (ps_if (pt_cmpR op_ge (pv 2) (pe_op op_pow pe_int pe_int) (nomark _))
        (pss_one (ps_asg (pv 2) (pg_sub (pv 0) pe_int set_list)))
        pss_nil)
      (pss_cons (ps_set (i := 3) sc__law_take.nd rfl (Or.inl rfl) (pe_op op_add (pe_op op_add (pe_op op_mul (pe_ix ix_list (pv 0) pe_int (fun _ _ => rfl)) pe_int) (pe_op op_mod (pe_callTy call_int1 (by rfl) B.int bb_int (pa_cons (pv 2) pa_nil)) pe_int)) (pe_op op_mul pe_int (pe_ix ix_list (pv 0) pe_int (fun _ _ => rfl)))))
      (pss_one (ps_asg (pe_op op_mod (pe_callTy call_int1 (by rfl) B.int bb_int (pa_cons (pv 3) pa_nil)) pe_int) (pg_sub (pv 0) pe_int set_list)))))))
      pss_nil)
    (pss_cons (ps_if (pt_cmpR op_gt (pe_ix ix_list (pv 0) pe_int (fun _ _ => rfl)) pe_int (nomark _))
      (pss_cons (ps_set (i := 4) sc__law_take.nd rfl (Or.inl rfl) (pe_op op_mod (pe_callTy call_int1 (by rfl) B.int bb_int (pa_cons (pe_ix ix_list (pv 0) pe_int (fun _ _ => rfl)) pa_nil)) (pv 1)))
      (pss_cons (ps_asg (pe_op op_fdiv (pe_callTy call_int1 (by rfl) B.int bb_int (pa_cons (pe_ix ix_list (pv 0) pe_int (fun _ _ => rfl)) pa_nil)) (pv 1)) (pg_sub (pv 0) pe_int set_list))
      (pss_one (ps_ret (pv 4)))))
      pss_nil)
    (pss_cons (ps_set (i := 5) sc__law_take.nd rfl (Or.inl rfl) (pe_op op_mod (pe_callTy call_int1 (by rfl) B.int bb_int (pa_cons (pe_op op_mul (pe_op op_add (pe_ix ix_list (pv 0) pe_int (fun _ _ => rfl)) pe_int) pe_int) pa_nil)) pe_int))
    (pss_cons (ps_set (i := 6) sc__law_take.nd rfl (Or.inl rfl) (pe_op op_mod (pe_callTy call_int1 (by rfl) B.int bb_int (pa_cons (pe_op op_mul (pe_op op_mod (pe_callTy call_int1 (by rfl) B.int bb_int (pa_cons (pe_op op_mul (pv 5) (pv 5)) pa_nil)) pe_int) pe_int) pa_nil)) pe_int))
    (pss_one (ps_ret (pe_op op_mod (pe_callTy call_int1 (by rfl) B.int bb_int (pa_cons (pe_op op_fdiv (pv 6) pe_int) pa_nil)) (pv 1)))))))), ?_⟩
  obtain ⟨x, y, z, l, cs, h1, h2, hlb, hx, hy0, hy1, hz, hcl, hc⟩ := hb
  refine ⟨fun σ H' => ∃ v2 v3, σ = [some (.ref b), some (.int many), v2, v3, none, none, none] ∧ Rel b H H', ?_, ?_⟩
  · refine ⟨_, rfl, b, _, 0, .int x, rfl, rfl, .of h1, atI_nat (j := 0) rfl, rfl, _, rfl, iteEq (fun e => ?_) fun e => ?_⟩
    · -- cell = (bag[3][bag[2]:] + [0])[0]
      refine ⟨_, rfl, b, _, 3, .ref l, rfl, rfl, .of h1, atI_nat (j := 3) rfl, _, rfl, b, _, 2, .int z, rfl, rfl, .of h1, atI_nat (j := 2) rfl, z, rfl, l, _, rfl, .of h2, fun p1 n1 => ?_⟩
      refine ⟨by show 1 ≤ sizeLine; decide, fun p2 n2 => ?_⟩
      have s1 := same_upd (o := .lst (cutV (cs.map V.int) (some z) none)) n1
      have s2 := same_upd (o := .lst [.int 0]) n2
      have hle : (cutV (cs.map V.int) (some z) none).length ≤ 63 := Nat.le_trans (cut_len _ _ _) (by rw [List.length_map]; exact hcl)
      refine ⟨p1, p2, _, _, rfl, rfl, s2 _ _ upd_same, upd_same, Nat.le_of_lt (small1000 (by show _ + 1 ≤ 1000; omega)), fun p3 n3 => ?_⟩
      have s3 := same_upd (o := .lst (cutV (cs.map V.int) (some z) none ++ [.int 0])) n3
      obtain ⟨c, hc0, hcv⟩ := head_cell hc (some z) none
      refine ⟨p3, _, 0, .int c, rfl, rfl, .of upd_same, atI_nat (j := 0) hcv, ?_⟩
      have s13 := (s1.trans s2).trans s3
      clear s1 s2 s3 n1 n2 n3 hle hcv
      revert s13
      generalize upd (upd (upd H p1 (.lst (cutV (cs.map V.int) (some z) none))) p2 (.lst [.int 0])) p3 (.lst (cutV (cs.map V.int) (some z) none ++ [.int 0])) = H3
      intro s13
      have g1 := s13 _ _ h1
      have g2 := s13 _ _ h2
      -- bag[2] += 1
      refine ⟨_, rfl, b, _, 2, .int z, rfl, rfl, .of g1, rfl, z, 1, rfl, rfl, b, _, 2, 2, rfl, rfl, g1, rfl, ?_⟩
      have r1 : Rel b H (upd H3 b (.lst [.int x, .int y, .int (z + 1), .ref l])) := ⟨fun a o n e => by rw [upd_ne n]; exact s13 a o e, fun k z => by rw [z.eq h1]; exact ⟨_, _, _, upd_same⟩, x, y, z + 1, l, cs, upd_same, by rw [upd_ne hlb]; exact g2, hlb, hx, hy0, hy1, by omega, hcl, hc⟩
      -- if cell >= 10 ** 18: bag[0] = cell
      refine ⟨fun σ H' => ∃ x', σ = [some (.ref b), some (.int many), some (.int c), none, none, none, none] ∧ Rel b H H' ∧ H' b = some (.lst [.int x', .int y, .int (z + 1), .ref l]) ∧ 0 ≤ x', ?_, ?_⟩
      · refine ⟨_, rfl, _, _, rfl, rfl, ⟨by decide, by decide, by decide⟩, _, _, rfl, rfl, _, rfl, iteP (fun h => ?_) fun h => ?_⟩
        · refine ⟨_, rfl, _, rfl, b, _, 0, 0, rfl, rfl, upd_same, rfl, c, rfl, ⟨fun a o n e => by rw [upd_ne n]; exact r1.keep a o n e, fun k z => by rw [z.eq h1]; exact ⟨_, _, _, upd_same⟩, c, y, z + 1, l, cs, upd_same, by rw [upd_ne hlb, upd_ne hlb]; exact g2, hlb, hc0, hy0, hy1, by omega, hcl, hc⟩, upd_same, hc0⟩
        · exact ⟨x, rfl, r1, upd_same, hx⟩
      · rintro σ H' ⟨x', rfl, R, hB, hx'⟩
        have e1 : l ≠ b := hlb
        have g3 : H' l = some (.lst (cs.map V.int)) := R.keep _ _ hlb h2
        refine ⟨_, rfl, b, _, 1, .int y, rfl, rfl, .of hB, atI_nat (j := 1) rfl, _, _, rfl, rfl, .inl ⟨by omega, by omega⟩, _, rfl, .inl ⟨_, rfl, _, _, rfl, rfl, (by show (0 : Int) < _; decide), _, _, rfl, rfl, _, rfl, b, _, 2, .int (z + 1), rfl, rfl, .of hB, atI_nat (j := 2) rfl, _, _, rfl, rfl, .inl ⟨by decide, by decide⟩, _, _, rfl, rfl, ?_⟩⟩
        refine ⟨_, rfl, .inl ⟨_, rfl, _, _, rfl, rfl, (by show (0 : Int) < _; decide), _, rfl, b, _, 1, 1, rfl, rfl, hB, rfl, _, _, rfl, ?_⟩⟩
        exact ⟨fun a o n e => by rw [upd_ne n]; exact R.keep a o n e, fun k z => by rw [z.eq h1]; exact ⟨_, _, _, upd_same⟩, x', _, z + 1, l, cs, upd_same, by rw [upd_ne hlb]; exact g3, hlb, hx', Int.emod_nonneg _ (by decide), Int.emod_lt_of_pos _ (by decide), by omega, hcl, hc⟩
    · exact ⟨_, _, rfl, .refl ⟨x, y, z, l, cs, h1, h2, hlb, hx, hy0, hy1, hz, hcl, hc⟩⟩
  · rintro σ H' ⟨v2, v3, rfl, R⟩
    obtain ⟨x, y, z, l, cs, h1, h2, hlb, hx, hy0, hy1, hz, hcl, hc⟩ := id R.bag
    refine ⟨_, rfl, b, _, 0, .int x, rfl, rfl, .of h1, atI_nat (j := 0) rfl, _, _, rfl, rfl, _, rfl, iteP (fun h => ?_) fun h => ?_⟩
    · refine ⟨_, rfl, b, _, 0, .int x, rfl, rfl, .of h1, atI_nat (j := 0) rfl, .inl ⟨_, rfl, _, rfl, _, _, rfl, rfl, hm0, ?_⟩⟩
      refine ⟨_, rfl, b, _, 0, .int x, rfl, rfl, .of h1, atI_nat (j := 0) rfl, .inl ⟨_, rfl, _, rfl, _, _, rfl, rfl, ⟨hm0, hm1⟩, _, rfl, b, _, 0, 0, rfl, rfl, h1, rfl, ?_⟩⟩
      refine ⟨_, rfl, k _ _ (Int.emod_nonneg _ (by omega)) (Int.emod_lt_of_pos _ hm0) ⟨fun a o n e => by rw [upd_ne n]; exact R.keep a o n e, fun k z => by rw [(R.cell k z).eq h1]; exact ⟨_, _, _, upd_same⟩, _, y, z, l, cs, upd_same, by rw [upd_ne hlb]; exact h2, hlb, Int.ediv_nonneg hx (by omega), hy0, hy1, hz, hcl, hc⟩⟩
    · have f1 := Int.emod_nonneg ((y + 1) * 39373) (show (1000000007 : Int) ≠ 0 by decide)
      have f2 := Int.emod_lt_of_pos ((y + 1) * 39373) (show (0 : Int) < 1000000007 by decide)
      refine ⟨_, rfl, b, _, 1, .int y, rfl, rfl, .of h1, atI_nat (j := 1) rfl, _, _, rfl, rfl, _, _, rfl, rfl, .inl ⟨by omega, by omega⟩, .inl ⟨_, rfl, _, _, rfl, rfl, (by show (0 : Int) < _; decide), ?_⟩⟩
      refine ⟨_, rfl, _, rfl, _, _, rfl, rfl, .inl ⟨by omega, by omega⟩, .inl ⟨_, rfl, _, _, rfl, rfl, (by show (0 : Int) < _; decide), _, _, rfl, rfl, .inr ⟨by decide, by decide⟩, .inl ⟨_, rfl, _, _, rfl, rfl, (by show (0 : Int) < _; decide), ?_⟩⟩⟩
      refine ⟨_, rfl, _, _, rfl, rfl, ⟨by decide, by decide⟩, .inl ⟨_, rfl, _, rfl, _, _, rfl, rfl, hm0, k _ _ (Int.emod_nonneg _ (by omega)) (Int.emod_lt_of_pos _ hm0) R⟩⟩
abbrev s_law_some : Stmt := topS 20
theorem sc__law_some : FnScope ["bag", "things"] ["bag", "things"] (defScope s_law_some) := ⟨rfl, rfl, rfl, by decide +kernel, rfl, by decide +kernel, by decide +kernel⟩
theorem ok__law_some {f : Addr} {fd : FuncData} (F : Fun K "_law_some" "_law_some" s_law_some f fd) (B : Bt mg) (c__law_take : CalG P w K mg base 1 "_law_take" spTake) : FnG P w K mg base 2 f fd ["bag", "things"] spSome := by
  refine Fun.okG F sc__law_some (fun vs H Q E h => ?_) (fun cdv A outer s H vs Q E hg hr h => ?_)
  · obtain ⟨b, t, xs, rfl, _⟩ := h
    rfl
  obtain ⟨b, t, xs, rfl, hb, ht, h1, h2, h3, k⟩ := h
  refine ⟨_, (pss_one (ps_ret (pe_ix ix_list (pv 1) (pc c__law_take hg hr (by decide) (by rfl) (pa_cons (pv 0) (pa_cons (pe_callB call_lenA (by rfl) B.len boot_len (pa_cons (pv 1) pa_nil)) pa_nil))) (fun _ _ => rfl)))), ?_⟩
  refine ⟨_, rfl, _, rfl, _, rfl, _, xs.length, rfl, .inl ⟨xs, .of h1, rfl⟩, b, _, rfl, hb, by omega, by omega, fun v H' v0 v1 R => ?_⟩
  obtain ⟨i, rfl⟩ : ∃ i : Nat, v = (i : Int) := ⟨v.toNat, by omega⟩
  have hi : i < xs.length := by omega
  exact ⟨t, xs, i, xs[i], rfl, rfl, .of (R.keep _ _ ht h1), atI_nat (List.getElem?_eq_getElem hi), k i _ H' (List.getElem?_eq_getElem hi) R⟩
/-- the FRACTION n / d -/
def spRed : Sp := fun vs H Q _ => ∃ n d : Int, vs = [.int n, .int d] ∧ d ≠ 0 ∧ d.natAbs < 2 ^ 8000 ∧ ∀ p, H p = none → Q (.ref p) (upd H p (.tup [.int (redI n d).1, .int (redI n d).2]))
abbrev s_law_reduced : Stmt := topS 22
theorem sc__law_reduced : FnScope ["n", "d", "shared"] ["n", "d"] (defScope s_law_reduced) := ⟨rfl, rfl, rfl, by decide +kernel, rfl, by decide +kernel, by decide +kernel⟩
theorem ok__law_reduced {f : Addr} {fd : FuncData} (F : Fun K "_law_reduced" "_law_reduced" s_law_reduced f fd) (B : Bt mg) (c__law_common : CalG P w K mg base 1 "_law_common" spCommon) : FnG P w K mg base 2 f fd ["n", "d"] spRed := by
  refine Fun.okG F sc__law_reduced (fun vs H Q E h => ?_) (fun cdv A outer s H vs Q E hg hr h => ?_)
  · obtain ⟨n, d, rfl, _⟩ := h
    rfl
  obtain ⟨n, d, rfl, h0, h1, k⟩ := h
  refine ⟨_, (pss_cons (ps_set (i := 2) sc__law_reduced.nd rfl (Or.inl rfl) (pe_callB (call_max2 rfl) (by rfl) B.max bb_max (pa_cons pe_int (pa_cons (pc c__law_common hg hr (by decide) (by rfl) (pa_cons (pv 0) (pa_cons (pv 1) pa_nil))) pa_nil))))
    (pss_cons (ps_if (pt_cmpR op_lt (pv 1) pe_int (nomark _))
      (pss_one (ps_ret (pe_tup (pa_cons (pe_op op_fdivW (pe_un un_neg (pv 0)) (pv 2)) (pa_cons (pe_op op_fdivW (pe_un un_neg (pv 1)) (pv 2)) pa_nil)))))
      pss_nil)
    (pss_one (ps_ret (pe_tup (pa_cons (pe_op op_fdivW (pv 0) (pv 2)) (pa_cons (pe_op op_fdivW (pv 1) (pv 2)) pa_nil))))))), ?_⟩
  have hw : CDivW 0 (sh n d) := wide_div (sh_pos n d) (Nat.lt_of_le_of_lt (sh_le h0) h1) (by decide) (by decide)
  have e1 : (if gI n d > 1 then gI n d else 1) = sh n d := rfl
  refine ⟨_, rfl, _, rfl, n, d, rfl, _, _, rfl, ?_⟩
  rw [e1]
  refine ⟨_, rfl, _, _, rfl, rfl, _, rfl, iteP (fun h => ?_) fun h => ?_⟩
  · have e2 : redI n d = ((-n) / sh n d, (-d) / sh n d) := if_pos h
    rw [e2] at k
    refine ⟨_, rfl, _, rfl, _, rfl, _, _, rfl, rfl, hw, _, rfl, _, rfl, _, rfl, _, _, rfl, rfl, hw, by show 2 ≤ sizeLine; decide, fun p np => k p np⟩
  · have e2 : redI n d = (n / sh n d, d / sh n d) := if_neg h
    rw [e2] at k
    refine ⟨_, rfl, _, rfl, _, _, rfl, rfl, hw, _, rfl, _, rfl, _, _, rfl, rfl, hw, by show 2 ≤ sizeLine; decide, fun p np => k p np⟩
abbrev s_law_number : Stmt := topS 23
theorem sc__law_number : FnScope ["bag", "most", "way"] ["bag", "most"] (defScope s_law_number) := ⟨rfl, rfl, rfl, by decide +kernel, rfl, by decide +kernel, by decide +kernel⟩
theorem ok__law_number {f : Addr} {fd : FuncData} (F : Fun K "_law_number" "_law_number" s_law_number f fd) (B : Bt mg) (c__law_take : CalG P w K mg base 1 "_law_take" spTake) (c__law_some : CalG P w K mg base 2 "_law_some" spSome) (c__law_reduced : CalG P w K mg base 2 "_law_reduced" spRed) :
    FnG P w K mg base 3 f fd ["bag", "most"] (spNum K) := by
  refine Fun.okG F sc__law_number (fun vs H Q E h => ?_) (fun cdv A outer s H vs Q E hg hr h => ?_)
  · obtain ⟨most, _, _, b, mu, rfl, _⟩ := h
    rfl
  obtain ⟨most, hm0, hm1, b, mu, rfl, hmu, hb, hM, k⟩ := h
  refine ⟨_, (pss_cons (ps_set (i := 2) sc__law_number.nd rfl (Or.inl rfl) (pc c__law_take hg hr (by decide) (by rfl) (pa_cons (pv 0) (pa_cons pe_int pa_nil))))
    (pss_cons (ps_if (pt_cmpR op_eq (pv 2) pe_int (nomark _))
      (pss_one (ps_ret (pc c__law_reduced hg hr (by decide) (by rfl) (pa_cons (pe_op op_add pe_int (pc c__law_take hg hr (by decide) (by rfl) (pa_cons (pv 0) (pa_cons (pe_op op_mul pe_int (pv 1)) pa_nil)))) (pa_cons (pc c__law_some hg hr (by decide) (by rfl) (pa_cons (pv 0) (pa_cons (pe_lst (pa_cons pe_int (pa_cons pe_int (pa_cons pe_int pa_nil)))) pa_nil))) pa_nil)))))
      pss_nil)
    (pss_cons (ps_if (pt_cmpR op_eq (pv 2) pe_int (nomark _))
      (pss_one (ps_ret (pc c__law_some hg hr (by decide) (by rfl) (pa_cons (pv 0) (pa_cons (pe_lst (pa_cons (pe_tup (pa_cons pe_int (pa_cons pe_int pa_nil))) (pa_cons (pe_tup (pa_cons pe_int (pa_cons pe_int pa_nil))) (pa_cons (pe_tup (pa_cons pe_int (pa_cons pe_int pa_nil))) (pa_cons (pe_tup (pa_cons pe_int (pa_cons pe_int pa_nil))) (pa_cons (pe_tup (pa_cons pe_int (pa_cons pe_int pa_nil))) pa_nil)))))) pa_nil)))))
      pss_nil)
    (pss_one (ps_ret (pe_tup (pa_cons (pe_op op_add pe_int (pc c__law_take hg hr (by decide) (by rfl) (pa_cons (pv 0) (pa_cons (pv 1) pa_nil)))) (pa_cons pe_int pa_nil)))))))), ?_⟩
  -- way = _law_take(bag, 12)
  refine ⟨_, rfl, b, _, rfl, hb, by decide, by decide, fun way H1 w0 w1 R1 => ?_⟩
  have M1 := hM.rel R1
  refine ⟨_, rfl, rfl, _, rfl, iteEq (fun e => ?_) fun e => ?_⟩
  · -- _law_reduced(1 + _law_take(bag, 3 * most), _law_some(bag, [2, 3, 7]))
    refine ⟨_, rfl, _, rfl, _, _, rfl, rfl, .inl ⟨by decide, by decide⟩, b, _, rfl, R1.bag, by omega, by omega, fun t H2 t0 t1 R2 => ⟨_, _, rfl, rfl, ?_⟩⟩
    have M2 := M1.rel R2
    refine gv_some (K := K) (mu := mu) (D := fun d => ∃ j : Int, d = .int j ∧ 2 ≤ j ∧ j ≤ 7) (n := 3) hmu rfl (gvA_cons hmu (ge_int.gv ⟨2, rfl, by decide, by decide⟩) (gvA_cons hmu (ge_int.gv ⟨3, rfl, by decide, by decide⟩) (gvA_cons hmu (ge_int.gv ⟨7, rfl, by decide, by decide⟩) gvA_nil))) (by decide) (by decide) H2 (.refl R2.bag) M2 _ fun v H3 d hd R3 hv _ => ?_
    obtain ⟨j, rfl, j0, j1⟩ := hd
    cases hv
    have hp : (7 : Nat) < 2 ^ 8000 := by decide +kernel
    refine ⟨_, _, rfl, by omega, Nat.lt_of_le_of_lt (show j.natAbs ≤ 7 by omega) hp, fun p np => ?_⟩
    have R := (R1.trans R2).trans R3
    obtain ⟨q1, q2, q3, q4, q5⟩ := redI_pos (show 0 < 1 + t by omega) (show 0 < j by omega)
    exact k (.ref p) _ _ ⟨_, _, rfl, q1, by omega, q3, by omega, q5⟩ (R.same (same_upd np)) (.tup (.inl upd_same) (.cons (.int _) (.cons (.int _) .nil))) (own_not fun _ z => nomatch z)
  · refine ⟨_, rfl, rfl, _, rfl, iteEq (fun e1 => ?_) fun e1 => ?_⟩
    · have g : ∀ {σ : L2.St} {H0 : Hp} {n m : Int}, NumP n m → Gv K b mu σ H0 (tTup (tCons (tC (.int n)) (tCons (tC (.int m)) tNil))) NumD := fun {σ H0 n m} h => (ge_tup hmu (geA_cons hmu ge_int (geA_cons hmu ge_int geA_nil)) (show 2 ≤ 1000 by decide)).gv (numD h)
      refine gv_some (K := K) (mu := mu) (D := NumD) (n := 5) hmu rfl (gvA_cons hmu (g ⟨by decide, by decide, by decide, by decide, by decide⟩) (gvA_cons hmu (g ⟨by decide, by decide, by decide, by decide, by decide⟩) (gvA_cons hmu (g ⟨by decide, by decide, by decide, by decide, by decide⟩) (gvA_cons hmu (g ⟨by decide, by decide, by decide, by decide, by decide⟩) (gvA_cons hmu (g ⟨by decide, by decide, by decide, by decide, by decide⟩) gvA_nil))))) (by decide) (by decide) H1 (.refl R1.bag) M1 _ fun v H3 d hd R3 hv _ => ?_
      exact k v H3 d hd (R1.trans R3) hv hd.not
    · refine ⟨_, rfl, _, rfl, b, _, rfl, R1.bag, by omega, by omega, fun t H2 t0 t1 R2 => ⟨_, _, rfl, rfl, by show 2 ≤ sizeLine; decide, fun p np => ?_⟩⟩
      refine k (.ref p) _ _ ⟨_, _, rfl, by omega, by omega, by decide, by decide, ?_⟩ ((R1.trans R2).same (same_upd np)) (.tup (.inl upd_same) (.cons (.int _) (.cons (.int _) .nil))) (own_not fun _ z => nomatch z)
      unfold gI
      simp
end
end K00
namespace K00
open PySem PySem.Spec PyProof.Rows L2 Sw
/-- a thing that is the same as itself by == -/
def Selfs (K : PySem.W.Frag) (H : Hp) (x y : V) : Prop := ∃ n, n ≤ 60 ∧ EqR K H (EqV K H n) x y
def spAlike (K : PySem.W.Frag) : Sp := fun vs H Q _ => ∃ (x y : V) (mu : Addr → Prop) (d : PyData), vs = [x, y] ∧ Dt K mu H x d ∧ Dt K mu H y d ∧ Ok d ∧ (d.hasDict = false ∨ (mu sysModules ∧ Selfs K H x y)) ∧ Q (.bl true) H
section
variable {P : Program} {w : World} {K : PySem.W.Frag} {mg : Str → Option Value} {base : Heap}
abbrev s_law_alike : Stmt := topS 25
theorem sc__law_alike : FnScope ["found", "due"] ["found", "due"] (defScope s_law_alike) := ⟨rfl, rfl, rfl, by decide +kernel, rfl, by decide +kernel, by decide +kernel⟩
theorem ok__law_alike {f : Addr} {fd : FuncData} (F : Fun K "_law_alike" "_law_alike" s_law_alike f fd) (B : Bt mg) : FnG P w K mg base 1 f fd ["found", "due"] (spAlike K) := by
  refine Fun.okG F sc__law_alike (fun vs H Q E h => ?_) (fun cdv A outer s H vs Q E hg hr h => ?_)
  · obtain ⟨x, y, mu, d, rfl, _⟩ := h
    rfl
  obtain ⟨x, y, mu, d, rfl, hx, hy, ho, hn, k⟩ := h
  have hu := Room.u64 hr
  refine ⟨_, (pss_one (ps_ret (pe_and (pe_cmpR (op_eqA hu) (pv 0) (pv 1) (nomark _)) (pe_one (pe_cmpR op_eq (pe_callB (call_repr hg hu) (by rfl) B.repr bb_repr (pa_cons (pv 0) pa_nil)) (pe_callB (call_repr hg hu) (by rfl) B.repr bb_repr (pa_cons (pv 1) pa_nil)) (nomark _)))))), ?_⟩
  have key : ∀ Q' : VK, Q' (.bl true) H → rEqA K x y H Q' := fun Q' q => by
    rcases hn with n | ⟨_, n, h1, h2⟩
    · refine .inl ⟨mu, d, d, hx, hy, ho.shaped n, ho.shaped n, ?_⟩
      rw [eqv_same (ok_lay d ho.ok n)]
      exact q
    · exact .inr (.inl ⟨n, h1, h2, q⟩)
  have hm : d.hasDict = false ∨ mu sysModules := hn.imp id And.left
  refine ⟨_, rfl, _, rfl, key _ ?_⟩
  refine ⟨_, rfl, iteT ⟨_, rfl, ?_⟩⟩
  refine ⟨x, mu, d, rfl, hx, ho.show, hm, by have := ho.dp; omega, ho.fits, ?_⟩
  refine ⟨_, rfl, ?_⟩
  refine ⟨y, mu, d, rfl, hy, ho.show, hm, by have := ho.dp; omega, ho.fits, ?_⟩
  have e : decide (V.str d.shown = V.str d.shown) = true := decide_eq_true rfl
  first
    | (show Q (.bl (decide (V.str d.shown = V.str d.shown))) H; rw [e]; exact k)
    | (refine ⟨rfl, ?_⟩; rw [e]; exact k)
    | (refine ⟨rfl, rfl, ?_⟩; rw [e]; exact k)
def spBag (K : PySem.W.Frag) : Sp := fun vs H Q _ => ∃ (a : Addr) (ns : List Int), vs = [.ref a] ∧ SqL K H a (ns.map V.int) ∧ ns.length ≤ 63 ∧ ∀ b H', Same H H' → H b = none → BagAt H' b → Q (.ref b) H'
abbrev s_law_bag : Stmt := topS 24
theorem sc__law_bag : FnScope ["script", "cell"] ["script"] (defScope s_law_bag) := ⟨rfl, rfl, rfl, by decide +kernel, rfl, by decide +kernel, by decide +kernel⟩
theorem ok__law_bag {f : Addr} {fd : FuncData} (F : Fun K "_law_bag" "_law_bag" s_law_bag f fd) (B : Bt mg) : FnG P w K mg base 1 f fd ["script"] (spBag K) := by
  refine Fun.okG F sc__law_bag (fun vs H Q E h => ?_) (fun cdv A outer s H vs Q E hg hr h => ?_)
  · obtain ⟨a, ns, rfl, _⟩ := h
    rfl
  obtain ⟨a, ns, rfl, hS, hl, k⟩ := h
  refine ⟨_, (pss_one (ps_ret (pe_lst (pa_cons pe_int (pa_cons pe_int (pa_cons pe_int (pa_cons (pe_lc (own := [("cell", 1)]) rfl sc__law_bag.nd (pi_list (pe_slice sl_list (pv 0) po_none (po_some pe_int))) (blkOk_by (own := [("cell", 1)]) (N := ["script", "cell"]) (sc := (defScope s_law_bag)) (by decide +kernel)) (fun _ _ _ _ _ => (pg_name (i := 1) sc__law_bag.nd rfl (Or.inl rfl))) (fun _ _ _ _ _ => pts_nil) (fun _ _ _ _ _ => (pe_callB call_abs (by rfl) B.abs bb_abs (pa_cons (pv 1) pa_nil)))) pa_nil))))))), ?_⟩
  refine ⟨_, rfl, 63, rfl, a, _, rfl, hS, fun p np => ?_⟩
  have sp := same_upd (o := .lst (cutV (ns.map V.int) none (some 63))) np
  obtain ⟨ms, em, hms⟩ : ∃ ms : List Int, cutV (ns.map V.int) none (some 63) = ms.map V.int ∧ ms.length ≤ 63 := by
    refine ⟨(ns.drop (HT.sIx ns.length 0 none)).take (HT.sIx ns.length ns.length (some 63) - HT.sIx ns.length 0 none), ?_, ?_⟩
    · unfold cutV
      rw [List.map_take, List.map_drop, List.length_map]
    · rw [List.length_take, List.length_drop]
      omega
  rw [em] at sp ⊢
  refine ⟨p, rfl, ⟨_, .inl (.inl upd_same)⟩, fun D nD => ?_⟩
  have sD := same_upd (o := .lst []) nD
  have nDp : p ≠ D := fun z => by
    rw [← z, upd_same] at nD
    cases nD
  refine lc_it (walk_list (xs := ms.map V.int) (a := p)) (fun i H' => Same H H' ∧ H' p = some (.lst (ms.map V.int)) ∧ H' D = some (.lst (((ms.take i).map fun c => if c < 0 then -c else c).map V.int))) ⟨sp.trans sD, sD _ _ upd_same, by rw [upd_same]; rfl⟩ (fun i H' _ h => .inl (.inl h.2.1)) (fun i x H2 H3 hi h y => ?_) fun H2 h => ?_
  · obtain ⟨h1, h2, h3⟩ := h
    obtain ⟨rfl, hx⟩ := y
    rw [List.getElem?_map] at hx
    have hi' : i < ms.length := by simpa using hi
    rw [List.getElem?_eq_getElem hi'] at hx
    cases hx
    refine ⟨rfl, _, rfl, _, rfl, _, h3, Nat.lt_of_le_of_lt (by rw [List.length_map, List.length_map, List.length_take]; exact Nat.min_le_left _ _) (small1000 (show i ≤ 1000 by omega)), fun q o e => ?_, ?_, ?_⟩
    · have nq : q ≠ D := fun z => by
        have e2 := sp _ _ e
        rw [z, nD] at e2
        cases e2
      rw [upd_ne nq]
      exact h1 q o e
    · rw [upd_ne nDp]
      exact h2
    · rw [upd_same, List.take_add_one, List.getElem?_eq_getElem hi', List.map_append, List.map_append]
      rfl
  · obtain ⟨h1, h2, h3⟩ := h
    rw [show List.take (ms.map V.int).length ms = ms from List.take_of_length_le (by rw [List.length_map]; exact Nat.le_refl _)] at h3
    refine ⟨by show 4 ≤ sizeLine; decide, fun b nb => ?_⟩
    have s3 := same_upd (o := .lst [.int 0, .int 1234567891, .int 0, .ref D]) nb
    have nbD : D ≠ b := fun z => by
      rw [z, nb] at h3
      cases h3
    have hb0 : H b = none := by
      cases e : H b with
      | none => rfl
      | some o =>
        rw [h1 _ _ e] at nb
        cases nb
    refine k b _ (h1.trans s3) hb0 ⟨0, 1234567891, 0, D, ms.map fun c => if c < 0 then -c else c, upd_same, s3 _ _ h3, nbD, by decide, by decide, by decide, by decide, by rw [List.length_map]; exact hms, fun c hc => ?_⟩
    obtain ⟨z, _, rfl⟩ := List.mem_map.mp hc
    split <;> omega
def scD : PyData → Bool
  | .none | .bool _ | .int _ | .str _ => true
  | _ => false
/-- a list's items hold nothing -/
def flatL : PyData → Bool
  | .list ds => ds.all scD
  | _ => true
/-- a drawn value -/
structure Th (d : PyData) : Prop where
  ok : okD d = true
  dp : d.depth ≤ 3
  wt : d.weight ≤ 1000
  di : d.hasDict = false ∨ d = .dict []
  fl : flatL d = true
instance (d : PyData) : Decidable (Th d) := decidable_of_iff (okD d = true ∧ d.depth ≤ 3 ∧ d.weight ≤ 1000 ∧ (d.hasDict = false ∨ d.hasDict = true ∧ (match d with | .dict [] => true | _ => false) = true) ∧ flatL d = true) ⟨fun h => ⟨h.1, h.2.1, h.2.2.1, h.2.2.2.1.imp id fun z => by
    revert z
    cases d with
    | dict kvs => cases kvs <;> simp
    | _ => simp, h.2.2.2.2⟩, fun h => ⟨h.ok, h.dp, h.wt, h.di.imp id fun z => (by subst z; decide), h.fl⟩⟩
theorem NumD.th {d : PyData} (h : NumD d) : Th d := by
  obtain ⟨a, b, c, e⟩ := numD_ok h
  exact ⟨a.ok, by omega, by omega, .inl b, by obtain ⟨_, _, rfl, _⟩ := h; rfl⟩
theorem th_int {i : Int} (h1 : -1000 ≤ i) (h2 : i ≤ 1000) : Th (.int i) := by
  have e : (1000 : Nat) < 10 ^ 500 := by decide +kernel
  refine ⟨by simp only [okD, decide_eq_true_eq]; omega, by simp [PyData.depth], ?_, .inl (by simp [PyData.hasDict]), rfl⟩
  by_cases hz : i.natAbs = 0
  · simp only [PyData.weight]
    split <;> (try rw [hz]) <;> decide
  · have e : i.natAbs.log2 < 40 := (Nat.log2_lt hz).mpr (by omega)
    simp only [PyData.weight]
    split <;> omega
def spThing (K : PySem.W.Frag) : Sp := spG K [] Th
abbrev s_law_thing : Stmt := topS 30
theorem sc__law_thing : FnScope ["bag", "plain", "texts"] ["bag"] (defScope s_law_thing) := ⟨rfl, rfl, rfl, by decide +kernel, rfl, by decide +kernel, by decide +kernel⟩
theorem ok__law_thing {f : Addr} {fd : FuncData} (F : Fun K "_law_thing" "_law_thing" s_law_thing f fd) (B : Bt mg) (c__law_take : CalG P w K mg base 1 "_law_take" spTake) (c__law_some : CalG P w K mg base 2 "_law_some" spSome) (c__law_number : CalG P w K mg base 3 "_law_number" (spNum K)) :
    FnG P w K mg base 4 f fd ["bag"] (spThing K) := by
  refine Fun.okG F sc__law_thing (fun vs H Q E h => ?_) (fun cdv A outer s H vs Q E hg hr h => ?_)
  · obtain ⟨b, mu, rfl, _⟩ := h
    rfl
  obtain ⟨b, mu, rfl, hmu, hb, hM, k⟩ := h
  refine ⟨_, (pss_cons (ps_set (i := 1) sc__law_thing.nd rfl (Or.inl rfl) (pc c__law_some hg hr (by decide) (by rfl) (pa_cons (pv 0) (pa_cons (pe_lst (pa_cons (pc c__law_number hg hr (by decide) (by rfl) (pa_cons (pv 0) (pa_cons pe_int pa_nil))) (pa_cons (pe_tup (pa_cons pe_int (pa_cons pe_int pa_nil))) (pa_cons (pe_tup (pa_cons pe_int (pa_cons pe_int pa_nil))) (pa_cons (pe_tup (pa_cons pe_int (pa_cons pe_int pa_nil))) (pa_cons (pe_tup (pa_cons (pe_un un_neg pe_int) (pa_cons pe_int pa_nil))) (pa_cons (pe_tup (pa_cons pe_int (pa_cons (pe_un un_neg pe_int) pa_nil))) (pa_cons (pe_tup (pa_cons pe_int (pa_cons pe_int pa_nil))) (pa_cons (pe_tup (pa_cons pe_bl (pa_cons pe_int pa_nil))) (pa_cons (pe_tup (pa_cons pe_int (pa_cons pe_bl pa_nil))) (pa_cons (pe_lstN (pa_cons pe_int (pa_cons pe_int pa_nil))) (pa_cons (pe_tup (pa_cons pe_int (pa_cons pe_int (pa_cons pe_int pa_nil)))) (pa_cons (pe_tup pa_nil) pa_nil))))))))))))) pa_nil))))
    (pss_cons (ps_set (i := 2) sc__law_thing.nd rfl (Or.inl rfl) (pe_lst (pa_cons pe_str (pa_cons pe_str (pa_cons pe_str (pa_cons pe_str (pa_cons pe_str (pa_cons pe_str (pa_cons pe_str (pa_cons pe_str (pa_cons pe_str pa_nil)))))))))))
    (pss_one (ps_ret (pc c__law_some hg hr (by decide) (by rfl) (pa_cons (pv 0) (pa_cons (pe_lst (pa_cons (pv 1) (pa_cons (pv 1) (pa_cons (pc c__law_some hg hr (by decide) (by rfl) (pa_cons (pv 0) (pa_cons (pv 2) pa_nil))) (pa_cons (pc c__law_some hg hr (by decide) (by rfl) (pa_cons (pv 0) (pa_cons (pv 2) pa_nil))) (pa_cons (pe_op op_sub (pc c__law_take hg hr (by decide) (by rfl) (pa_cons (pv 0) (pa_cons pe_int pa_nil))) pe_int) (pa_cons (pe_op op_pow pe_int pe_int) (pa_cons pe_bl (pa_cons pe_non (pa_cons pe_dnewN (pa_cons (pe_lstN (pa_cons pe_str pa_nil)) pa_nil))))))))))) pa_nil))))))), ?_⟩
  have g2 : ∀ {σ : L2.St} {H0 : Hp} {ta : TA} {ds : List PyData}, GeA K b mu σ H0 ta ds → ds.length ≤ 1000 → Th (.tuple ds) → Gv K b mu σ H0 (tTup ta) Th := fun {σ H0 ta ds} h l t => (ge_tup hmu h l).gv t
  refine gv_some (K := K) (mu := mu) (D := Th) (n := 12) hmu rfl
    (gvA_cons hmu (fun H r m Q q => ge_num (σ := _) (H0 := H) hmu rfl (by decide) (by decide) H (.refl r.bag) m Q fun v H' d hd => q v H' d (NumD.th hd))
    (gvA_cons hmu (g2 (geA_cons hmu ge_int (geA_cons hmu ge_int geA_nil)) (show 2 ≤ 1000 by decide) (by decide +kernel))
    (gvA_cons hmu (g2 (geA_cons hmu ge_int (geA_cons hmu ge_int geA_nil)) (show 2 ≤ 1000 by decide) (by decide +kernel))
    (gvA_cons hmu (g2 (geA_cons hmu ge_int (geA_cons hmu ge_int geA_nil)) (show 2 ≤ 1000 by decide) (by decide +kernel))
    (gvA_cons hmu (g2 (geA_cons hmu ge_neg (geA_cons hmu ge_int geA_nil)) (show 2 ≤ 1000 by decide) (by decide +kernel))
    (gvA_cons hmu (g2 (geA_cons hmu ge_int (geA_cons hmu ge_neg geA_nil)) (show 2 ≤ 1000 by decide) (by decide +kernel))
    (gvA_cons hmu (g2 (geA_cons hmu ge_int (geA_cons hmu ge_int geA_nil)) (show 2 ≤ 1000 by decide) (by decide +kernel))
    (gvA_cons hmu (g2 (geA_cons hmu ge_bl (geA_cons hmu ge_int geA_nil)) (show 2 ≤ 1000 by decide) (by decide +kernel))
    (gvA_cons hmu (g2 (geA_cons hmu ge_int (geA_cons hmu ge_bl geA_nil)) (show 2 ≤ 1000 by decide) (by decide +kernel))
    (gvA_cons hmu (gv_lst hmu (geA_cons hmu ge_int (geA_cons hmu ge_int geA_nil)) (show 2 ≤ 1000 by decide) (by decide +kernel))
    (gvA_cons hmu (g2 (geA_cons hmu ge_int (geA_cons hmu ge_int (geA_cons hmu ge_int geA_nil))) (show 3 ≤ 1000 by decide) (by decide +kernel))
    (gvA_cons hmu (g2 geA_nil (show 0 ≤ 1000 by decide) (by decide +kernel)) gvA_nil)))))))))))) (by decide) (by decide) H (.refl hb) hM _ fun plain H1 dp hdp R1 hp op => ?_
  refine ⟨by show 9 ≤ sizeLine; decide, fun t nt => ?_⟩
  have R2 := R1.same (same_upd (o := .lst ((["a", "abcdefghijkl", "abcdefghijklm", "", "a b", "A", "z\n", "a1", "firm"] : List Str).map V.str)) nt)
  have M2 := hM.rel R2
  have nb : t ≠ b := fun z => by
    obtain ⟨x, y, z', l, cs, h1, _⟩ := R1.bag
    rw [z, h1] at nt
    cases nt
  have f2 : Fut mu H1 _ := .of_same (same_upd (o := .lst ((["a", "abcdefghijkl", "abcdefghijklm", "", "a b", "A", "z\n", "a1", "firm"] : List Str).map V.str)) nt)
  have hp2 := hp.fut f2
  have op2 := op.fut hp f2
  have gp : ∀ {σ : L2.St} {i : Nat}, σ[i]? = some (some plain) → Gv K b mu σ _ (tVar i) Th := fun {σ i} h => gv_var hmu R2.bag h hp2 op2 hdp
  have gt : ∀ {σ : L2.St} {i j : Nat}, σ[i]? = some (some (.ref b)) → σ[j]? = some (some (.ref t)) → Gv K b mu σ _ (tCall spSome [] E0 (tCons (tVar i) (tCons (tVar j) tNil))) Th := fun {σ i j} h1 h2 =>
    gv_someV (ds := (["a", "abcdefghijkl", "abcdefghijklm", "", "a b", "A", "z\n", "a1", "firm"] : List Str).map PyData.str) hmu R2.bag h1 h2 upd_same nb (DtA.strs _)
      (fun i v d e1 e2 => own_not (fun ds z => by
        subst z
        rw [List.getElem?_map] at e2
        cases e : (["a", "abcdefghijkl", "abcdefghijklm", "", "a b", "A", "z\n", "a1", "firm"] : List Str)[i]? <;> (rw [e] at e2; cases e2)) (fun z => by
        subst z
        rw [List.getElem?_map] at e2
        cases e : (["a", "abcdefghijkl", "abcdefghijklm", "", "a b", "A", "z\n", "a1", "firm"] : List Str)[i]? <;> (rw [e] at e2; cases e2)))
      (fun d hd => by
        have z : ∀ d ∈ (["a", "abcdefghijkl", "abcdefghijklm", "", "a b", "A", "z\n", "a1", "firm"] : List Str).map PyData.str, Th d := by decide +kernel
        exact z d hd) (by decide) (by decide)
  refine gv_some (K := K) (mu := mu) (D := Th) (n := 10) hmu rfl
    (gvA_cons hmu (gp rfl) (gvA_cons hmu (gp rfl) (gvA_cons hmu (gt rfl rfl) (gvA_cons hmu (gt rfl rfl)
    (gvA_cons hmu (fun H r m Q q => ⟨_, rfl, b, _, rfl, r.bag, by decide, by decide, fun v H' v0 v1 R => ⟨_, _, rfl, rfl, q _ H' _ (th_int (by omega) (by omega)) R (.int _) (own_not fun _ z => nomatch z)⟩⟩)
    (gvA_cons hmu (fun H r m Q q => ⟨_, _, rfl, rfl, ⟨by decide, by decide, by decide⟩, q _ H (.int (10 ^ 30)) (by decide +kernel) (.refl r.bag) (.int _) (own_not fun _ z => nomatch z)⟩)
    (gvA_cons hmu (ge_bl.gv (by decide +kernel)) (gvA_cons hmu (ge_non.gv (by decide +kernel)) (gvA_cons hmu (gv_dict (by decide +kernel))
    (gvA_cons hmu (gv_lst hmu (geA_cons hmu ge_str geA_nil) (show 1 ≤ 1000 by decide) (by decide +kernel)) gvA_nil)))))))))) (by decide) (by decide) _ (.refl R2.bag) M2 _ fun v H3 d hd R3 hv ov => ?_
  exact k v H3 d hd (R2.trans R3) hv ov
end
end K00
namespace K00
open PySem PySem.Spec PyProof.Rows L2 Sw
section
variable {P : Program} {w : World} {K : PySem.W.Frag} {mg : Str → Option Value} {base : Heap}
/-! ### the errors' own __init__ -/
structure IniC (K : PySem.W.Frag) (C : Addr) (ns : List Str) : Prop where
  oex : OexC K C
  no : ∀ f ∈ ns, PySem.W.findIn K (.ref C) f = some none
theorem init1 {C : Addr} {f : Str} {H : Hp} {Q : VK} {a : Addr} {y : V} {E : XK} {X : Cx} (I : IniC K C [f]) (ha : H a = some (exo a C none)) (k : ∀ d, H d = none → d ≠ a → Q .non (upd (upd H d (exd d [(f, y)])) a (exo a C (some d)))) :
    tOst K f (tVar 0) (tVar 1) { nx := fun _ H' => Q .non H', rt := Q } [some (.ref a), some y] H :=
  ⟨y, rfl, .ref a, rfl, a, C, rfl, I.oex, I.no f List.mem_cons_self, .inl ⟨ha, k⟩⟩
abbrev s_Wrong_init : Stmt := inClass (topS 9) 0
theorem sc__Wrong_init : FnScope ["self", "place"] ["self", "place"] (defScope s_Wrong_init) := ⟨rfl, rfl, rfl, by decide +kernel, rfl, by decide +kernel, by decide +kernel⟩
theorem ok_Wrong {C : Addr} {f : Addr} {fd : FuncData} (F : Fun K "__init__" "Wrong.__init__" s_Wrong_init f fd) (I : IniC K C ["place"]) : FnG P w K mg base 1 f fd ["self", "place"] (spInit1 K C "place") := by
  refine Fun.okG F sc__Wrong_init (fun vs H Q E h => ?_) (fun cdv A outer s H vs Q E hg hr h => ?_)
  · obtain ⟨a, y, rfl, _⟩ := h
    rfl
  obtain ⟨a, y, rfl, ha, k⟩ := h
  refine ⟨_, (pss_one (ps_ost (pv 0) (pv 1))), ?_⟩
  exact ⟨y, rfl, .ref a, rfl, a, C, rfl, I.oex, I.no _ List.mem_cons_self, .inl ⟨ha, k⟩⟩
abbrev s_NotFounded_init : Stmt := inClass (topS 11) 0
theorem sc__NotFounded_init : FnScope ["self", "name"] ["self", "name"] (defScope s_NotFounded_init) := ⟨rfl, rfl, rfl, by decide +kernel, rfl, by decide +kernel, by decide +kernel⟩
theorem ok_NotFounded {C : Addr} {f : Addr} {fd : FuncData} (F : Fun K "__init__" "NotFounded.__init__" s_NotFounded_init f fd) (I : IniC K C ["name"]) : FnG P w K mg base 1 f fd ["self", "name"] (spInit1 K C "name") := by
  refine Fun.okG F sc__NotFounded_init (fun vs H Q E h => ?_) (fun cdv A outer s H vs Q E hg hr h => ?_)
  · obtain ⟨a, y, rfl, _⟩ := h
    rfl
  obtain ⟨a, y, rfl, ha, k⟩ := h
  refine ⟨_, (pss_one (ps_ost (pv 0) (pv 1))), ?_⟩
  exact ⟨y, rfl, .ref a, rfl, a, C, rfl, I.oex, I.no _ List.mem_cons_self, .inl ⟨ha, k⟩⟩
abbrev s_Circle_init : Stmt := inClass (topS 12) 0
theorem sc__Circle_init : FnScope ["self", "names"] ["self", "names"] (defScope s_Circle_init) := ⟨rfl, rfl, rfl, by decide +kernel, rfl, by decide +kernel, by decide +kernel⟩
theorem ok_Circle {C : Addr} {f : Addr} {fd : FuncData} (F : Fun K "__init__" "Circle.__init__" s_Circle_init f fd) (I : IniC K C ["names"]) : FnG P w K mg base 1 f fd ["self", "names"] (spInit1 K C "names") := by
  refine Fun.okG F sc__Circle_init (fun vs H Q E h => ?_) (fun cdv A outer s H vs Q E hg hr h => ?_)
  · obtain ⟨a, y, rfl, _⟩ := h
    rfl
  obtain ⟨a, y, rfl, ha, k⟩ := h
  refine ⟨_, (pss_one (ps_ost (pv 0) (pv 1))), ?_⟩
  exact ⟨y, rfl, .ref a, rfl, a, C, rfl, I.oex, I.no _ List.mem_cons_self, .inl ⟨ha, k⟩⟩
abbrev s_TooMany_init : Stmt := inClass (topS 13) 0
theorem sc__TooMany_init : FnScope ["self", "most"] ["self", "most"] (defScope s_TooMany_init) := ⟨rfl, rfl, rfl, by decide +kernel, rfl, by decide +kernel, by decide +kernel⟩
theorem ok_TooMany {C : Addr} {f : Addr} {fd : FuncData} (F : Fun K "__init__" "TooMany.__init__" s_TooMany_init f fd) (I : IniC K C ["most"]) : FnG P w K mg base 1 f fd ["self", "most"] (spInit1 K C "most") := by
  refine Fun.okG F sc__TooMany_init (fun vs H Q E h => ?_) (fun cdv A outer s H vs Q E hg hr h => ?_)
  · obtain ⟨a, y, rfl, _⟩ := h
    rfl
  obtain ⟨a, y, rfl, ha, k⟩ := h
  refine ⟨_, (pss_one (ps_ost (pv 0) (pv 1))), ?_⟩
  exact ⟨y, rfl, .ref a, rfl, a, C, rfl, I.oex, I.no _ List.mem_cons_self, .inl ⟨ha, k⟩⟩
abbrev s_NoDeed_init : Stmt := inClass (topS 15) 0
theorem sc__NoDeed_init : FnScope ["self", "index"] ["self", "index"] (defScope s_NoDeed_init) := ⟨rfl, rfl, rfl, by decide +kernel, rfl, by decide +kernel, by decide +kernel⟩
theorem ok_NoDeed {C : Addr} {f : Addr} {fd : FuncData} (F : Fun K "__init__" "NoDeed.__init__" s_NoDeed_init f fd) (I : IniC K C ["index"]) : FnG P w K mg base 1 f fd ["self", "index"] (spInit1 K C "index") := by
  refine Fun.okG F sc__NoDeed_init (fun vs H Q E h => ?_) (fun cdv A outer s H vs Q E hg hr h => ?_)
  · obtain ⟨a, y, rfl, _⟩ := h
    rfl
  obtain ⟨a, y, rfl, ha, k⟩ := h
  refine ⟨_, (pss_one (ps_ost (pv 0) (pv 1))), ?_⟩
  exact ⟨y, rfl, .ref a, rfl, a, C, rfl, I.oex, I.no _ List.mem_cons_self, .inl ⟨ha, k⟩⟩
abbrev s_NoCommand_init : Stmt := inClass (topS 16) 0
theorem sc__NoCommand_init : FnScope ["self", "line"] ["self", "line"] (defScope s_NoCommand_init) := ⟨rfl, rfl, rfl, by decide +kernel, rfl, by decide +kernel, by decide +kernel⟩
theorem ok_NoCommand {C : Addr} {f : Addr} {fd : FuncData} (F : Fun K "__init__" "NoCommand.__init__" s_NoCommand_init f fd) (I : IniC K C ["line"]) : FnG P w K mg base 1 f fd ["self", "line"] (spInit1 K C "line") := by
  refine Fun.okG F sc__NoCommand_init (fun vs H Q E h => ?_) (fun cdv A outer s H vs Q E hg hr h => ?_)
  · obtain ⟨a, y, rfl, _⟩ := h
    rfl
  obtain ⟨a, y, rfl, ha, k⟩ := h
  refine ⟨_, (pss_one (ps_ost (pv 0) (pv 1))), ?_⟩
  exact ⟨y, rfl, .ref a, rfl, a, C, rfl, I.oex, I.no _ List.mem_cons_self, .inl ⟨ha, k⟩⟩
abbrev s_NoText_init : Stmt := inClass (topS 10) 0
theorem sc__NoText_init : FnScope ["self", "line", "column"] ["self", "line", "column"] (defScope s_NoText_init) := ⟨rfl, rfl, rfl, by decide +kernel, rfl, by decide +kernel, by decide +kernel⟩
theorem ok_NoText {C : Addr} {f : Addr} {fd : FuncData} (F : Fun K "__init__" "NoText.__init__" s_NoText_init f fd) (I : IniC K C ["line", "column"]) : FnG P w K mg base 1 f fd ["self", "line", "column"] (spInit2 K C "line" "column") := by
  refine Fun.okG F sc__NoText_init (fun vs H Q E h => ?_) (fun cdv A outer s H vs Q E hg hr h => ?_)
  · obtain ⟨a, y, z, rfl, _⟩ := h
    rfl
  obtain ⟨a, y, z, rfl, ha, k⟩ := h
  refine ⟨_, (pss_cons (ps_ost (pv 0) (pv 1))
    (pss_one (ps_ost (pv 0) (pv 2)))), ?_⟩
  refine ⟨y, rfl, .ref a, rfl, a, C, rfl, I.oex, I.no _ List.mem_cons_self, .inl ⟨ha, fun d nd hd => ?_⟩⟩
  refine ⟨z, rfl, .ref a, rfl, a, C, rfl, I.oex, I.no _ (List.mem_cons_of_mem _ List.mem_cons_self), .inr ⟨d, [("line", y)], upd_same, by rw [upd_ne hd, upd_same], (show 1 ≤ 900 by decide), ?_⟩⟩
  refine k d _ nd hd ?_ upd_same fun b hb1 hb2 => ?_
  · rw [upd_ne (Ne.symm hd), upd_same]
  · rw [upd_ne hb2, upd_ne hb1, upd_ne hb2]
/-! ### which classes an error belongs to -/
structure Kinds (K : PySem.W.Frag) (mg : Str → Option Value) (cs : Nat → Addr) (S : Addr) : Prop where
  m0 : mg "Wrong" = some (.ref (cs 0))
  m1 : mg "NoText" = some (.ref (cs 1))
  m2 : mg "NotFounded" = some (.ref (cs 2))
  m3 : mg "Circle" = some (.ref (cs 3))
  m4 : mg "TooMany" = some (.ref (cs 4))
  m5 : mg "NoPrice" = some (.ref (cs 5))
  m6 : mg "NoDeed" = some (.ref (cs 6))
  m7 : mg "NoCommand" = some (.ref (cs 7))
  m8 : mg "Nothing" = some (.ref (cs 8))
  mS : mg "SoldError" = some (.ref S)
  kin : ∀ i j, i < 9 → j < 9 → PySem.W.kitOne K (.ref (cs i)) (.ref (cs j)) = some (decide (i = j))
  sol : ∀ i, i < 9 → PySem.W.kitOne K (.ref (cs i)) (.ref S) = some true
  val : ∀ i, i < 9 → PySem.W.kitOne K (.ref (cs i)) (.type "ValueError") = some true
  exc : ∀ i, i < 9 → ExcC K (cs i)
def kindsOf (i : Nat) : List Bool := (List.range 9).map fun j => decide (i = j)
/-- an error of the i-th class at e -/
def ErrC (cs : Nat → Addr) (H : Hp) (i : Nat) (e : Addr) : Prop := ∃ dx : Option Addr, H e = some (exo e (cs i) dx) ∧ ∀ d, dx = some d → ∃ fs, H d = some (exd d fs)
theorem ErrC.same {cs : Nat → Addr} {H H' : Hp} {i : Nat} {e : Addr} (h : ErrC cs H i e) (s : Same H H') : ErrC cs H' i e := by
  obtain ⟨dx, h1, h2⟩ := h
  exact ⟨dx, s _ _ h1, fun d z => by
    obtain ⟨fs, q⟩ := h2 d z
    exact ⟨fs, s _ _ q⟩⟩
theorem ErrC.ask {cs : Nat → Addr} {S : Addr} {H : Hp} {i j : Nat} {e : Addr} {Q : VK} (T : Kinds K mg cs S) (hi : i < 9) (hj : j < 9) (h : ErrC cs H i e) (q : Q (.bl (decide (i = j))) H) : rIsX K [.ref e, .ref (cs j)] H Q := by
  obtain ⟨dx, h1, h2⟩ := h
  exact ⟨e, cs i, dx, .ref (cs j), .ref (cs j), _, rfl, T.exc i hi, h1, h2, fun u z => z, T.kin i j hi hj, q⟩
def spKinds (cs : Nat → Addr) : Sp := fun vs H Q _ => ∃ (e : Addr) (i : Nat), vs = [.ref e] ∧ i < 9 ∧ ErrC cs H i e ∧ ∀ p H', Same H H' → H p = none → H' p = some (.lst ((kindsOf i).map V.bl)) → Q (.ref p) H'
abbrev s_law_kinds_of : Stmt := topS 32
theorem sc__law_kinds_of : FnScope ["error", "classes"] ["error"] (defScope s_law_kinds_of) := ⟨rfl, rfl, rfl, by decide +kernel, rfl, by decide +kernel, by decide +kernel⟩
theorem ok__law_kinds_of {f : Addr} {fd : FuncData} {cs : Nat → Addr} {S : Addr} (F : Fun K "_law_kinds_of" "_law_kinds_of" s_law_kinds_of f fd) (B : Bt mg) (T : Kinds K mg cs S) : FnG P w K mg base 1 f fd ["error"] (spKinds cs) := by
  refine Fun.okG F sc__law_kinds_of (fun vs H Q E h => ?_) (fun cdv A outer s H vs Q E hg hr h => ?_)
  · obtain ⟨e, i, rfl, _⟩ := h
    rfl
  obtain ⟨e, i, rfl, hi, he, k⟩ := h
  have m_Wrong := T.m0
  have m_NoText := T.m1
  have m_NotFounded := T.m2
  have m_Circle := T.m3
  have m_TooMany := T.m4
  have m_NoPrice := T.m5
  have m_NoDeed := T.m6
  have m_NoCommand := T.m7
  have m_Nothing := T.m8
  refine ⟨_, (pss_cons (ps_set (i := 1) sc__law_kinds_of.nd rfl (Or.inl rfl) (pe_lst (pa_cons (pe_callB call_isX (by rfl) B.isin bb_isin (pa_cons (pv 0) (pa_cons (pe_glob (v := .ref _) (by rfl) m_Wrong rfl) pa_nil))) (pa_cons (pe_callB call_isX (by rfl) B.isin bb_isin (pa_cons (pv 0) (pa_cons (pe_glob (v := .ref _) (by rfl) m_NoText rfl) pa_nil))) (pa_cons (pe_callB call_isX (by rfl) B.isin bb_isin (pa_cons (pv 0) (pa_cons (pe_glob (v := .ref _) (by rfl) m_NotFounded rfl) pa_nil))) (pa_cons (pe_callB call_isX (by rfl) B.isin bb_isin (pa_cons (pv 0) (pa_cons (pe_glob (v := .ref _) (by rfl) m_Circle rfl) pa_nil))) pa_nil))))))
    (pss_cons (ps_expr (pe_bm PySem.F.plainAttrs_list PySem.F.slot_list_extend PySem.F.type_list_extend mt_extend (pv 1) (pa_cons (pe_lst (pa_cons (pe_callB call_isX (by rfl) B.isin bb_isin (pa_cons (pv 0) (pa_cons (pe_glob (v := .ref _) (by rfl) m_TooMany rfl) pa_nil))) (pa_cons (pe_callB call_isX (by rfl) B.isin bb_isin (pa_cons (pv 0) (pa_cons (pe_glob (v := .ref _) (by rfl) m_NoPrice rfl) pa_nil))) (pa_cons (pe_callB call_isX (by rfl) B.isin bb_isin (pa_cons (pv 0) (pa_cons (pe_glob (v := .ref _) (by rfl) m_NoDeed rfl) pa_nil))) pa_nil)))) pa_nil)))
    (pss_one (ps_ret (pe_op op_cat (pv 1) (pe_lst (pa_cons (pe_callB call_isX (by rfl) B.isin bb_isin (pa_cons (pv 0) (pa_cons (pe_glob (v := .ref _) (by rfl) m_NoCommand rfl) pa_nil))) (pa_cons (pe_callB call_isX (by rfl) B.isin bb_isin (pa_cons (pv 0) (pa_cons (pe_glob (v := .ref _) (by rfl) m_Nothing rfl) pa_nil))) pa_nil)))))))), ?_⟩
  have st : ∀ (j : Nat) (σ : L2.St) (H' : Hp) (Q' : VK), j < 9 → σ[0]? = some (some (.ref e)) → Same H H' → Q' (.bl (decide (i = j))) H' → tCB (rIsX K) (tCons (tVar 0) (tCons (tC (.ref (cs j))) tNil)) σ H' Q' := fun j σ H' Q' hj hσ s q => ⟨_, hσ, (he.same s).ask T hi hj q⟩
  refine st 0 _ H _ (by decide) rfl (.refl H) ?_
  refine st 1 _ H _ (by decide) rfl (.refl H) ?_
  refine st 2 _ H _ (by decide) rfl (.refl H) ?_
  refine st 3 _ H _ (by decide) rfl (.refl H) ?_
  refine ⟨by show 4 ≤ sizeLine; decide, fun p np => ?_⟩
  have s1 := same_upd (o := .lst [.bl (decide (i = 0)), .bl (decide (i = 1)), .bl (decide (i = 2)), .bl (decide (i = 3))]) np
  refine ⟨_, rfl, .inl ⟨rfl, _, .inl (.inl upd_same)⟩, ?_⟩
  refine st 4 _ _ _ (by decide) rfl s1 ?_
  refine st 5 _ _ _ (by decide) rfl s1 ?_
  refine st 6 _ _ _ (by decide) rfl s1 ?_
  refine ⟨by show 3 ≤ sizeLine; decide, fun p2 np2 => ?_⟩
  have s2 := s1.trans (same_upd (o := .lst [.bl (decide (i = 4)), .bl (decide (i = 5)), .bl (decide (i = 6))]) np2)
  have npp : p ≠ p2 := fun z => by
    rw [← z, upd_same] at np2
    cases np2
  refine ⟨p, p2, _, _, rfl, rfl, by rw [upd_ne npp, upd_same], upd_same, by show 4 + 3 ≤ sizeLine; decide, ?_⟩
  have hp0 : H p = none := np
  have s3 : Same H (upd (upd (upd H p (.lst [.bl (decide (i = 0)), .bl (decide (i = 1)), .bl (decide (i = 2)), .bl (decide (i = 3))])) p2 (.lst [.bl (decide (i = 4)), .bl (decide (i = 5)), .bl (decide (i = 6))])) p (.lst ([.bl (decide (i = 0)), .bl (decide (i = 1)), .bl (decide (i = 2)), .bl (decide (i = 3))] ++ [.bl (decide (i = 4)), .bl (decide (i = 5)), .bl (decide (i = 6))]))) := fun a o z => by
    rw [upd_ne (ne_of_none z hp0)]
    exact s2 _ _ z
  refine ⟨_, rfl, ?_⟩
  refine st 7 _ _ _ (by decide) rfl s3 ?_
  refine st 8 _ _ _ (by decide) rfl s3 ?_
  refine ⟨by show 2 ≤ sizeLine; decide, fun p3 np3 => ?_⟩
  have n3 : p ≠ p3 := fun z => by
    rw [← z, upd_same] at np3
    cases np3
  refine ⟨p, p3, _, _, rfl, rfl, by rw [upd_ne n3, upd_same], upd_same, by show (4 + 3) + 2 ≤ sizeLine; decide, fun p4 np4 => ?_⟩
  have s4 := (s3.trans (same_upd (o := .lst [.bl (decide (i = 7)), .bl (decide (i = 8))]) np3)).trans (same_upd (o := .lst ((kindsOf i).map V.bl)) np4)
  refine k p4 _ s4 ?_ upd_same
  cases z : H p4 with
  | none => rfl
  | some o =>
    have z1 := (s3.trans (same_upd (o := .lst [.bl (decide (i = 7)), .bl (decide (i = 8))]) np3)) _ _ z
    rw [np4] at z1
    cases z1
/-! ### a field is read -/
def fldNames : List Str := ["place", "line", "column", "name", "names", "most", "index"]
def spField (K : PySem.W.Frag) : Sp := fun vs H Q _ => ∃ (e C dx : Addr) (fs : List (Str × V)) (f : Str) (v : V), vs = [.ref e, .str f] ∧ f ∈ fldNames ∧ XfC K C ∧ PySem.W.findIn K (.ref C) f = some none ∧ H e = some (exo e C (some dx)) ∧ H dx = some (exd dx fs) ∧ fs.lookup f = some v ∧ ∀ H', Same H H' → Q v H'
abbrev s_law_field : Stmt := topS 33
theorem sc__law_field : FnScope ["error", "name"] ["error", "name"] (defScope s_law_field) := ⟨rfl, rfl, rfl, by decide +kernel, rfl, by decide +kernel, by decide +kernel⟩
theorem ok__law_field {f : Addr} {fd : FuncData} (F : Fun K "_law_field" "_law_field" s_law_field f fd) (B : Bt mg) : FnG P w K mg base 1 f fd ["error", "name"] (spField K) := by
  refine Fun.okG F sc__law_field (fun vs H Q E h => ?_) (fun cdv A outer s H vs Q E hg hr h => ?_)
  · obtain ⟨e, C, dx, fs, f, v, rfl, _⟩ := h
    rfl
  obtain ⟨e, C, dx, fs, f, v, rfl, hf, hX, hno, he, hd, hl, k⟩ := h
  refine ⟨_, (pss_cons (ps_if (pt_cmpR op_in_seq (pv 1) (pe_tup (pa_cons pe_str (pa_cons pe_str pa_nil))) (by rfl))
      (pss_one (ps_ret (pe_ifExp (pt_cmpR op_eq (pv 1) pe_str (nomark _)) (pe_xv (pv 0)) (pe_xv (pv 0)))))
      pss_nil)
    (pss_cons (ps_if (pt_cmpR op_in_seq (pv 1) (pe_tup (pa_cons pe_str (pa_cons pe_str pa_nil))) (by rfl))
      (pss_one (ps_ret (pe_ifExp (pt_cmpR op_eq (pv 1) pe_str (nomark _)) (pe_xv (pv 0)) (pe_xv (pv 0)))))
      pss_nil)
    (pss_cons (ps_if (pt_cmpR op_in_seq (pv 1) (pe_tup (pa_cons pe_str (pa_cons pe_str pa_nil))) (by rfl))
      (pss_one (ps_ret (pe_ifExp (pt_cmpR op_eq (pv 1) pe_str (nomark _)) (pe_xv (pv 0)) (pe_xv (pv 0)))))
      pss_nil)
    (pss_one (ps_ret (pe_xv (pv 0))))))), ?_⟩
  have rd : ∀ (H' : Hp) (Q' : VK), Same H H' → (∀ H', Same H H' → Q' v H') → tXv K f (tVar 0) [some (.ref e), some (.str f)] H' Q' := fun H' Q' s q => ⟨_, rfl, e, C, dx, fs, v, rfl, hX, hno, s _ _ he, s _ _ hd, hl, q H' s⟩
  have ask : ∀ (x y : Str) (H' : Hp) (Q' : Bool → Hp → Prop), Same H H' → (∀ H2, Same H H2 → Q' (inV (.str f) [.str x, .str y]) H2) → tTest (tOp (rIn K false) (tVar 1) (tTup (tCons (tC (.str x)) (tCons (tC (.str y)) tNil)))) [some (.ref e), some (.str f)] H' Q' := fun x y H' Q' s q =>
    ⟨_, rfl, by show 2 ≤ sizeLine; decide, fun p np => ⟨p, _, rfl, .inr (.inl (.inl upd_same)), rfl, rfl, _, rfl, q _ (s.trans (same_upd np))⟩⟩
  have eqs : ∀ (x : Str) (H' : Hp) (Q' : Bool → Hp → Prop), Q' (decide (f = x)) H' → tTest (tOp rEq (tVar 1) (tC (.str x))) [some (.ref e), some (.str f)] H' Q' := fun x H' Q' q => ⟨_, rfl, rfl, _, rfl, by
    rw [show decide (V.str f = V.str x) = decide (f = x) by
      rw [decide_eq_decide]
      exact ⟨fun z => by cases z; rfl, fun z => by rw [z]⟩]
    exact q⟩
  have m : f = "place" ∨ f = "line" ∨ f = "column" ∨ f = "name" ∨ f = "names" ∨ f = "most" ∨ f = "index" := by
    simpa [fldNames] using hf
  refine ask "place" "line" H _ (.refl H) fun H1 s1 => ?_
  rcases m with rfl | rfl | rfl | rfl | rfl | rfl | rfl
  · rw [show inV (.str "place") [.str "place", .str "line"] = true by decide +kernel]
    refine iteT (eqs "place" H1 _ ?_)
    rw [show decide (("place" : Str) = "place") = true by decide +kernel]
    exact iteT (rd _ _ s1 k)
  · rw [show inV (.str "line") [.str "place", .str "line"] = true by decide +kernel]
    refine iteT (eqs "place" H1 _ ?_)
    rw [show decide (("line" : Str) = "place") = false by decide +kernel]
    exact iteF (rd _ _ s1 k)
  · rw [show inV (.str "column") [.str "place", .str "line"] = false by decide +kernel]
    refine iteF (ask "column" "name" H1 _ s1 fun H2 s2 => ?_)
    rw [show inV (.str "column") [.str "column", .str "name"] = true by decide +kernel]
    refine iteT (eqs "column" H2 _ ?_)
    rw [show decide (("column" : Str) = "column") = true by decide +kernel]
    exact iteT (rd _ _ s2 k)
  · rw [show inV (.str "name") [.str "place", .str "line"] = false by decide +kernel]
    refine iteF (ask "column" "name" H1 _ s1 fun H2 s2 => ?_)
    rw [show inV (.str "name") [.str "column", .str "name"] = true by decide +kernel]
    refine iteT (eqs "column" H2 _ ?_)
    rw [show decide (("name" : Str) = "column") = false by decide +kernel]
    exact iteF (rd _ _ s2 k)
  · rw [show inV (.str "names") [.str "place", .str "line"] = false by decide +kernel]
    refine iteF (ask "column" "name" H1 _ s1 fun H2 s2 => ?_)
    rw [show inV (.str "names") [.str "column", .str "name"] = false by decide +kernel]
    refine iteF (ask "names" "most" H2 _ s2 fun H3 s3 => ?_)
    rw [show inV (.str "names") [.str "names", .str "most"] = true by decide +kernel]
    refine iteT (eqs "names" H3 _ ?_)
    rw [show decide (("names" : Str) = "names") = true by decide +kernel]
    exact iteT (rd _ _ s3 k)
  · rw [show inV (.str "most") [.str "place", .str "line"] = false by decide +kernel]
    refine iteF (ask "column" "name" H1 _ s1 fun H2 s2 => ?_)
    rw [show inV (.str "most") [.str "column", .str "name"] = false by decide +kernel]
    refine iteF (ask "names" "most" H2 _ s2 fun H3 s3 => ?_)
    rw [show inV (.str "most") [.str "names", .str "most"] = true by decide +kernel]
    refine iteT (eqs "names" H3 _ ?_)
    rw [show decide (("most" : Str) = "names") = false by decide +kernel]
    exact iteF (rd _ _ s3 k)
  · rw [show inV (.str "index") [.str "place", .str "line"] = false by decide +kernel]
    refine iteF (ask "column" "name" H1 _ s1 fun H2 s2 => ?_)
    rw [show inV (.str "index") [.str "column", .str "name"] = false by decide +kernel]
    refine iteF (ask "names" "most" H2 _ s2 fun H3 s3 => ?_)
    rw [show inV (.str "index") [.str "names", .str "most"] = false by decide +kernel]
    exact iteF (rd _ _ s3 k)
end
end K00
namespace K00
open PySem PySem.Spec PyProof.Rows L2 Sw
/-! ### an error and its fields, side by side -/
section
variable (mu : Addr → Prop) (cs : Nat → Addr)
def ErrF (H : Hp) (i : Nat) (e : Addr) (fv : List (Str × V)) : Prop := ¬ mu e ∧ ∃ dx : Option Addr, H e = some (exo e (cs i) dx) ∧ (∀ d, dx = some d → ¬ mu d ∧ ∃ fs, H d = some (exd d fs)) ∧ ∀ p ∈ fv, ∃ d fs, dx = some d ∧ H d = some (exd d fs) ∧ fs.lookup p.1 = some p.2
def FldA (H : Hp) : List Addr → List (Str × V) → Prop
  | [], [] => True
  | T :: Ts, p :: ps => H T = some (.tup [.str p.1, p.2]) ∧ FldA H Ts ps
  | _, _ => False
def Row (H : Hp) (i : Nat) (P : Addr) (fv : List (Str × V)) : Prop := ∃ (e L : Addr) (Ts : List Addr), H P = some (.tup [.ref e, .ref L]) ∧ ¬ mu L ∧ H L = some (.lst (Ts.map V.ref)) ∧ FldA H Ts fv ∧ ErrF mu cs H i e fv
end
section
variable {mu : Addr → Prop} {cs : Nat → Addr} {H H' : Hp} {i : Nat} {e P : Addr} {fv : List (Str × V)}
theorem ErrF.fut (h : ErrF mu cs H i e fv) (f : Fut mu H H') : ErrF mu cs H' i e fv := by
  obtain ⟨n, dx, h1, h2, h3⟩ := h
  refine ⟨n, dx, f _ _ h1 (.inl n), fun d z => ?_, fun p hp => ?_⟩
  · obtain ⟨m, fs, q⟩ := h2 d z
    exact ⟨m, fs, f _ _ q (.inl m)⟩
  · obtain ⟨d, fs, z, q, l⟩ := h3 p hp
    exact ⟨d, fs, z, f _ _ q (.inl (h2 d z).1), l⟩
theorem FldA.fut (f : Fut mu H H') : ∀ {Ts : List Addr} {fv : List (Str × V)}, FldA H Ts fv → FldA H' Ts fv
  | [], [], _ => True.intro
  | T :: Ts, p :: ps, h => ⟨f _ _ h.1 (.inr (.inl ⟨_, rfl⟩)), FldA.fut f h.2⟩
  | [], _ :: _, h => h.elim
  | _ :: _, [], h => h.elim
theorem Row.fut (h : Row mu cs H i P fv) (f : Fut mu H H') : Row mu cs H' i P fv := by
  obtain ⟨e, L, Ts, h1, n, h2, h3, h4⟩ := h
  exact ⟨e, L, Ts, f _ _ h1 (.inr (.inl ⟨_, rfl⟩)), n, f _ _ h2 (.inl n), h3.fut f, h4.fut f⟩
theorem ErrF.cls (h : ErrF mu cs H i e fv) : ErrC cs H i e := by
  obtain ⟨_, dx, h1, h2, _⟩ := h
  exact ⟨dx, h1, fun d z => (h2 d z).2⟩
theorem FldA.len : ∀ {Ts : List Addr} {fv : List (Str × V)}, FldA H Ts fv → Ts.length = fv.length
  | [], [], _ => rfl
  | T :: Ts, p :: ps, h => by rw [List.length_cons, List.length_cons, FldA.len h.2]
  | [], _ :: _, h => h.elim
  | _ :: _, [], h => h.elim
theorem FldA.get : ∀ {Ts : List Addr} {fv : List (Str × V)} {j : Nat} {T : Addr}, FldA H Ts fv → Ts[j]? = some T → ∃ p, fv[j]? = some p ∧ H T = some (.tup [.str p.1, p.2])
  | [], [], _, _, _, e => by simp at e
  | T :: Ts, p :: ps, 0, _, h, e => by
    simp at e
    subst e
    exact ⟨p, rfl, h.1⟩
  | T :: Ts, p :: ps, j + 1, T', h, e => by
    obtain ⟨q, h1, h2⟩ := FldA.get (j := j) h.2 (by simpa using e)
    exact ⟨q, by simpa using h1, h2⟩
  | [], _ :: _, _, _, h, _ => h.elim
  | _ :: _, [], _, _, h, _ => h.elim
end
/-- what is tracked may be told to change -/
def MuT (mu : Addr → Prop) (H : Hp) : Prop := ∀ a, mu a → H a ≠ none
theorem MuT.same {mu : Addr → Prop} {H H' : Hp} (m : MuT mu H) (s : Same H H') : MuT mu H' := fun a h => by
  cases e : H a with
  | none => exact absurd e (m a h)
  | some o => rw [s _ _ e]; exact fun z => nomatch z
theorem MuT.new {mu : Addr → Prop} {H : Hp} (m : MuT mu H) {p : Addr} (n : H p = none) : ¬ mu p := fun h => m p h n
/-- the expression lays the i-th pair -/
def Gr (mu : Addr → Prop) (cs : Nat → Addr) (σ : L2.St) (te : TE) (i : Nat) (fv : List (Str × V)) : Prop := ∀ H, MuT mu H → ∀ Q : VK, (∀ P H', Same H H' → Row mu cs H' i P fv → Q (.ref P) H') → te σ H Q
def tF1 (f : Str) (j : Nat) : TE := tTupI (tCons (tC (.str f)) (tCons (tVar j) tNil))
theorem same_mk {H : Hp} {a d C : Addr} {fs : List (Str × V)} (na : H a = none) (nd : H d = none) : Same H (upd (upd (upd H a (exo a C none)) d (exd d fs)) a (exo a C (some d))) := fun b o z => by
  rw [upd_ne (ne_of_none z na), upd_ne (ne_of_none z nd), upd_ne (ne_of_none z na)]
  exact z
section
variable {K : PySem.W.Frag} {mu : Addr → Prop} {cs : Nat → Addr} {σ : L2.St}
/-- one field's list and the pair behind an error that stands -/
theorem row1 {H : Hp} {i j : Nat} {e : Addr} {f : Str} {v : V} {Q : VK} {H0 : Hp} (hσ : σ[j]? = some (some v)) (s0 : Same H0 H) (m : MuT mu H) (he : ErrF mu cs H i e [(f, v)]) (q : ∀ P H', Same H0 H' → Row mu cs H' i P [(f, v)] → Q (.ref P) H') :
    tLst (tCons (tF1 f j) tNil) σ H fun x H1 => tNil σ H1 fun xs H2 => ([.ref e, x] ++ xs).length ≤ sizeLine ∧ ∀ p, H2 p = none → Q (.ref p) (upd H2 p (.tup ([.ref e, x] ++ xs))) := by
  unfold tF1 tTupI
  refine ⟨v, hσ, by show 2 ≤ sizeLine; decide, fun T nT => ⟨by show 1 ≤ sizeLine; decide, fun L nL => ⟨by show 2 ≤ sizeLine; decide, fun P nP => ?_⟩⟩⟩
  have s1 := same_upd (o := .tup [.str f, v]) nT
  have s2 := same_upd (o := .lst [.ref T]) nL
  have s3 := same_upd (o := .tup [.ref e, .ref L]) nP
  exact q P _ (((s0.trans s1).trans s2).trans s3) ⟨e, L, [T], upd_same, (m.same s1).new nL, s3 _ _ upd_same, ⟨s3 _ _ (s2 _ _ upd_same), True.intro⟩, he.fut (.of_same ((s1.trans s2).trans s3))⟩
theorem gr1 {i j : Nat} {f : Str} {v : V} (hσ : σ[j]? = some (some v)) : Gr mu cs σ (tTupI (tCons (tMkV (cs i) (spInit1 K (cs i) f) (tCons (tVar j) tNil)) (tCons (tLst (tCons (tF1 f j) tNil)) tNil))) i [(f, v)] := fun H m Q q => by
  unfold tTupI
  refine ⟨v, hσ, by show 1 ≤ 1000; decide, fun a na => ⟨a, v, rfl, upd_same, fun d nd hd => ⟨rfl, ?_⟩⟩⟩
  have nd' : H d = none := by rw [upd_ne hd] at nd; exact nd
  have s := same_mk (C := cs i) (fs := [(f, v)]) na nd'
  refine row1 hσ s (m.same s) ⟨m.new na, some d, upd_same, fun d' z => ?_, fun p hp => ?_⟩ q
  · cases z
    exact ⟨m.new nd', _, by rw [upd_ne hd, upd_same]⟩
  · rw [List.mem_singleton.mp hp]
    exact ⟨d, [(f, v)], rfl, by rw [upd_ne hd, upd_same], by simp [List.lookup]⟩
theorem gr2 {i j l : Nat} {f g : Str} {v y : V} (hσ : σ[j]? = some (some v)) (hτ : σ[l]? = some (some y)) (hfg : f ≠ g) : Gr mu cs σ (tTupI (tCons (tMkV (cs i) (spInit2 K (cs i) f g) (tCons (tVar j) (tCons (tVar l) tNil))) (tCons (tLst (tCons (tF1 f j) (tCons (tF1 g l) tNil))) tNil))) i [(f, v), (g, y)] := fun H m Q q => by
  unfold tF1 tTupI
  refine ⟨v, hσ, y, hτ, by show 2 ≤ 1000; decide, fun a na => ⟨a, v, y, rfl, upd_same, fun d H1 nd hd h1 h2 h3 => ⟨rfl, ?_⟩⟩⟩
  have nd' : H d = none := by rw [upd_ne hd] at nd; exact nd
  have s : Same H H1 := fun b o z => by
    rw [h3 b (ne_of_none z na) (ne_of_none z nd'), upd_ne (ne_of_none z na)]
    exact z
  have m1 := m.same s
  have he : ErrF mu cs H1 i a [(f, v), (g, y)] := ⟨m.new na, some d, h1, fun d' z => by
    cases z
    exact ⟨m.new nd', _, h2⟩, fun p hp => by
    rcases List.mem_cons.mp hp with rfl | hp
    · exact ⟨d, _, rfl, h2, by rw [lookup_put, if_neg hfg, lookup_put, if_pos rfl]⟩
    · rw [List.mem_singleton.mp hp]
      exact ⟨d, _, rfl, h2, by rw [lookup_put, if_pos rfl]⟩⟩
  refine ⟨v, hσ, by show 2 ≤ sizeLine; decide, fun T nT => ⟨y, hτ, by show 2 ≤ sizeLine; decide, fun U nU => ⟨by show 2 ≤ sizeLine; decide, fun L nL => ⟨by show 2 ≤ sizeLine; decide, fun P nP => ?_⟩⟩⟩⟩
  have s1 := same_upd (o := .tup [.str f, v]) nT
  have s2 := same_upd (o := .tup [.str g, y]) nU
  have s3 := same_upd (o := .lst [.ref T, .ref U]) nL
  have s4 := same_upd (o := .tup [.ref a, .ref L]) nP
  exact q P _ ((((s.trans s1).trans s2).trans s3).trans s4) ⟨a, L, [T, U], upd_same, ((m1.same s1).same s2).new nL, s4 _ _ upd_same, ⟨s4 _ _ (s3 _ _ (s2 _ _ upd_same)), s4 _ _ (s3 _ _ upd_same), True.intro⟩, he.fut (.of_same (((s1.trans s2).trans s3).trans s4))⟩
theorem gr0 {i : Nat} : Gr mu cs σ (tTupI (tCons (tMk0 (cs i)) (tCons (tLst tNil) tNil))) i [] := fun H m Q q => by
  unfold tTupI
  refine fun a na => ⟨Nat.zero_le _, fun L nL => ⟨by show 2 ≤ sizeLine; decide, fun P nP => ?_⟩⟩
  have s1 := same_upd (o := exo a (cs i) none) na
  have s2 := same_upd (o := .lst []) nL
  have s3 := same_upd (o := .tup [.ref a, .ref L]) nP
  exact q P _ ((s1.trans s2).trans s3) ⟨a, L, [], upd_same, (m.same s1).new nL, s3 _ _ upd_same, True.intro, m.new na, none, s3 _ _ (s2 _ _ upd_same), fun d z => (nomatch z), fun p hp => nomatch hp⟩
end
/-! ### a thing that may be changed, or not -/
theorem len_weight : ∀ ds : List PyData, ds.length ≤ PyData.weightAll ds
  | [] => Nat.zero_le _
  | x :: ds => by
    have := len_weight ds
    simp only [List.length_cons, PyData.weightAll]
    omega
structure OkN (n : Nat) (d : PyData) : Prop where
  ok : okD d = true
  dp : d.depth ≤ 5
  wt : d.weight ≤ 2000 + 10 * n
theorem OkN.len {n : Nat} {ds : List PyData} (h : OkN n (.list ds)) : ds.length ≤ 2000 + 10 * n := by
  have a := len_weight ds
  have b := h.wt
  simp only [PyData.weight] at b
  omega
theorem OkN.ok' {n : Nat} {d : PyData} (h : OkN n d) (hn : n ≤ 100) : Ok d := ⟨h.ok, by have := h.dp; omega, by have := h.wt; omega⟩
/-- what stands at v now -/
def Cel (K : PySem.W.Frag) (mu nu : Addr → Prop) (n : Nat) (H : Hp) (v : V) : Prop :=
  (∃ (a : Addr) (xs : List V) (ds : List PyData), v = .ref a ∧ (a ≠ sysModules ∧ ¬ nu a) ∧ H a = some (.lst xs) ∧ mu a ∧ DtA K (fun x => mu x ∨ x = sysModules) H xs ds ∧ OkN n (.list ds)) ∨
  ∃ d, Dt K (fun x => mu x ∨ x = sysModules) H v d ∧ Own H v d ∧ Th d ∧ isT "list" d = false
section
variable {K : PySem.W.Frag} {mu nu : Addr → Prop} {n : Nat} {H H' : Hp} {v : V}
theorem Cel.mono {k : Nat} (h : Cel K mu nu n H v) (hk : n ≤ k) : Cel K mu nu k H v := by
  rcases h with ⟨a, xs, ds, h1, h2, h3, h4, h5, h6⟩ | h
  · exact .inl ⟨a, xs, ds, h1, h2, h3, h4, h5, ⟨h6.ok, h6.dp, by have := h6.wt; omega⟩⟩
  · exact .inr h
/-- nothing that this rests on has changed -/
theorem Cel.same (h : Cel K mu nu n H v) (s : Same H H') : Cel K mu nu n H' v := by
  rcases h with ⟨a, xs, ds, h1, h2, h3, h4, h5, h6⟩ | ⟨d, h1, h2, h3, h4⟩
  · exact .inl ⟨a, xs, ds, h1, h2, s _ _ h3, h4, h5.fut (.of_same s), h6⟩
  · exact .inr ⟨d, h1.fut (.of_same s), h2.fut h1 (.of_same s), h3, h4⟩
theorem Cel.rel {b : Addr} (h : Cel K mu nu n H v) (r : Rel b H H') (hm : mu b) (hn : nu b) (hb : BagAt H b) : Cel K mu nu n H' v := by
  have f : Fut (fun x => mu x ∨ x = sysModules) H H' := r.fut (.inl hm) hb
  rcases h with ⟨a, xs, ds, h1, h2, h3, h4, h5, h6⟩ | ⟨d, h1, h2, h3, h4⟩
  · exact .inl ⟨a, xs, ds, h1, h2, r.keep _ _ (fun z => h2.2 (by rw [z]; exact hn)) h3, h4, h5.fut f, h6⟩
  · exact .inr ⟨d, h1.fut f, h2.fut h1 f, h3, h4⟩
theorem okA_app : ∀ (ds : List PyData) (d : PyData), okA (ds ++ [d]) = (okA ds && okD d)
  | [], d => by simp [okA]
  | x :: ds, d => by simp [okA, okA_app ds d, Bool.and_assoc]
theorem depthA_app : ∀ (ds : List PyData) (d : PyData), PyData.depthAll (ds ++ [d]) = max (PyData.depthAll ds) d.depth
  | [], d => by simp [PyData.depthAll]
  | x :: ds, d => by
    simp only [List.cons_append, PyData.depthAll, depthA_app ds d]
    omega
theorem weightA_app : ∀ (ds : List PyData) (d : PyData), PyData.weightAll (ds ++ [d]) = PyData.weightAll ds + PyData.weightAll [d]
  | [], d => by simp [PyData.weightAll]
  | x :: ds, d => by
    simp only [List.cons_append, PyData.weightAll, weightA_app ds d]
    omega
theorem OkN.zero {ds : List PyData} (h : OkN n (.list ds)) : OkN (n + 1) (.list (ds ++ [.int 0])) := by
  obtain ⟨h1, h2, h3⟩ := h
  refine ⟨?_, ?_, ?_⟩
  · simp only [okD] at h1 ⊢
    rw [okA_app, h1]
    decide +kernel
  · simp only [PyData.depth] at h2 ⊢
    rw [depthA_app]
    simp only [PyData.depth]
    omega
  · simp only [PyData.weight] at h3 ⊢
    rw [weightA_app]
    have e : PyData.weightAll [.int 0] ≤ 10 := by decide +kernel
    omega
/-- 0 is put behind what stands at a -/
theorem Cel.append {a : Addr} {xs : List V} (h : Cel K mu nu n H v) (ha : H a = some (.lst xs)) (hm : mu a) : Cel K mu nu (n + 1) (upd H a (.lst (xs ++ [.int 0]))) v := by
  have f : Fut (fun x => mu x ∨ x = sysModules) H (upd H a (.lst (xs ++ [.int 0]))) := fun c o e z => by
    have nb : c ≠ a := fun q => by
      rcases z with z | ⟨ys, rfl⟩ | ⟨ob, u, rfl⟩
      · exact z (.inl (by rw [q]; exact hm))
      · rw [q, ha] at e
        cases e
      · rw [q, ha] at e
        cases e
    rw [upd_ne nb]
    exact e
  rcases h with ⟨a', ys, ds, h1, h2, h3, h4, h5, h6⟩ | ⟨d, h1, h2, h3, h4⟩
  · by_cases e : a' = a
    · subst e
      rw [ha] at h3
      cases h3
      exact .inl ⟨a', _, ds ++ [.int 0], h1, h2, upd_same, h4, (h5.fut f).append (.cons (.int 0) .nil), h6.zero⟩
    · exact .inl ⟨a', ys, ds, h1, h2, by rw [upd_ne e]; exact h3, h4, h5.fut f, ⟨h6.ok, h6.dp, by have := h6.wt; omega⟩⟩
  · exact .inr ⟨d, h1.fut f, h2.fut h1 f, h3, h4⟩
theorem eqv_items : ∀ {xs : List V} {ds : List PyData}, DtA K mu H xs ds → Paired (EqV K H 1) xs xs
  | [], _, _ => .nil
  | v :: xs, _, .cons h t => .cons (by
      cases h with
      | non => exact .inl ⟨rfl, rfl⟩
      | bl b => exact .inl ⟨rfl, rfl⟩
      | int i => exact .inl ⟨rfl, rfl⟩
      | str x => exact .inl ⟨rfl, rfl⟩
      | lst _ _ _ => exact .inr (.inl ⟨_, rfl, rfl⟩)
      | tup _ _ => exact .inr (.inl ⟨_, rfl, rfl⟩)
      | tupK _ _ => exact .inr (.inl ⟨_, rfl, rfl⟩)
      | dct _ _ _ => exact .inr (.inl ⟨_, rfl, rfl⟩)) (eqv_items t)
/-- it is like itself -/
theorem Cel.alike {Q : VK} (h : Cel K mu nu n H v) (hn : n ≤ 100) (q : Q (.bl true) H) (E : XK) : spAlike K [v, v] H Q E := by
  rcases h with ⟨a, xs, ds, rfl, h2, h3, h4, h5, h6⟩ | ⟨d, h1, h2, h3, h4⟩
  · have hd : Dt K (fun x => x = sysModules) H (.ref a) (.list ds) := .lst h2.1 (.inl h3) (h5.less fun x z => .inr z)
    exact ⟨_, _, _, _, rfl, hd, hd, h6.ok' hn, .inr ⟨rfl, 1, by decide, .inl ⟨a, a, xs, xs, rfl, rfl, .inl (.inl h3), .inl (.inl h3), eqv_items h5⟩⟩, q⟩
  · refine ⟨_, _, _, _, rfl, h1, h1, ⟨h3.ok, by have := h3.dp; omega, by have := h3.wt; omega⟩, ?_, q⟩
    rcases h3.di with z | z
    · exact .inl z
    · obtain ⟨a, rfl, e⟩ := h2.2 z
      exact .inr ⟨.inr rfl, 1, by decide, .inr ⟨a, a, [], [], rfl, rfl, e, e, rfl, fun p hp => nomatch hp⟩⟩
end
end K00
namespace K00
open PySem PySem.Spec PyProof.Rows L2 Sw
def fvOf (one two : V) : Nat → List (Str × V)
  | 0 => [("place", one)]
  | 1 => [("line", one), ("column", two)]
  | 2 => [("name", two)]
  | 3 => [("names", one)]
  | 4 => [("most", two)]
  | 6 => [("index", one)]
  | 7 => [("line", two)]
  | _ => []
/-- what may change in a lot, too -/
def muL (mu : Addr → Prop) (la : Option Addr) (t2 : Addr) : Addr → Prop := fun a => mu a ∨ la = some a ∨ a = t2
/-- a lot of nine errors -/
structure LotAt (K : PySem.W.Frag) (cs : Nat → Addr) (mu nu : Addr → Prop) (n : Nat) (H : Hp) (r : Addr) (one : V) (t2 : Addr) : Prop where
  nr : ¬ mu r
  rows : ∃ Ps : List Addr, H r = some (.lst (Ps.map V.ref)) ∧ Ps.length = 9 ∧ ∀ i P, Ps[i]? = some P → Row mu cs H i P (fvOf one (.ref t2) i)
  c1 : Cel K mu nu n H one
  c2 : Cel K mu nu n H (.ref t2)
def spErrs (K : PySem.W.Frag) (cs : Nat → Addr) : Sp := fun vs H Q _ => ∃ (b : Addr) (mu : Addr → Prop), vs = [.ref b] ∧ mu b ∧ BagAt H b ∧ MuT mu H ∧
  ∀ r H' one t2 la, Rel b H H' → MuT (muL mu la t2) H' → LotAt K cs (muL mu la t2) mu 0 H' r one t2 → Q (.ref r) H'
theorem flat_any {K : PySem.W.Frag} {mu mv : Addr → Prop} {H H' : Hp} : ∀ {xs : List V} {ds : List PyData}, DtA K mu H xs ds → ds.all scD = true → DtA K mv H' xs ds
  | _, _, .nil, _ => .nil
  | _, _, .cons (ds := ds) h t, e => by
    rw [List.all_cons, Bool.and_eq_true] at e
    refine .cons ?_ (flat_any t e.2)
    cases h with
    | non => exact .non
    | bl b => exact .bl b
    | int i => exact .int i
    | str x => exact .str x
    | lst _ _ _ => exact absurd e.1 (by simp [scD])
    | tup _ _ => exact absurd e.1 (by simp [scD])
    | tupK _ _ => exact absurd e.1 (by simp [scD])
    | dct _ _ _ => exact absurd e.1 (by simp [scD])
theorem Row.less {mu mv : Addr → Prop} {cs : Nat → Addr} {H : Hp} {i : Nat} {P : Addr} {fv : List (Str × V)} (h : Row mu cs H i P fv) (f : ∀ a, mv a → mu a) : Row mv cs H i P fv := by
  obtain ⟨e, L, Ts, h1, n, h2, h3, n2, dx, h4, h5, h6⟩ := h
  exact ⟨e, L, Ts, h1, fun z => n (f _ z), h2, h3, fun z => n2 (f _ z), dx, h4, fun d z => ⟨fun q => (h5 d z).1 (f _ q), (h5 d z).2⟩, h6⟩
theorem okN_one {d : PyData} (h : Th d) : OkN 0 (.list [d]) := by
  obtain ⟨h1, h2, h3, _, _⟩ := h
  refine ⟨by simp [okD, okA, h1], ?_, ?_⟩
  · simp only [PyData.depth, PyData.depthAll]
    omega
  · simp only [PyData.weight, PyData.weightAll]
    omega
theorem okN_th {d : PyData} (h : Th d) : OkN 0 d := ⟨h.ok, by have := h.dp; omega, by have := h.wt; omega⟩
section
variable {P : Program} {w : World} {K : PySem.W.Frag} {mg : Str → Option Value} {base : Heap}
abbrev s_law_errors : Stmt := topS 31
theorem sc__law_errors : FnScope ["bag", "one", "two", "found"] ["bag"] (defScope s_law_errors) := ⟨rfl, rfl, rfl, by decide +kernel, rfl, by decide +kernel, by decide +kernel⟩
theorem ok__law_errors {f : Addr} {fd : FuncData} {cs : Nat → Addr} (F : Fun K "_law_errors" "_law_errors" s_law_errors f fd) (B : Bt mg) (c__law_thing : CalG P w K mg base 4 "_law_thing" (spThing K))
    (c_Wrong : ExV P w K mg base "Wrong" (cs 0) (spInit1 K (cs 0) "place")) (c_NoText : ExV P w K mg base "NoText" (cs 1) (spInit2 K (cs 1) "line" "column")) (c_NotFounded : ExV P w K mg base "NotFounded" (cs 2) (spInit1 K (cs 2) "name"))
    (c_Circle : ExV P w K mg base "Circle" (cs 3) (spInit1 K (cs 3) "names")) (c_TooMany : ExV P w K mg base "TooMany" (cs 4) (spInit1 K (cs 4) "most")) (c_NoPrice : Ex0 K mg "NoPrice" (cs 5))
    (c_NoDeed : ExV P w K mg base "NoDeed" (cs 6) (spInit1 K (cs 6) "index")) (c_NoCommand : ExV P w K mg base "NoCommand" (cs 7) (spInit1 K (cs 7) "line")) (c_Nothing : Ex0 K mg "Nothing" (cs 8)) : FnG P w K mg base 5 f fd ["bag"] (spErrs K cs) := by
  refine Fun.okG F sc__law_errors (fun vs H Q E h => ?_) (fun cdv A outer s H vs Q E hg hr h => ?_)
  · obtain ⟨b, mu, rfl, _⟩ := h
    rfl
  obtain ⟨b, mu, rfl, hmu, hb, hM, k⟩ := h
  refine ⟨_, (pss_cons (ps_par (i := 1) (j := 2) rfl sc__law_errors.nd rfl rfl (by decide) rfl rfl (pa_cons (pc c__law_thing hg hr (by decide) (by rfl) (pa_cons (pv 0) pa_nil)) (pa_cons (pe_lstN (pa_cons (pc c__law_thing hg hr (by decide) (by rfl) (pa_cons (pv 0) pa_nil)) pa_nil)) pa_nil)) (by rfl))
    (pss_cons (ps_set (i := 3) sc__law_errors.nd rfl (Or.inl rfl) (pe_lst (pa_cons (pe_tupI (pa_cons (pex c_Wrong hg hr (by decide) (by rfl) (pa_cons (pv 1) pa_nil)) (pa_cons (pe_lst (pa_cons (pe_tupI (pa_cons pe_str (pa_cons (pv 1) pa_nil))) pa_nil)) pa_nil))) (pa_cons (pe_tupI (pa_cons (pex c_NoText hg hr (by decide) (by rfl) (pa_cons (pv 1) (pa_cons (pv 2) pa_nil))) (pa_cons (pe_lst (pa_cons (pe_tupI (pa_cons pe_str (pa_cons (pv 1) pa_nil))) (pa_cons (pe_tupI (pa_cons pe_str (pa_cons (pv 2) pa_nil))) pa_nil))) pa_nil))) pa_nil))))
    (pss_cons (ps_expr (pe_bm PySem.F.plainAttrs_list PySem.F.slot_list_extend PySem.F.type_list_extend mt_extend (pv 3) (pa_cons (pe_lst (pa_cons (pe_tupI (pa_cons (pex c_NotFounded hg hr (by decide) (by rfl) (pa_cons (pv 2) pa_nil)) (pa_cons (pe_lst (pa_cons (pe_tupI (pa_cons pe_str (pa_cons (pv 2) pa_nil))) pa_nil)) pa_nil))) (pa_cons (pe_tupI (pa_cons (pex c_Circle hg hr (by decide) (by rfl) (pa_cons (pv 1) pa_nil)) (pa_cons (pe_lst (pa_cons (pe_tupI (pa_cons pe_str (pa_cons (pv 1) pa_nil))) pa_nil)) pa_nil))) (pa_cons (pe_tupI (pa_cons (pex c_TooMany hg hr (by decide) (by rfl) (pa_cons (pv 2) pa_nil)) (pa_cons (pe_lst (pa_cons (pe_tupI (pa_cons pe_str (pa_cons (pv 2) pa_nil))) pa_nil)) pa_nil))) pa_nil)))) pa_nil)))
    (pss_one (ps_ret (pe_op op_cat (pv 3) (pe_lst (pa_cons (pe_tupI (pa_cons (px0 c_NoPrice (by rfl)) (pa_cons (pe_lst pa_nil) pa_nil))) (pa_cons (pe_tupI (pa_cons (pex c_NoDeed hg hr (by decide) (by rfl) (pa_cons (pv 1) pa_nil)) (pa_cons (pe_lst (pa_cons (pe_tupI (pa_cons pe_str (pa_cons (pv 1) pa_nil))) pa_nil)) pa_nil))) (pa_cons (pe_tupI (pa_cons (pex c_NoCommand hg hr (by decide) (by rfl) (pa_cons (pv 2) pa_nil)) (pa_cons (pe_lst (pa_cons (pe_tupI (pa_cons pe_str (pa_cons (pv 2) pa_nil))) pa_nil)) pa_nil))) (pa_cons (pe_tupI (pa_cons (px0 c_Nothing (by rfl)) (pa_cons (pe_lst pa_nil) pa_nil))) pa_nil))))))))))), ?_⟩
  -- one, two = ..
  have M0 : MuOk (fun a => mu a ∨ a = sysModules) H := fun a z => z.elim (fun z => .inl (hM a z)) .inr
  refine ⟨_, rfl, b, _, rfl, .inl hmu, hb, M0, fun one H1 d1 hd1 R1 e1 o1 => ?_⟩
  have M1 := M0.rel R1
  have T1 : MuT mu H1 := fun a z e => hM a z (R1.some e)
  obtain ⟨la, hla⟩ : ∃ la : Option Addr, (∃ a xs ds, la = some a ∧ one = .ref a ∧ a ≠ sysModules ∧ ¬ mu a ∧ H1 a = some (.lst xs) ∧ d1 = .list ds ∧ DtA K (fun a => mu a ∨ a = sysModules) H1 xs ds) ∨ (la = none ∧ isT "list" d1 = false) := by
    cases d1 with
    | list ds =>
      obtain ⟨a, xs, rfl, ea⟩ := o1.1 ds rfl
      obtain ⟨a', ys, e2, n, rd, ha⟩ := e1.lstAt
      cases e2
      have ey : ys = xs := by
        rcases rd with rd | ⟨ob, rd⟩
        · rw [ea] at rd
          cases rd
          rfl
        · rw [ea] at rd
          cases rd
      subst ey
      exact ⟨some a, .inl ⟨a, ys, ds, rfl, rfl, fun z => n (.inr z), fun z => n (.inl z), ea, rfl, ha⟩⟩
    | _ => exact ⟨none, .inr ⟨rfl, by simp [isT, tyName]⟩⟩
  have la0 : ∀ a, la = some a → H1 a ≠ none := fun a z => by
    rcases hla with ⟨a', xs, ds, q, _, _, _, q2, _⟩ | ⟨q, _⟩
    · rw [q] at z
      cases z
      rw [q2]
      exact fun z => nomatch z
    · rw [q] at z
      cases z
  have M1' : MuOk (fun a => (mu a ∨ la = some a) ∨ a = sysModules) H1 := fun a z => by
    rcases z with (z | z) | z
    · exact .inl (T1 a z)
    · exact .inl (la0 a z)
    · exact .inr z
  refine ⟨_, rfl, b, _, rfl, .inl (.inl hmu), R1.bag, M1', fun x H2 d2 hd2 R2 e2 o2 => ⟨by show 1 ≤ sizeLine; decide, fun t2 nt2 nts => ?_⟩⟩
  have sT := same_upd (o := .lst [x]) nt2
  have nt0 : ∀ a, mu a → a ≠ t2 := fun a z q => T1 a z (R2.some (by rw [q]; exact nt2))
  have f12 : Fut (fun a => mu a ∨ a = sysModules) H1 H2 := R2.fut (.inl hmu) R1.bag
  have cel1 : Cel K (muL mu la t2) mu 0 (upd H2 t2 (.lst [x])) one := by
    rcases hla with ⟨a, xs, ds, rfl, rfl, ns, nm, ea, rfl, ha⟩ | ⟨rfl, hl⟩
    · have nab : a ≠ b := fun z => nm (by rw [z]; exact hmu)
      exact .inl ⟨a, xs, ds, rfl, ⟨ns, nm⟩, sT _ _ (R2.keep _ _ nab ea), .inr (.inl rfl), flat_any ha hd1.fl, okN_th hd1⟩
    · have e1' := (e1.fut f12).more (l := t2) nt2
      have o1' := o1.fut e1 f12
      refine .inr ⟨d1, (e1'.less fun a z => ?_).fut (.of_same sT), o1'.fut (e1.fut f12) (.of_same sT), hd1, hl⟩
      rcases z with (z | z | z) | z
      · exact .inl (.inl z)
      · cases z
      · exact .inr z
      · exact .inl (.inr z)
  have cel2 : Cel K (muL mu la t2) mu 0 (upd H2 t2 (.lst [x])) (.ref t2) := by
    refine .inl ⟨t2, [x], [d2], rfl, ⟨nts, fun z => nt0 t2 z rfl⟩, upd_same, .inr (.inr rfl), .cons (((e2.more (l := t2) nt2).less fun a z => ?_).fut (.of_same sT)) .nil, okN_one hd2⟩
    rcases z with (z | z | z) | z
    · exact .inl (.inl (.inl z))
    · exact .inl (.inl (.inr z))
    · exact .inr z
    · exact .inl (.inr z)
  have R3 : Rel b H (upd H2 t2 (.lst [x])) := (R1.trans R2).same sT
  have M3 : MuT (muL mu la t2) (upd H2 t2 (.lst [x])) := fun a z => by
    by_cases q : a = t2
    · rw [q, upd_same]
      exact fun z => nomatch z
    · rw [upd_ne q]
      rcases z with z | z | z
      · exact fun e => T1 a z (R2.some e)
      · exact fun e => la0 a z (R2.some e)
      · exact absurd z q
  clear hla la0 M1' f12
  revert cel1 cel2 R3 M3
  generalize upd H2 t2 (.lst [x]) = H3
  intro cel1 cel2 R3 M3
  -- found = [..]
  have g1 : ∀ (i j : Nat) (f : Str) (v : V) (σ : L2.St) (mv : Addr → Prop), σ[j]? = some (some v) → Gr mv cs σ (tTupI (tCons (tMkV (cs i) (spInit1 K (cs i) f) (tCons (tVar j) tNil)) (tCons (tLst (tCons (tF1 f j) tNil)) tNil))) i [(f, v)] := fun i j f v σ mv h => gr1 h
  refine ⟨_, _, rfl, ?_⟩
  refine g1 0 1 "place" one [some (.ref b), some one, some (.ref t2), none] (muL mu la t2) rfl H3 M3 _ fun P0 H4 s4 r0 => ?_
  refine gr2 (K := K) (σ := [some (.ref b), some one, some (.ref t2), none]) (mu := muL mu la t2) (cs := cs) (i := 1) (j := 1) (l := 2) (f := "line") (g := "column") (v := one) (y := .ref t2) rfl rfl (by decide +kernel) H4 (M3.same s4) _ fun P1 H5 s5 r1 => ?_
  refine ⟨by show 2 ≤ sizeLine; decide, fun p np => ?_⟩
  have s6 := same_upd (o := .lst [.ref P0, .ref P1]) np
  have M6 : MuT (fun a => muL mu la t2 a ∨ a = p) (upd H5 p (.lst [.ref P0, .ref P1])) := fun a z => by
    rcases z with z | z
    · exact ((M3.same s4).same s5).same s6 a z
    · rw [z, upd_same]
      exact fun z => nomatch z
  have hp6 : upd H5 p (.lst [.ref P0, .ref P1]) p = some (.lst [.ref P0, .ref P1]) := upd_same
  refine ⟨_, rfl, .inl ⟨rfl, _, .inl (.inl hp6)⟩, ?_⟩
  refine g1 2 2 "name" (.ref t2) [some (.ref b), some one, some (.ref t2), some (.ref p)] (fun a => muL mu la t2 a ∨ a = p) rfl _ M6 _ fun P2 H7 s7 r2 => ?_
  refine g1 3 1 "names" one [some (.ref b), some one, some (.ref t2), some (.ref p)] (fun a => muL mu la t2 a ∨ a = p) rfl H7 (M6.same s7) _ fun P3 H8 s8 r3 => ?_
  refine g1 4 2 "most" (.ref t2) [some (.ref b), some one, some (.ref t2), some (.ref p)] (fun a => muL mu la t2 a ∨ a = p) rfl H8 ((M6.same s7).same s8) _ fun P4 H9 s9 r4 => ?_
  refine ⟨by show 3 ≤ sizeLine; decide, fun q nq => ?_⟩
  have s79 := (s7.trans s8).trans s9
  have hp9 := s79 _ _ hp6
  have s10 := same_upd (o := .lst [.ref P2, .ref P3, .ref P4]) nq
  refine ⟨p, q, _, _, rfl, rfl, s10 _ _ hp9, upd_same, by show 2 + 3 ≤ sizeLine; decide, ?_⟩
  have hp10 := s10 _ _ hp9
  have M10 : MuT (fun a => muL mu la t2 a ∨ a = p) (upd H9 q (.lst [.ref P2, .ref P3, .ref P4])) := (M6.same s79).same s10
  have fP : Fut (fun a => muL mu la t2 a ∨ a = p) (upd H9 q (.lst [.ref P2, .ref P3, .ref P4])) (upd (upd H9 q (.lst [.ref P2, .ref P3, .ref P4])) p (.lst ([.ref P0, .ref P1] ++ [.ref P2, .ref P3, .ref P4]))) := fun a o e z => by
    have na : a ≠ p := fun y => by
      rcases z with z | ⟨ys, rfl⟩ | ⟨ob, u, rfl⟩
      · exact z (.inr y)
      · rw [y, hp10] at e
        cases e
      · rw [y, hp10] at e
        cases e
    rw [upd_ne na]
    exact e
  have s5p : Same H5 (upd (upd H9 q (.lst [.ref P2, .ref P3, .ref P4])) p (.lst ([.ref P0, .ref P1] ++ [.ref P2, .ref P3, .ref P4]))) := fun a o e => by
    rw [upd_ne (ne_of_none e np)]
    exact s10 _ _ (s79 _ _ (s6 _ _ e))
  have q0 := (r0.fut (.of_same s5)).fut (.of_same s5p)
  have q1 := r1.fut (.of_same s5p)
  have q2 := (r2.fut (.of_same ((s8.trans s9).trans s10))).fut fP
  have q3 := (r3.fut (.of_same (s9.trans s10))).fut fP
  have q4 := (r4.fut (.of_same s10)).fut fP
  have S3 : Same H3 (upd (upd H9 q (.lst [.ref P2, .ref P3, .ref P4])) p (.lst ([.ref P0, .ref P1] ++ [.ref P2, .ref P3, .ref P4]))) := (s4.trans s5).trans s5p
  have hp11 : (upd (upd H9 q (.lst [.ref P2, .ref P3, .ref P4])) p (.lst ([.ref P0, .ref P1] ++ [.ref P2, .ref P3, .ref P4]))) p = some (.lst ([.ref P0, .ref P1] ++ [.ref P2, .ref P3, .ref P4])) := upd_same
  clear r0 r1 r2 r3 r4 fP s5p hp10 hp9 M10 s10 s79 hp6 M6 s6
  revert q0 q1 q2 q3 q4 S3 hp11
  generalize upd (upd H9 q (.lst [.ref P2, .ref P3, .ref P4])) p (.lst ([.ref P0, .ref P1] ++ [.ref P2, .ref P3, .ref P4])) = H11
  intro q0 q1 q2 q3 q4 S3 hp11
  have g0 : ∀ (i : Nat) (σ : L2.St) (mv : Addr → Prop), Gr mv cs σ (tTupI (tCons (tMk0 (cs i)) (tCons (tLst tNil) tNil))) i [] := fun i σ mv => gr0
  have M11 := M3.same S3
  refine ⟨_, rfl, ?_⟩
  refine g0 5 [some (.ref b), some one, some (.ref t2), some (.ref p)] (muL mu la t2) H11 M11 _ fun P5 H12 s12 r5 => ?_
  refine g1 6 1 "index" one [some (.ref b), some one, some (.ref t2), some (.ref p)] (muL mu la t2) rfl H12 (M11.same s12) _ fun P6 H13 s13 r6 => ?_
  refine g1 7 2 "line" (.ref t2) [some (.ref b), some one, some (.ref t2), some (.ref p)] (muL mu la t2) rfl H13 ((M11.same s12).same s13) _ fun P7 H14 s14 r7 => ?_
  refine g0 8 [some (.ref b), some one, some (.ref t2), some (.ref p)] (muL mu la t2) H14 (((M11.same s12).same s13).same s14) _ fun P8 H15 s15 r8 => ?_
  refine ⟨by show 4 ≤ sizeLine; decide, fun u nu => ?_⟩
  have s1215 := ((s12.trans s13).trans s14).trans s15
  have s16 := same_upd (o := .lst [.ref P5, .ref P6, .ref P7, .ref P8]) nu
  refine ⟨p, u, _, _, rfl, rfl, s16 _ _ (s1215 _ _ hp11), upd_same, by show (2 + 3) + 4 ≤ sizeLine; decide, fun r nr => ?_⟩
  have s17 := same_upd (o := .lst (([.ref P0, .ref P1] ++ [.ref P2, .ref P3, .ref P4]) ++ [.ref P5, .ref P6, .ref P7, .ref P8])) nr
  have sA := s16.trans s17
  have sB := s1215.trans sA
  have sC := S3.trans sB
  refine k r _ one t2 la (R3.same sC) (M3.same sC) ⟨((M11.same s1215).same s16).new nr, ⟨[P0, P1, P2, P3, P4, P5, P6, P7, P8], upd_same, rfl, fun i P hP => ?_⟩, cel1.same sC, cel2.same sC⟩
  match i, hP with
  | 0, hP => cases hP; exact q0.fut (.of_same sB)
  | 1, hP => cases hP; exact q1.fut (.of_same sB)
  | 2, hP => cases hP; exact (q2.less fun a z => .inl z).fut (.of_same sB)
  | 3, hP => cases hP; exact (q3.less fun a z => .inl z).fut (.of_same sB)
  | 4, hP => cases hP; exact (q4.less fun a z => .inl z).fut (.of_same sB)
  | 5, hP => cases hP; exact r5.fut (.of_same (((s13.trans s14).trans s15).trans sA))
  | 6, hP => cases hP; exact r6.fut (.of_same ((s14.trans s15).trans sA))
  | 7, hP => cases hP; exact r7.fut (.of_same (s15.trans sA))
  | 8, hP => cases hP; exact r8.fut (.of_same sA)
  | i + 9, hP => simp at hP
end
end K00
namespace K00
open PySem PySem.Spec PyProof.Rows L2 Sw
/-- only what is told may have changed -/
def Chg (mu nu : Addr → Prop) (H H' : Hp) : Prop := Fut (fun a => mu a ∧ ¬ nu a) H H'
theorem fut_app {M : Addr → Prop} {H : Hp} {a : Addr} {xs : List V} {o' : HO} (ha : H a = some (.lst xs)) (hm : M a) : Fut M H (upd H a o') := fun c o e z => by
  have nb : c ≠ a := fun q => by
    rcases z with z | ⟨ys, rfl⟩ | ⟨ob, u, rfl⟩
    · exact z (by rw [q]; exact hm)
    · rw [q, ha] at e
      cases e
    · rw [q, ha] at e
      cases e
  rw [upd_ne nb]
  exact e
/-- a lot whose list is known -/
structure LotN (K : PySem.W.Frag) (cs : Nat → Addr) (mu nu : Addr → Prop) (r : Addr) (Ps : List Addr) (one : V) (t2 : Addr) (n : Nat) (H : Hp) : Prop where
  nr : ¬ mu r
  hr : H r = some (.lst (Ps.map V.ref))
  ln : Ps.length = 9
  rows : ∀ i P, Ps[i]? = some P → Row mu cs H i P (fvOf one (.ref t2) i)
  c1 : Cel K mu nu n H one
  c2 : Cel K mu nu n H (.ref t2)
section
variable {K : PySem.W.Frag} {cs : Nat → Addr} {mu nu : Addr → Prop} {r : Addr} {Ps : List Addr} {one : V} {t2 : Addr} {n : Nat} {H H' : Hp}
theorem LotN.same (h : LotN K cs mu nu r Ps one t2 n H) (s : Same H H') : LotN K cs mu nu r Ps one t2 n H' :=
  ⟨h.nr, s _ _ h.hr, h.ln, fun i P e => (h.rows i P e).fut (.of_same s), h.c1.same s, h.c2.same s⟩
theorem LotN.mono {k : Nat} (h : LotN K cs mu nu r Ps one t2 n H) (hk : n ≤ k) : LotN K cs mu nu r Ps one t2 k H :=
  ⟨h.nr, h.hr, h.ln, h.rows, h.c1.mono hk, h.c2.mono hk⟩
theorem LotN.append {a : Addr} {xs : List V} (h : LotN K cs mu nu r Ps one t2 n H) (ha : H a = some (.lst xs)) (hm : mu a) : LotN K cs mu nu r Ps one t2 (n + 1) (upd H a (.lst (xs ++ [.int 0]))) := by
  have f : Fut mu H (upd H a (.lst (xs ++ [.int 0]))) := fut_app ha hm
  exact ⟨h.nr, f _ _ h.hr (.inl h.nr), h.ln, fun i P e => (h.rows i P e).fut f, h.c1.append ha hm, h.c2.append ha hm⟩
theorem LotN.cel {i : Nat} {p : Str × V} (h : LotN K cs mu nu r Ps one t2 n H) (hp : p ∈ fvOf one (.ref t2) i) : Cel K mu nu n H p.2 := by
  have e : p.2 = one ∨ p.2 = .ref t2 := by
    unfold fvOf at hp
    split at hp <;> simp at hp <;> first | (obtain rfl | rfl := hp <;> simp) | (subst hp; simp)
  rcases e with e | e
  · rw [e]
    exact h.c1
  · rw [e]
    exact h.c2
theorem Cel.chg {m' n' : Addr → Prop} {v : V} (h : Cel K mu nu n H v) (c : Chg m' n' H H') (hm : ∀ a, m' a → nu a) (hn : ∀ a, nu a → mu a) : Cel K mu nu n H' v := by
  have f : Fut (fun x => mu x ∨ x = sysModules) H H' := c.mono fun a z => .inl (hn a (hm a z.1))
  rcases h with ⟨a, xs, ds, h1, h2, h3, h4, h5, h6⟩ | ⟨d, h1, h2, h3, h4⟩
  · exact .inl ⟨a, xs, ds, h1, h2, c _ _ h3 (.inl fun z => h2.2 (hm _ z.1)), h4, h5.fut f, h6⟩
  · exact .inr ⟨d, h1.fut f, h2.fut h1 f, h3, h4⟩
/-- a lot of which nothing may have changed -/
theorem LotN.chg {m' n' : Addr → Prop} (h : LotN K cs mu nu r Ps one t2 n H) (c : Chg m' n' H H') (hm : ∀ a, m' a → nu a) (hn : ∀ a, nu a → mu a) : LotN K cs mu nu r Ps one t2 n H' := by
  have f : Fut mu H H' := Fut.mono c fun a z => hn a (hm a z.1)
  exact ⟨h.nr, f _ _ h.hr (.inl h.nr), h.ln, fun i P e => (h.rows i P e).fut f, h.c1.chg c hm hn, h.c2.chg c hm hn⟩
theorem LotN.rel {b : Addr} (h : LotN K cs mu nu r Ps one t2 n H) (R : Rel b H H') (hm : mu b) (hn : nu b) (hb : BagAt H b) : LotN K cs mu nu r Ps one t2 n H' := by
  have f : Fut mu H H' := R.fut hm hb
  exact ⟨h.nr, f _ _ h.hr (.inl h.nr), h.ln, fun i P e => (h.rows i P e).fut f, h.c1.rel R hm hn hb, h.c2.rel R hm hn hb⟩
theorem bag_chg {b l : Addr} (h : BagAt H b) (hl : BagL H b l) (c : Chg mu nu H H') (nb : ¬ (mu b ∧ ¬ nu b)) (nl : ¬ (mu l ∧ ¬ nu l)) : BagAt H' b ∧ BagL H' b l := by
  obtain ⟨x, y, z, l', cl, h1, h2, h3⟩ := h
  have e := hl.eq h1
  subst e
  exact ⟨⟨x, y, z, l, cl, c _ _ h1 (.inl nb), c _ _ h2 (.inl nl), h3⟩, x, y, z, c _ _ h1 (.inl nb)⟩
end
/-- what the errors' classes say of their fields -/
structure Flds (K : PySem.W.Frag) (cs : Nat → Addr) : Prop where
  xf : ∀ i, i < 9 → XfC K (cs i)
  no : ∀ i, i < 9 → ∀ f ∈ (fvOf .non .non i).map Prod.fst, PySem.W.findIn K (.ref (cs i)) f = some none
theorem fv_names (one two : V) (i : Nat) : (fvOf one two i).map Prod.fst = (fvOf .non .non i).map Prod.fst := by
  unfold fvOf
  split <;> rfl
theorem fv_fld {one two : V} {i : Nat} {p : Str × V} (h : p ∈ fvOf one two i) : p.1 ∈ fldNames := by
  unfold fvOf at h
  split at h <;> simp at h <;> first | (obtain rfl | rfl := h <;> simp [fldNames]) | (subst h; simp [fldNames])
theorem fv_len (one two : V) (i : Nat) : (fvOf one two i).length ≤ 2 := by
  unfold fvOf
  split <;> simp
theorem Cel.alk {K : PySem.W.Frag} {mu nu : Addr → Prop} {n : Nat} {H : Hp} {v : V} (h : Cel K mu nu n H v) (hn : n ≤ 100) : ∃ m d, Dt K m H v d ∧ Ok d ∧ (d.hasDict = false ∨ (m sysModules ∧ Selfs K H v v)) := by
  obtain ⟨x, y, m, d, e, h1, h2, h3, h4, _⟩ := h.alike (Q := fun _ _ => True) hn True.intro (fun _ _ _ => True)
  cases e
  exact ⟨m, d, h1, h3, h4⟩
theorem lay_bools : ∀ bs : List Bool, PyData.canLayAll0 (bs.map PyData.bool) = true ∧ PyData.depthAll (bs.map PyData.bool) = 0
  | [] => ⟨rfl, rfl⟩
  | x :: bs => by
    have e := lay_bools bs
    simp only [List.map_cons, PyData.canLayAll0, PyData.depthAll, e.1, e.2, PyData.canLay0, PyData.depth, Bool.and_self, Nat.max_self, and_self]
theorem shaped_bools (bs : List Bool) : SeqAt.shaped (.list (bs.map PyData.bool)) = true := by
  have e := lay_bools bs
  unfold SeqAt.shaped
  simp only [PyData.canLay0, PyData.depth, e.1, e.2, Bool.true_and]
  decide
theorem eqv_bools (bs : List Bool) : PyData.eqv (.list (bs.map PyData.bool)) (.list (bs.map PyData.bool)) = true := eqv_same (by simp only [PyData.canLay0]; exact (lay_bools bs).1)
theorem range_kinds (j i : Nat) : ((List.range (i + 1)).map fun k => V.bl (decide (j = k))) = ((List.range i).map fun k => V.bl (decide (j = k))) ++ [V.bl (decide (j = i))] := by
  rw [List.range_succ, List.map_append]
  rfl
theorem kinds_V (j : Nat) : ((List.range 9).map fun k => V.bl (decide (j = k))) = (kindsOf j).map V.bl := by
  unfold kindsOf
  rw [List.map_map]
  rfl
theorem ok_bools (a b c d : Bool) : Ok (.list [.bool a, .bool b, .bool c, .bool d]) ∧ (PyData.list [.bool a, .bool b, .bool c, .bool d]).hasDict = false := by
  cases a <;> cases b <;> cases c <;> cases d <;> decide +kernel
theorem Th.ok' {d : PyData} (h : Th d) : Ok d := ⟨h.ok, by have := h.dp; omega, by have := h.wt; omega⟩
theorem mem_get {α : Type} {xs : List α} {i : Nat} {x : α} (h : xs[i]? = some x) : x ∈ xs := List.mem_of_getElem? h
end K00
namespace K00
open PySem PySem.Spec PyProof.Rows L2 Sw
def spLaw (K : PySem.W.Frag) : Sp := fun vs H Q _ => ∃ (a : Addr) (ns : List Int), vs = [.ref a] ∧ SqL K H a (ns.map V.int) ∧ ns.length ≤ 63 ∧ ∀ H', Q (.bl true) H'
section
variable {P : Program} {w : World} {K : PySem.W.Frag} {mg : Str → Option Value} {base : Heap}
structure Defs (P : Program) (w : World) (K : PySem.W.Frag) (mg : Str → Option Value) (base : Heap) (cs : Nat → Addr) : Prop where
  bag : CalG P w K mg base 1 "_law_bag" (spBag K)
  errors : CalG P w K mg base 5 "_law_errors" (spErrs K cs)
  kinds : CalG P w K mg base 1 "_law_kinds_of" (spKinds cs)
  field : CalG P w K mg base 1 "_law_field" (spField K)
  alike : CalG P w K mg base 1 "_law_alike" (spAlike K)
  thing : CalG P w K mg base 4 "_law_thing" (spThing K)
  i1 : CalG P w K mg base 1 "is_integer" (spP K isInt)
  i2 : CalG P w K mg base 2 "is_fraction" (spP K isFrac)
  i3 : CalG P w K mg base 3 "is_amount" (spP K isAmt)
  i4 : CalG P w K mg base 1 "is_name" (spP K isNm)
  j1 : CalG P w K mg base 1 "_law_is_int" (spP K isInt)
  j2 : CalG P w K mg base 2 "_law_is_fraction" (spP K isFrac)
  j3 : CalG P w K mg base 3 "_law_is_amount" (spP K isAmt)
  j4 : CalG P w K mg base 1 "_law_is_name" (spP K isNm)
abbrev slaw : Stmt := topS 34
theorem sc_law : FnScope ["script", "bag", "lots", "errors", "place", "error", "fields", "at", "name", "thing", "turn", "shown", "told", "due"] ["script"] (defScope slaw) := ⟨rfl, rfl, rfl, by decide +kernel, rfl, by decide +kernel, by decide +kernel⟩
theorem ok_law {f : Addr} {fd : FuncData} {cs : Nat → Addr} {S : Addr} (F : Fun K "law" "law" slaw f fd) (B : Bt mg) (D : Defs P w K mg base cs) (T : Kinds K mg cs S) (T2 : Flds K cs) (TV : mg "ValueError" = none) : FnG P w K mg base 6 f fd ["script"] (spLaw K) := by
  refine Fun.okG F sc_law (fun vs H Q E h => ?_) (fun cdv A outer s H vs Q E hg hr h => ?_)
  · obtain ⟨a, ns, rfl, _⟩ := h
    rfl
  obtain ⟨a, ns, rfl, hS, hl, k⟩ := h
  have hu := Room.u64 hr
  have c__law_bag := D.bag
  have c__law_errors := D.errors
  have c__law_kinds_of := D.kinds
  have c__law_field := D.field
  have c__law_alike := D.alike
  have c__law_thing := D.thing
  have c_is_integer := D.i1
  have c_is_fraction := D.i2
  have c_is_amount := D.i3
  have c_is_name := D.i4
  have c__law_is_int := D.j1
  have c__law_is_fraction := D.j2
  have c__law_is_amount := D.j3
  have c__law_is_name := D.j4
  have m_SoldError := T.mS
  refine ⟨_, (pss_cons (ps_set (i := 1) sc_law.nd rfl (Or.inl rfl) (pc c__law_bag hg hr (by decide) (by rfl) (pa_cons (pv 0) pa_nil)))
    (pss_cons (ps_set (i := 2) sc_law.nd rfl (Or.inl rfl) (pe_lst (pa_cons (pc c__law_errors hg hr (by decide) (by rfl) (pa_cons (pv 1) pa_nil)) (pa_cons (pc c__law_errors hg hr (by decide) (by rfl) (pa_cons (pv 1) pa_nil)) pa_nil))))
    (pss_cons (ps_for PassesOwn.never rfl (pi_list (pv 2)) (pg_name (i := 3) sc_law.nd rfl (Or.inl rfl))
      (pss_one (ps_for PassesOwn.never rfl (pi_enum (by rfl) B.enum (pa_cons (pv 3) pa_nil)) (pg_tup (n := 2) rfl (pgs_cons (pg_name (i := 4) sc_law.nd rfl (Or.inr rfl)) (pgs_cons (pg_tup (n := 2) rfl (pgs_cons (pg_name (i := 5) sc_law.nd rfl (Or.inr rfl)) (pgs_cons (pg_name (i := 6) sc_law.nd rfl (Or.inl rfl)) pgs_nil))) pgs_nil)))
        (pss_cons (ps_if (PW.pt (pw_or (pt_not (pt_val (pe_callB call_isX (by rfl) B.isin bb_isin (pa_cons (pv 5) (pa_cons (pe_glob (v := .ref _) (by rfl) m_SoldError rfl) pa_nil))))) (pw_or1 (pt_not (pt_val (pe_callB call_isX (by rfl) B.isin bb_isin (pa_cons (pv 5) (pa_cons (pe_bltn (v := .ty "ValueError") rfl TV bb_VE rfl) pa_nil))))))))
          (pss_one (ps_ret pe_bl))
          pss_nil)
        (pss_cons (ps_if (pt_cmpR (op_neW hu) (pc c__law_kinds_of hg hr (by decide) (by rfl) (pa_cons (pv 5) pa_nil)) (pe_lc (own := [("at", 7)]) rfl sc_law.nd (pi_range1 (by rfl) B.range (pa_cons pe_int pa_nil)) (blkOk_by (own := [("at", 7)]) (N := ["script", "bag", "lots", "errors", "place", "error", "fields", "at", "name", "thing", "turn", "shown", "told", "due"]) (sc := (defScope slaw)) (by decide +kernel)) (fun _ _ _ _ _ => (pg_name (i := 7) sc_law.nd rfl (Or.inl rfl))) (fun _ _ _ _ _ => pts_nil) (fun _ _ _ _ _ => (pe_cmpR op_eq (pv 7) (pv 4) (nomark _)))) (nomark _))
          (pss_one (ps_ret pe_bl))
          pss_nil)
        (pss_cons (ps_if (pt_cmpR (op_neW hu) (pe_lc (own := [("name", 8), ("thing", 9)]) rfl sc_law.nd (pi_list (pv 6)) (blkOk_by (own := [("name", 8), ("thing", 9)]) (N := ["script", "bag", "lots", "errors", "place", "error", "fields", "at", "name", "thing", "turn", "shown", "told", "due"]) (sc := (defScope slaw)) (by decide +kernel)) (fun _ _ _ _ _ => (pg_tupK (K := K) (hK := rfl) (n := 2) rfl (pgs_cons (pg_name (i := 8) sc_law.nd rfl (Or.inl rfl)) (pgs_cons (pg_name (i := 9) sc_law.nd rfl (Or.inl rfl)) pgs_nil)))) (fun _ _ _ _ _ => (pts_one (pt_not (pt_val (pc c__law_alike hg hr (by decide) (by rfl) (pa_cons (pc c__law_field hg hr (by decide) (by rfl) (pa_cons (pv 5) (pa_cons (pv 8) pa_nil))) (pa_cons (pv 9) pa_nil))))))) (fun _ _ _ _ _ => (pv 8))) (pe_lst pa_nil) (nomark _))
          (pss_one (ps_ret pe_bl))
          pss_nil)
        (pss_one (ps_for PassesOwn.never rfl (pi_list (pv 6)) (pg_tup (n := 2) rfl (pgs_cons (pg_name (i := 8) sc_law.nd rfl (Or.inl rfl)) (pgs_cons (pg_name (i := 9) sc_law.nd rfl (Or.inl rfl)) pgs_nil)))
          (pss_one (ps_if (pt_val (pe_callB call_isD (by rfl) B.isin bb_isin (pa_cons (pv 9) (pa_cons (pe_bltn (v := .ty "list") rfl B.list bb_list rfl) pa_nil))))
            (pss_cons (ps_expr (pe_bm PySem.F.plainAttrs_list PySem.F.slot_list_append PySem.F.type_list_append mt_append (pv 9) (pa_cons pe_int pa_nil)))
            (pss_one (ps_if (pt_not (pt_val (pc c__law_alike hg hr (by decide) (by rfl) (pa_cons (pc c__law_field hg hr (by decide) (by rfl) (pa_cons (pv 5) (pa_cons (pv 8) pa_nil))) (pa_cons (pv 9) pa_nil)))))
              (pss_one (ps_ret pe_bl))
              pss_nil)))
            pss_nil))))))))))
    (pss_cons (ps_for PassesOwn.never rfl (pi_range1 (by rfl) B.range (pa_cons pe_int pa_nil)) (pg_name (i := 10) sc_law.nd rfl (Or.inl rfl))
      (pss_cons (ps_set (i := 9) sc_law.nd rfl (Or.inl rfl) (pc c__law_thing hg hr (by decide) (by rfl) (pa_cons (pv 1) pa_nil)))
      (pss_cons (ps_set (i := 11) sc_law.nd rfl (Or.inl rfl) (pe_callB (call_repr hg hu) (by rfl) B.repr bb_repr (pa_cons (pv 9) pa_nil)))
      (pss_cons (ps_set (i := 12) sc_law.nd rfl (Or.inl rfl) (pe_lst (pa_cons (pc c_is_integer hg hr (by decide) (by rfl) (pa_cons (pv 9) pa_nil)) (pa_cons (pc c_is_fraction hg hr (by decide) (by rfl) (pa_cons (pv 9) pa_nil)) (pa_cons (pc c_is_amount hg hr (by decide) (by rfl) (pa_cons (pv 9) pa_nil)) (pa_cons (pc c_is_name hg hr (by decide) (by rfl) (pa_cons (pv 9) pa_nil)) pa_nil))))))
      (pss_cons (ps_set (i := 13) sc_law.nd rfl (Or.inl rfl) (pe_lst (pa_cons (pc c__law_is_int hg hr (by decide) (by rfl) (pa_cons (pv 9) pa_nil)) (pa_cons (pc c__law_is_fraction hg hr (by decide) (by rfl) (pa_cons (pv 9) pa_nil)) (pa_cons (pc c__law_is_amount hg hr (by decide) (by rfl) (pa_cons (pv 9) pa_nil)) (pa_cons (pc c__law_is_name hg hr (by decide) (by rfl) (pa_cons (pv 9) pa_nil)) pa_nil))))))
      (pss_one (ps_if (PW.pt (pw_or (pt_not (pt_val (pc c__law_alike hg hr (by decide) (by rfl) (pa_cons (pv 12) (pa_cons (pv 13) pa_nil))))) (pw_or1 (pt_cmpR op_ne (pe_callB (call_repr hg hu) (by rfl) B.repr bb_repr (pa_cons (pv 9) pa_nil)) (pv 11) (nomark _)))))
        (pss_one (ps_ret pe_bl))
        pss_nil)))))))
    (pss_one (ps_ret pe_bl)))))), ?_⟩
  -- bag, lots
  refine ⟨_, rfl, a, ns, rfl, hS, hl, fun b H1 s1 nb hb => ?_⟩
  obtain ⟨x0, y0, z0, l, cl, hb1, hb2, hlb, hbr⟩ := id hb
  have hL : BagL H1 b l := ⟨_, _, _, hb1⟩
  refine ⟨_, rfl, b, (fun a => a = b ∨ a = l), rfl, .inl rfl, hb, (fun a z => by
    rcases z with z | z
    · rw [z, hb1]
      exact fun z => nomatch z
    · rw [z, hb2]
      exact fun z => nomatch z), fun r1 H2 one1 t1 la1 R2 M2 L1 => ?_⟩
  refine ⟨_, rfl, b, muL (fun a => a = b ∨ a = l) la1 t1, rfl, .inl (.inl rfl), R2.bag, M2, fun r2 H3 one2 t2 la2 R3 M3 L2 => ?_⟩
  refine ⟨by show 2 ≤ sizeLine; decide, fun lt nlt => ?_⟩
  have nltb : lt ≠ b := fun z => by
    obtain ⟨_, _, _, _, _, q, _⟩ := R3.bag
    rw [z, q] at nlt
    cases nlt
  have s4 := same_upd (o := .lst [.ref r1, .ref r2]) nlt
  have L1' : ∃ Ps, LotN K cs (muL (fun a => a = b ∨ a = l) la1 t1) (fun a => a = b ∨ a = l) r1 Ps one1 t1 0 (upd H3 lt (.lst [.ref r1, .ref r2])) := by
    obtain ⟨Ps, h1, h2, h3⟩ := L1.rows
    have z : LotN K cs (muL (fun a => a = b ∨ a = l) la1 t1) (fun a => a = b ∨ a = l) r1 Ps one1 t1 0 H2 := ⟨L1.nr, h1, h2, h3, L1.c1, L1.c2⟩
    exact ⟨Ps, (z.rel R3 (.inl (.inl rfl)) (.inl rfl) R2.bag).same s4⟩
  have L2' : ∃ Ps, LotN K cs (muL (muL (fun a => a = b ∨ a = l) la1 t1) la2 t2) (muL (fun a => a = b ∨ a = l) la1 t1) r2 Ps one2 t2 0 (upd H3 lt (.lst [.ref r1, .ref r2])) := by
    obtain ⟨Ps, h1, h2, h3⟩ := L2.rows
    have z : LotN K cs (muL (muL (fun a => a = b ∨ a = l) la1 t1) la2 t2) (muL (fun a => a = b ∨ a = l) la1 t1) r2 Ps one2 t2 0 H3 := ⟨L2.nr, h1, h2, h3, L2.c1, L2.c2⟩
    exact ⟨Ps, z.same s4⟩
  obtain ⟨Ps1, N1⟩ := L1'
  obtain ⟨Ps2, N2⟩ := L2'
  have nlt2 : ¬ muL (muL (fun a => a = b ∨ a = l) la1 t1) la2 t2 lt := M3.new nlt
  have hb4 := (R3.bag).same s4
  have hL4 := (R3.cell _ (R2.cell _ hL)).same s4
  have hlt4 : (upd H3 lt (.lst [.ref r1, .ref r2])) lt = some (.lst [.ref r1, .ref r2]) := upd_same
  clear L1 L2 M2 M3 R2 R3 hb1 hb2 hlb hbr
  revert N1 N2 hb4 hL4 hlt4
  generalize upd H3 lt (.lst [.ref r1, .ref r2]) = H4
  intro N1 N2 hb4 hL4 hlt4
  have m01 : ∀ a, (a = b ∨ a = l) → muL (fun a => a = b ∨ a = l) la1 t1 a := fun a z => .inl z
  have m12 : ∀ a, muL (fun a => a = b ∨ a = l) la1 t1 a → muL (muL (fun a => a = b ∨ a = l) la1 t1) la2 t2 a := fun a z => .inl z
  have m0b : b = b ∨ b = l := .inl rfl
  have m0l : l = b ∨ l = l := .inr rfl
  revert N1 N2 m01 m12 m0b m0l nlt2
  generalize muL (muL (fun a => a = b ∨ a = l) la1 t1) la2 t2 = m2
  generalize muL (fun a => a = b ∨ a = l) la1 t1 = m1
  generalize hm0 : (fun a => a = b ∨ a = l) = m0
  intro nlt2 N1 N2 m01 m12 m0b m0l
  have m01 : ∀ a, m0 a → m1 a := fun a z => m01 a (by rw [← hm0] at z; exact z)
  have m0b : m0 b := by rw [← hm0]; exact m0b
  have m0l : m0 l := by rw [← hm0]; exact m0l
  clear hm0
  -- the lots
  refine ⟨_, rfl, lt, rfl, ⟨_, .inl (.inl hlt4)⟩, for_list (xs := [.ref r1, .ref r2]) (fun i σ H => ∃ v3 v4 v5 v6 v8 v9, σ = [some (.ref a), some (.ref b), some (.ref lt), v3, v4, v5, v6, none, v8, v9, none, none, none, none] ∧ BagAt H b ∧ BagL H b l ∧ H lt = some (.lst [.ref r1, .ref r2]) ∧ (i ≤ 1 → LotN K cs m2 m1 r2 Ps2 one2 t2 0 H) ∧ (i = 0 → LotN K cs m1 m0 r1 Ps1 one1 t1 0 H))
    ⟨none, none, none, none, none, none, rfl, hb4, hL4, hlt4, fun _ => N2, fun _ => N1⟩ (fun i σ H _ h => by
      obtain ⟨_, _, _, _, _, _, _, _, _, h, _⟩ := h
      exact .inl (.inl h)) (fun i x σ H' hx h => ?_) fun σ H' h => ?_⟩
  · obtain ⟨v3, v4, v5, v6, v8, v9, rfl, hbb, hLL, hlt, n2, n1⟩ := h
    have lot : ∃ mu nu r Ps one t, x = .ref r ∧ LotN K cs mu nu r Ps one t 0 H' ∧ ∀ H'', Chg mu nu H' H'' → BagAt H'' b ∧ BagL H'' b l ∧ H'' lt = some (.lst [.ref r1, .ref r2]) ∧ (i + 1 ≤ 1 → LotN K cs m2 m1 r2 Ps2 one2 t2 0 H'') ∧ (i + 1 = 0 → LotN K cs m1 m0 r1 Ps1 one1 t1 0 H'') := by
      match i, hx with
      | 0, hx =>
        cases hx
        refine ⟨m1, m0, r1, Ps1, one1, t1, rfl, n1 rfl, fun H'' c => ?_⟩
        obtain ⟨z1, z2⟩ := bag_chg hbb hLL c (fun z => z.2 m0b) (fun z => z.2 m0l)
        exact ⟨z1, z2, c _ _ hlt (.inl fun z => nlt2 (m12 _ z.1)), fun _ => (n2 (by omega)).chg c (fun _ z => z) m12, fun z => by omega⟩
      | 1, hx =>
        cases hx
        refine ⟨m2, m1, r2, Ps2, one2, t2, rfl, n2 (by omega), fun H'' c => ?_⟩
        obtain ⟨z1, z2⟩ := bag_chg hbb hLL c (fun z => z.2 (m01 _ m0b)) (fun z => z.2 (m01 _ m0l))
        exact ⟨z1, z2, c _ _ hlt (.inl fun z => nlt2 z.1), fun z => by omega, fun z => by omega⟩
      | i + 2, hx => simp at hx
    clear n1 n2 hbb hLL hlt hx
    obtain ⟨mu, nu, r, Ps, one, t, rfl, LN, hend⟩ := lot
    refine ⟨_, rfl, r, _, rfl, .inl (.inl LN.hr), for_it (walk_enum (xs := Ps.map V.ref) (a := r)) (fun j σ H'' => ∃ v4 v5 v6 v8 v9, σ = [some (.ref a), some (.ref b), some (.ref lt), some (.ref r), v4, v5, v6, none, v8, v9, none, none, none, none] ∧ Chg mu nu H' H'' ∧ LotN K cs mu nu r Ps one t (2 * j) H'')
      ⟨v4, v5, v6, v8, v9, rfl, Fut.refl _, LN⟩ (fun j σ H'' _ h => by
        obtain ⟨_, _, _, _, _, _, _, h⟩ := h
        exact .inl (.inl h.hr)) (fun j x σ H5 H6 hj h hY => ?_) fun σ H'' h => ?_⟩
    · obtain ⟨w4, w5, w6, w8, w9, rfl, ch, LJ⟩ := h
      obtain ⟨T', x', P', rfl, nT, rfl, hx', hP'⟩ := hY
      cases hx'
      obtain ⟨P0, hP0, rfl⟩ : ∃ P0, Ps[j]? = some P0 ∧ P' = .ref P0 := by
        have hP' : (Ps.map V.ref)[j]? = some P' := hP'
        rw [List.getElem?_map] at hP'
        cases e : Ps[j]? with
        | none =>
          rw [e] at hP'
          cases hP'
        | some P0 =>
          rw [e] at hP'
          cases hP'
          exact ⟨P0, rfl, rfl⟩
      have hj9 : j < 9 := by
        rw [List.length_map, LJ.ln] at hj
        exact hj
      have sT := same_upd (o := .tup [.int (j : Nat), .ref P0]) nT
      have LJ6 := LJ.same sT
      obtain ⟨e, L, Ts, hP, nL, hLl, hF, hE⟩ := LJ6.rows j P0 hP0
      have hTT : (upd H5 T' (.tup [.int (j : Nat), .ref P0])) T' = some (.tup [.int (j : Nat), .ref P0]) := upd_same
      refine ⟨T', _, rfl, .inl (.inl hTT), rfl, _, _, rfl, _, _, rfl, P0, _, rfl, .inl (.inl hP), rfl, _, _, rfl, _, _, rfl, rfl, rfl, ?_⟩
      have ch6 : Chg mu nu H' (upd H5 T' (.tup [.int (j : Nat), .ref P0])) := Fut.trans ch (.of_same sT)
      clear hTT ch LJ sT nT hP'
      revert LJ6 hLl hF hE ch6 hP
      generalize upd H5 T' (.tup [.int (j : Nat), .ref P0]) = H6
      intro LJ6 hP hLl hF hE ch6
      have hErr := hE.cls
      -- under SoldError, under ValueError
      have isS : ∀ (σ : L2.St) (H7 : Hp) (Q' : VK), σ[5]? = some (some (.ref e)) → Same H6 H7 → Q' (.bl true) H7 → tCB (rIsX K) (tCons (tVar 5) (tCons (tC (.ref S)) tNil)) σ H7 Q' := fun σ H7 Q' hσ s q => by
        obtain ⟨dx, h1, h2⟩ := hErr.same s
        exact ⟨_, hσ, e, cs j, dx, .ref S, .ref S, _, rfl, T.exc j hj9, h1, h2, fun u z => z, T.sol j hj9, q⟩
      have isV : ∀ (σ : L2.St) (H7 : Hp) (Q' : VK), σ[5]? = some (some (.ref e)) → Same H6 H7 → Q' (.bl true) H7 → tCB (rIsX K) (tCons (tVar 5) (tCons (tC (.ty "ValueError")) tNil)) σ H7 Q' := fun σ H7 Q' hσ s q => by
        obtain ⟨dx, h1, h2⟩ := hErr.same s
        exact ⟨_, hσ, e, cs j, dx, .ty "ValueError", .type "ValueError", _, rfl, T.exc j hj9, h1, h2, fun u z => z, T.val j hj9, q⟩
      refine isS _ H6 _ rfl (.refl H6) ⟨_, rfl, iteF ?_⟩
      refine isV _ H6 _ rfl (.refl H6) ⟨_, rfl, iteF ?_⟩
      -- which classes
      refine ⟨_, rfl, e, j, rfl, hj9, hErr, fun p H7 s7 np hp => ?_⟩
      refine ⟨9, rfl, by decide, by decide, fun D nD => ?_⟩
      have nDp : p ≠ D := fun z => by
        rw [← z, hp] at nD
        cases nD
      refine lc_it (walk_range (lo := 0) (n := 9)) (fun i H' => Same H7 H' ∧ H' D = some (.lst ((List.range i).map fun k => V.bl (decide (j = k))))) ⟨same_upd nD, upd_same⟩ (fun _ _ _ _ => True.intro) (fun i x H8 H9 hi h y => ?_) fun H8 h => ?_
      · obtain ⟨h1, h2⟩ := h
        obtain ⟨rfl, rfl⟩ := y
        refine ⟨rfl, _, rfl, _, rfl, rfl, _, h2, Nat.lt_of_le_of_lt (by rw [List.length_map, List.length_range]; exact Nat.le_refl _) (small1000 (show i ≤ 1000 by omega)), fun q o z => ?_, ?_⟩
        · rw [upd_ne (ne_of_none z nD)]
          exact h1 q o z
        · rw [upd_same, range_kinds, show decide (V.int (0 + (i : Nat)) = V.int (j : Nat)) = decide (j = i) by
            rw [Sw.dec_int, decide_eq_decide]
            omega]
      obtain ⟨h1, h2⟩ := h
      rw [kinds_V] at h2
      refine ⟨fun _ => False, _, _, .lst (fun z => z) (.inl (h1 _ _ hp)) (DtA.bls _), .lst (fun z => z) (.inl h2) (DtA.bls _), shaped_bools _, shaped_bools _, ?_⟩
      rw [eqv_bools]
      refine ⟨_, rfl, iteF ?_⟩
      have s8 := s7.trans h1
      have LJ8 := LJ6.same s8
      have ch8 : Chg mu nu H' H8 := Fut.trans ch6 (.of_same s8)
      have hL8 := s8 _ _ hLl
      have hF8 : FldA H8 Ts (fvOf one (.ref t) j) := hF.fut (mu := mu) (.of_same s8)
      have hE8 : ErrF mu cs H8 j e (fvOf one (.ref t) j) := hE.fut (.of_same s8)
      clear h1 h2 hp np nD nDp s7 isS isV LJ6 hErr hE hF hLl hP ch6
      -- a field is the very thing
      have fld : ∀ (p : Str × V) (H9 : Hp) (Q' : VK) (E' : XK), p ∈ fvOf one (.ref t) j → ErrF mu cs H9 j e (fvOf one (.ref t) j) → (∀ H', Same H9 H' → Q' p.2 H') → spField K [.ref e, .str p.1] H9 Q' E' := fun p H9 Q' E' hp hE q => by
        obtain ⟨_, dx, h1, h2, h3⟩ := hE
        obtain ⟨d, fs, z, h4, h5⟩ := h3 p hp
        subst z
        exact ⟨e, cs j, d, fs, p.1, p.2, rfl, fv_fld hp, T2.xf j hj9, T2.no j hj9 p.1 (by rw [← fv_names one (.ref t) j]; exact List.mem_map_of_mem hp), h1, h4, h5, q⟩
      -- all fields
      refine ⟨_, rfl, L, rfl, ⟨_, .inl (.inl hL8)⟩, fun D nD => ?_⟩
      have nDL : L ≠ D := fun z => by
        rw [← z, hL8] at nD
        cases nD
      refine lc_it (walk_list (xs := Ts.map V.ref) (a := L)) (fun i H' => Same H8 H' ∧ H' D = some (.lst [])) ⟨same_upd nD, upd_same⟩ (fun _ _ _ h => .inl (.inl (h.1 _ _ hL8))) (fun i x H9 H10 hi h y => ?_) fun H9 h => ?_
      · obtain ⟨h1, h2⟩ := h
        obtain ⟨rfl, hx⟩ := y
        rw [List.getElem?_map] at hx
        cases eT : Ts[i]? with
        | none =>
          rw [eT] at hx
          cases hx
        | some T0 =>
          rw [eT] at hx
          cases hx
          obtain ⟨p, hp, hT⟩ := hF8.get eT
          have hpm := mem_get hp
          refine ⟨T0, _, rfl, .inl (.inl (h1 _ _ hT)), rfl, _, _, rfl, _, _, rfl, rfl, rfl, ?_⟩
          refine ⟨_, rfl, _, rfl, fld p _ _ E0 hpm (hE8.fut (.of_same h1)) fun H11 s11 => ?_⟩
          obtain ⟨m, dd, g1, g2, g3⟩ := (((LJ8.same h1).cel hpm).same s11).alk (by omega)
          refine ⟨_, rfl, _, _, m, dd, rfl, g1, g1, g2, g3, ?_⟩
          refine ⟨_, rfl, iteF ⟨fun q o z => s11 _ _ (h1 q o z), s11 _ _ h2⟩⟩
      obtain ⟨h1, h2⟩ := h
      refine ⟨Nat.zero_le _, fun p np => ?_⟩
      have s10 := same_upd (o := .lst []) np
      refine ⟨fun _ => False, .list [], .list [], .lst (fun z => z) (.inl (s10 _ _ h2)) .nil, .lst (fun z => z) (.inl upd_same) .nil, shaped_bools [], shaped_bools [], ?_⟩
      rw [show PyData.eqv (.list []) (.list []) = true from eqv_bools []]
      refine ⟨_, rfl, iteF ?_⟩
      have s11 := h1.trans s10
      have LJ10 := LJ8.same s11
      have ch10 : Chg mu nu H' (upd H9 p (.lst [])) := Fut.trans ch8 (.of_same s11)
      have hL10 := s11 _ _ hL8
      have hF10 : FldA (upd H9 p (.lst [])) Ts (fvOf one (.ref t) j) := hF8.fut (mu := mu) (.of_same s11)
      have hE10 : ErrF mu cs (upd H9 p (.lst [])) j e (fvOf one (.ref t) j) := hE8.fut (.of_same s11)
      clear h1 h2 s10 s11 np nD nDL LJ8 ch8 hL8 hF8 hE8
      revert LJ10 ch10 hL10 hF10 hE10
      generalize upd H9 p (.lst []) = H12
      intro LJ10 ch10 hL10 hF10 hE10
      have hTl : Ts.length ≤ 2 := by
        rw [hF10.len]
        exact fv_len _ _ _
      -- what is a list is changed
      refine ⟨_, rfl, L, rfl, ⟨_, .inl (.inl hL10)⟩, for_list (xs := Ts.map V.ref) (a := L) (fun i σ H'' => ∃ v8 v9, σ = [some (.ref a), some (.ref b), some (.ref lt), some (.ref r), some (.int (j : Nat)), some (.ref e), some (.ref L), none, v8, v9, none, none, none, none] ∧ Chg mu nu H' H'' ∧ H'' L = some (.lst (Ts.map V.ref)) ∧ FldA H'' Ts (fvOf one (.ref t) j) ∧ ErrF mu cs H'' j e (fvOf one (.ref t) j) ∧ LotN K cs mu nu r Ps one t (2 * j + i) H'')
        ⟨_, _, rfl, ch10, hL10, hF10, hE10, LJ10⟩ (fun i σ H'' _ h => by
          obtain ⟨_, _, _, _, h, _⟩ := h
          exact .inl (.inl h)) (fun i x σ H13 hx h => ?_) fun σ H13 h => ?_⟩
      · obtain ⟨x8, x9, rfl, ch, hL, hF, hE, LN3⟩ := h
        have hi2 : i < 2 := by
          have := (List.getElem?_eq_some_iff.mp hx).1
          rw [List.length_map] at this
          omega
        rw [List.getElem?_map] at hx
        cases eT : Ts[i]? with
        | none =>
          rw [eT] at hx
          cases hx
        | some T0 =>
          rw [eT] at hx
          cases hx
          obtain ⟨p, hp, hT⟩ := hF.get eT
          have hpm := mem_get hp
          refine ⟨T0, _, rfl, .inl (.inl hT), rfl, _, _, rfl, _, _, rfl, rfl, ?_⟩
          rcases LN3.cel hpm with ⟨c, xs, ds, ev, ns, ec, mc, hds, okn⟩ | ⟨d, e1, _, _, hnl⟩
          · obtain ⟨f0, v0⟩ := p
            have ev : v0 = .ref c := ev
            subst ev
            have hdt : Dt K (fun x => x = sysModules) H13 (.ref c) (.list ds) := .lst ns.1 (.inl ec) (hds.less fun x z => .inr z)
            refine ⟨_, rfl, .ref c, "list", _, .list ds, rfl, by decide, hdt, _, rfl, iteT ?_⟩
            have hlen : xs.length < sizeLine := by
              rw [hds.length]
              have := okn.len
              exact Nat.lt_of_le_of_lt (show ds.length ≤ 3000 by omega) (by rw [sizeLine_eq]; decide)
            have ch14 : Chg mu nu H13 (upd H13 c (.lst (xs ++ [.int 0]))) := fut_app ec ⟨mc, ns.2⟩
            have f14 : Fut mu H13 (upd H13 c (.lst (xs ++ [.int 0]))) := fut_app ec mc
            have nLc : L ≠ c := fun z => nL (by rw [z]; exact mc)
            have LN4 := LN3.append ec mc
            have hF4 := hF.fut f14
            have hE4 := hE.fut f14
            refine ⟨.ref c, rfl, .inl ⟨rfl, _, .inl (.inl ec)⟩, ?_⟩
            refine ⟨c, xs, .int 0, rfl, rfl, ec, hlen, ?_⟩
            have hL4 := f14 _ _ hL (.inl nL)
            revert ch14 LN4 hF4 hE4 hL4
            clear f14
            generalize upd H13 c (.lst (xs ++ [.int 0])) = H14
            intro ch14 LN4 hF4 hE4 hL4
            refine ⟨_, rfl, _, rfl, fld (f0, .ref c) _ _ E0 hpm hE4 fun H15 s15 => ?_⟩
            obtain ⟨m, dd, g1, g2, g3⟩ := ((LN4.cel hpm).same s15).alk (by omega)
            refine ⟨_, rfl, _, _, m, dd, rfl, g1, g1, g2, g3, ?_⟩
            refine ⟨_, rfl, iteF ?_⟩
            exact ⟨_, _, rfl, Fut.trans ch (Fut.trans ch14 (.of_same s15)), s15 _ _ hL4, hF4.fut (mu := mu) (.of_same s15), hE4.fut (.of_same s15), (LN4.same s15).mono (by omega)⟩
          · refine ⟨_, rfl, p.2, "list", _, d, rfl, by decide, e1, _, rfl, ?_⟩
            rw [hnl]
            exact iteF ⟨_, _, rfl, ch, hL, hF, hE, LN3.mono (by omega)⟩
      · obtain ⟨x8, x9, rfl, ch, _, _, _, LN3⟩ := h
        exact ⟨_, _, _, _, _, rfl, ch, LN3.mono (by rw [List.length_map]; omega)⟩
    · obtain ⟨w4, w5, w6, w8, w9, rfl, ch, _⟩ := h
      obtain ⟨q1, q2, q3, q4, q5⟩ := hend H'' ch
      exact ⟨_, w4, w5, w6, w8, w9, rfl, q1, q2, q3, q4, q5⟩
  · obtain ⟨v3, v4, v5, v6, v8, v9, rfl, hbb, _, _, _, _⟩ := h
    refine ⟨12, rfl, by decide, by decide, for_range (lo := 0) (n := 12) (fun i σ H => ∃ v3 v4 v5 v6 v8 v9 v10 v11 v12 v13, σ = [some (.ref a), some (.ref b), some (.ref lt), v3, v4, v5, v6, none, v8, v9, v10, v11, v12, v13] ∧ BagAt H b)
      ⟨_, _, _, _, _, _, _, _, _, _, rfl, hbb⟩ (fun i σ H5 hi h => ?_) fun σ H5 h => ?_⟩
    · obtain ⟨u3, u4, u5, u6, u8, u9, u10, u11, u12, u13, rfl, hb5⟩ := h
      refine ⟨_, rfl, b, (fun a => a = b ∨ a = sysModules), rfl, .inl rfl, hb5, MuOk.bag hb5, fun v H6 d hd R6 e6 _ => ?_⟩
      have ho := hd.ok'
      have hb6 := R6.bag
      -- shown
      refine ⟨_, rfl, v, _, d, rfl, e6, ho.show, .inr (.inr rfl), by have := ho.dp; omega, ho.fits, ?_⟩
      -- told
      refine ⟨_, rfl, v, _, d, rfl, e6, ho, fun H7 s7 => ?_⟩
      have e7 := e6.fut (.of_same s7)
      refine ⟨_, rfl, v, _, d, rfl, e7, ho, fun H8 s8 => ?_⟩
      have e8 := e7.fut (.of_same s8)
      refine ⟨_, rfl, v, _, d, rfl, e8, ho, fun H9 s9 => ?_⟩
      have e9 := e8.fut (.of_same s9)
      refine ⟨_, rfl, v, _, d, rfl, e9, ho, fun H10 s10 => ?_⟩
      have e10 := e9.fut (.of_same s10)
      refine ⟨by show 4 ≤ sizeLine; decide, fun p np => ?_⟩
      have s11 := same_upd (o := .lst [.bl (isInt d), .bl (isFrac d), .bl (isAmt d), .bl (isNm d)]) np
      have e11 := e10.fut (.of_same s11)
      have hp11 : (upd H10 p (.lst [.bl (isInt d), .bl (isFrac d), .bl (isAmt d), .bl (isNm d)])) p = some (.lst [.bl (isInt d), .bl (isFrac d), .bl (isAmt d), .bl (isNm d)]) := upd_same
      -- due
      refine ⟨_, rfl, v, _, d, rfl, e11, ho, fun H12 s12 => ?_⟩
      have e12 := e11.fut (.of_same s12)
      refine ⟨_, rfl, v, _, d, rfl, e12, ho, fun H13 s13 => ?_⟩
      have e13 := e12.fut (.of_same s13)
      refine ⟨_, rfl, v, _, d, rfl, e13, ho, fun H14 s14 => ?_⟩
      have e14 := e13.fut (.of_same s14)
      refine ⟨_, rfl, v, _, d, rfl, e14, ho, fun H15 s15 => ?_⟩
      have e15 := e14.fut (.of_same s15)
      refine ⟨by show 4 ≤ sizeLine; decide, fun q nq => ?_⟩
      have s16 := same_upd (o := .lst [.bl (isInt d), .bl (isFrac d), .bl (isAmt d), .bl (isNm d)]) nq
      have e16 := e15.fut (.of_same s16)
      have sA := (((s12.trans s13).trans s14).trans s15).trans s16
      have hp16 := sA _ _ hp11
      obtain ⟨okb, nob⟩ := ok_bools (isInt d) (isFrac d) (isAmt d) (isNm d)
      refine ⟨_, rfl, _, rfl, .ref p, .ref q, (fun _ => False), .list [.bool (isInt d), .bool (isFrac d), .bool (isAmt d), .bool (isNm d)], rfl, .lst (fun z => z) (.inl hp16) (DtA.bls [isInt d, isFrac d, isAmt d, isNm d]), .lst (fun z => z) (.inl upd_same) (DtA.bls [isInt d, isFrac d, isAmt d, isNm d]), okb, .inl nob, ?_⟩
      refine ⟨_, rfl, iteF ?_⟩
      refine ⟨_, rfl, v, _, d, rfl, e16, ho.show, .inr (.inr rfl), by have := ho.dp; omega, ho.fits, ?_⟩
      refine ⟨_, rfl, rfl, _, rfl, ?_⟩
      rw [show (!decide (V.str d.shown = V.str d.shown)) = false by rw [decide_eq_true rfl]; rfl]
      refine iteF ?_
      exact ⟨_, _, _, _, _, _, _, _, _, _, rfl, (((((((hb6.same s7).same s8).same s9).same s10).same s11)).same sA)⟩
    · exact k _
end
end K00
namespace K00
open PySem PySem.Spec PyProof.Rows L2 Sw
section
variable {K : PySem.W.Frag} {h : Heap} {mg : Str → Option Value}
/-- the top has written the def x -/
def DefE (K : PySem.W.Frag) (mg : Str → Option Value) (x : Str) (st : Stmt) : Prop := ∃ (f : Addr) (fd : FuncData), Fun K x x st f fd ∧ mg x = some (.ref f) ∧ PySem.W.keepIn K (.ref f) = true
theorem def_mk {x : Str} {st : Stmt} {f : Addr} {oc : Value} {od an : Option Addr} {osl : Array (Option Value)} {kV doc pm cdv ct : Value} (X : K.In h) (G : h.Ns mainGlobals mg) (a : PySem.W.nsIn K mainGlobals x = some (some (.ref f)))
    (l : K.lookup f = some ⟨oc, od, .func (PySem.W.fnOf x x (defArgs st) (defBody st) (defScope st) .none kV doc pm an cdv ct), osl⟩) (c : PySem.W.codeIn K cdv x = true) (k : PySem.W.keepIn K (.ref f) = true) : DefE K mg x st :=
  ⟨f, _, fun_mk l c k, PySem.W.mg_of X G a, k⟩
def DefL (K : PySem.W.Frag) (mg : Str → Option Value) : Prop := ∃ (f : Addr) (fd : FuncData), Fun K "law" "law" slaw f fd ∧ mg "law" = some (.ref f) ∧ ∀ (s : Shared) (v : Value), BindsTo s fd ⟨[v], []⟩ [("script", v)]
theorem law_mk {f : Addr} {oc : Value} {od an : Option Addr} {osl : Array (Option Value)} {kV doc pm cdv ct : Value} (X : K.In h) (G : h.Ns mainGlobals mg) (a : PySem.W.nsIn K mainGlobals "law" = some (some (.ref f)))
    (l : K.lookup f = some ⟨oc, od, .func (PySem.W.fnOf "law" "law" (defArgs slaw) (defBody slaw) (defScope slaw) .none kV doc pm an cdv ct), osl⟩) (c : PySem.W.codeIn K cdv "law" = true) (k : PySem.W.keepIn K (.ref f) = true) : DefL K mg :=
  ⟨f, _, fun_mk l c k, PySem.W.mg_of X G a, fun s v => .of_eq rfl⟩
/-- .. the __init__ of the class at C -/
def IniE (K : PySem.W.Frag) (C : Addr) (q : Str) (st : Stmt) : Prop := ∃ (f : Addr) (fd : FuncData), PySem.W.findIn K (.ref C) "__init__" = some (some (.ref f)) ∧ PySem.W.typeIn K (.ref f) = some (.type "function") ∧ Fun K "__init__" q st f fd
theorem ini_mk {C : Addr} {q : Str} {st : Stmt} {f : Addr} {oc : Value} {od an : Option Addr} {osl : Array (Option Value)} {kV doc pm cdv ct : Value} (a : PySem.W.findIn K (.ref C) "__init__" = some (some (.ref f))) (t : PySem.W.typeIn K (.ref f) = some (.type "function"))
    (l : K.lookup f = some ⟨oc, od, .func (PySem.W.fnOf "__init__" q (defArgs st) (defBody st) (defScope st) .none kV doc pm an cdv ct), osl⟩) (c : PySem.W.codeIn K cdv q = true) (k : PySem.W.keepIn K (.ref f) = true) : IniE K C q st :=
  ⟨f, _, a, t, fun_mk l c k⟩
/-- .. the error class x -/
structure ClsE (K : PySem.W.Frag) (mg : Str → Option Value) (S : Addr) (x : Str) (C : Addr) : Prop where
  hm : mg x = some (.ref C)
  xL : ∃ nm q N bs sn sub ab col dd k0 k1 k2 k3 k5, K.lookup C = some (excClassObj nm q C N bs [.ref S, .type "ValueError", .type "Exception", .type "BaseException", .type "object"] true sn sub ab col dd k0 k1 k2 k3 k5 "ValueError.__new__")
  sa : PySem.W.findIn K (.ref C) "__setattr__" = some (some (.builtin "object.__setattr__"))
  ga : PySem.W.findIn K (.ref C) "__getattribute__" = some (some (.builtin "BaseException.__getattribute__"))
  gg : PySem.W.findIn K (.ref C) "__getattr__" = some none
  ca : PySem.W.findIn K (.ref C) "__class__" = some (some (.builtin "object.__class__"))
  kC : PySem.W.keepIn K (.ref C) = true
  eC : PySem.W.subIn K (.ref C) (.type "BaseException") = some true
  oC : PySem.W.mroIn K C (.type "object") = some true
theorem cls_mk {S C : Addr} {x : Str} {nm q : Str} {N : Addr} {bs : List Value} {sn : List Str} {sub : List Value} {ab : Bool} {col : Option Bool} {dd : Option Addr} {k0 k1 k2 k3 k5 : Option Value} (X : K.In h) (G : h.Ns mainGlobals mg) (a : PySem.W.nsIn K mainGlobals x = some (some (.ref C)))
    (l : K.lookup C = some (excClassObj nm q C N bs [.ref S, .type "ValueError", .type "Exception", .type "BaseException", .type "object"] true sn sub ab col dd k0 k1 k2 k3 k5 "ValueError.__new__"))
    (sa : PySem.W.findIn K (.ref C) "__setattr__" = some (some (.builtin "object.__setattr__"))) (ga : PySem.W.findIn K (.ref C) "__getattribute__" = some (some (.builtin "BaseException.__getattribute__"))) (gg : PySem.W.findIn K (.ref C) "__getattr__" = some none)
    (ca : PySem.W.findIn K (.ref C) "__class__" = some (some (.builtin "object.__class__"))) (kC : PySem.W.keepIn K (.ref C) = true) (eC : PySem.W.subIn K (.ref C) (.type "BaseException") = some true) (oC : PySem.W.mroIn K C (.type "object") = some true) : ClsE K mg S x C :=
  ⟨PySem.W.mg_of X G a, ⟨nm, q, N, bs, sn, sub, ab, col, dd, k0, k1, k2, k3, k5, l⟩, sa, ga, gg, ca, kC, eC, oC⟩
/-- .. SoldError -/
structure SldE (K : PySem.W.Frag) (mg : Str → Option Value) (S : Addr) : Prop where
  hm : mg "SoldError" = some (.ref S)
  cl : PySem.W.isClsIn K S = true
  ty : PySem.W.typeIn K (.ref S) = some (.type "type")
  hn : PySem.W.specialIn K (.builtin "object.__class__") "__get__" = some (some (.builtin "getset_descriptor.__get__"))
  ht : PySem.W.takesIn K (.builtin "object.__class__") = some true
theorem sld_mk {S : Addr} (X : K.In h) (G : h.Ns mainGlobals mg) (a : PySem.W.nsIn K mainGlobals "SoldError" = some (some (.ref S))) (cl : PySem.W.isClsIn K S = true) (ty : PySem.W.typeIn K (.ref S) = some (.type "type"))
    (hn : PySem.W.specialIn K (.builtin "object.__class__") "__get__" = some (some (.builtin "getset_descriptor.__get__"))) (ht : PySem.W.takesIn K (.builtin "object.__class__") = some true) : SldE K mg S := ⟨PySem.W.mg_of X G a, cl, ty, hn, ht⟩
def BtE (K : PySem.W.Frag) : Prop := ∀ x ∈ (["len", "int", "bool", "str", "tuple", "list", "dict", "isinstance", "repr", "abs", "max", "min", "range", "enumerate", "zip", "ValueError"] : List Str), PySem.W.nsIn K mainGlobals x = some none
theorem BtE.get (b : BtE K) (X : K.In h) (G : h.Ns mainGlobals mg) {x : Str} (hx : x ∈ (["len", "int", "bool", "str", "tuple", "list", "dict", "isinstance", "repr", "abs", "max", "min", "range", "enumerate", "zip", "ValueError"] : List Str)) : mg x = none := PySem.W.mg_none_of X G (b x hx)
theorem bte_mk (z0 : PySem.W.nsIn K mainGlobals "len" = some none) (z1 : PySem.W.nsIn K mainGlobals "int" = some none) (z2 : PySem.W.nsIn K mainGlobals "bool" = some none) (z3 : PySem.W.nsIn K mainGlobals "str" = some none) (z4 : PySem.W.nsIn K mainGlobals "tuple" = some none)
    (z5 : PySem.W.nsIn K mainGlobals "list" = some none) (z6 : PySem.W.nsIn K mainGlobals "dict" = some none) (z7 : PySem.W.nsIn K mainGlobals "isinstance" = some none) (z8 : PySem.W.nsIn K mainGlobals "repr" = some none) (z9 : PySem.W.nsIn K mainGlobals "abs" = some none)
    (z10 : PySem.W.nsIn K mainGlobals "max" = some none) (z11 : PySem.W.nsIn K mainGlobals "min" = some none) (z12 : PySem.W.nsIn K mainGlobals "range" = some none) (z13 : PySem.W.nsIn K mainGlobals "enumerate" = some none) (z14 : PySem.W.nsIn K mainGlobals "zip" = some none) (z15 : PySem.W.nsIn K mainGlobals "ValueError" = some none) : BtE K := by
  intro x hx
  simp only [List.mem_cons, List.not_mem_nil, or_false] at hx
  rcases hx with rfl | rfl | rfl | rfl | rfl | rfl | rfl | rfl | rfl | rfl | rfl | rfl | rfl | rfl | rfl | rfl <;> assumption
def TxE (K : PySem.W.Frag) : Prop := PySem.W.nsIn K mainGlobals "gcd" = some (some (.builtin "math.gcd")) ∧ ∃ t : Tok, PySem.W.nsIn K mainGlobals "LONGEST_NAME" = some (some (.int 12 t))
theorem txe_mk {t : Tok} (a : PySem.W.nsIn K mainGlobals "gcd" = some (some (.builtin "math.gcd"))) (b : PySem.W.nsIn K mainGlobals "LONGEST_NAME" = some (some (.int 12 t))) : TxE K := ⟨a, t, b⟩
section
variable {S : Addr} {x : Str} {C : Addr}
theorem ClsE.cls (c : ClsE K mg S x C) : ∃ cd, PySem.W.clsIn K C = some cd ∧ cd.mro = [.ref C, .ref S, .type "ValueError", .type "Exception", .type "BaseException", .type "object"] ∧ cd.hasDict = true := by
  obtain ⟨nm, q, N, bs, sn, sub, ab, col, dd, k0, k1, k2, k3, k5, e⟩ := c.xL
  exact ⟨_, by unfold PySem.W.clsIn; rw [e], rfl, rfl⟩
theorem ClsE.ty (c : ClsE K mg S x C) : PySem.W.typeIn K (.ref C) = some (.type "type") := by
  obtain ⟨nm, q, N, bs, sn, sub, ab, col, dd, k0, k1, k2, k3, k5, e⟩ := c.xL
  show (K.lookup C).map (·.cls) = _
  rw [e]
  rfl
theorem ClsE.hd (c : ClsE K mg S x C) : PySem.W.hasDictIn K C = true := by
  obtain ⟨cd, e, _, z⟩ := c.cls
  unfold PySem.W.hasDictIn
  rw [e]
  exact z
theorem ClsE.oex (c : ClsE K mg S x C) : OexC K C := by
  obtain ⟨nm, q, N, bs, sn, sub, ab, col, dd, k0, k1, k2, k3, k5, e⟩ := c.xL
  exact ⟨⟨nm, q, N, bs, _, sn, sub, ab, col, dd, k0, k1, k2, k3, k5, e, rfl⟩, c.sa, c.eC, c.ty, c.kC⟩
theorem ClsE.xf (c : ClsE K mg S x C) : XfC K C := ⟨c.ga, c.gg, c.eC, c.hd⟩
theorem ClsE.exc (c : ClsE K mg S x C) (s : SldE K mg S) : ExcC K C := ⟨c.ga, c.gg, c.eC, c.hd, c.ca, s.hn, s.ht, c.oC⟩
theorem ClsE.mro (c : ClsE K mg S x C) (v : Value) : PySem.W.subIn K (.ref C) v = some ([.ref C, .ref S, .type "ValueError", .type "Exception", .type "BaseException", .type "object"].contains v) := by
  obtain ⟨cd, e, z, _⟩ := c.cls
  show PySem.W.mroIn K C v = _
  unfold PySem.W.mroIn
  rw [e, Option.bind_some, z]
  rfl
theorem ClsE.one (c : ClsE K mg S x C) : PySem.W.kitOne K (.ref C) (.ref C) = some true := by
  unfold PySem.W.kitOne
  rw [if_pos (by simp)]
theorem ClsE.isCls (c : ClsE K mg S x C) : ((PySem.W.clsIn K C).isSome && PySem.W.typeIn K (.ref C) == some (.type "type")) = true := by
  obtain ⟨cd, e, _⟩ := c.cls
  rw [e, c.ty]
  rfl
theorem ClsE.two {y : Str} {D : Addr} (c : ClsE K mg S x C) (d : ClsE K mg S y D) (n1 : D ≠ C) (n2 : D ≠ S) : PySem.W.kitOne K (.ref C) (.ref D) = some false := by
  have e1 : ((Value.ref C) == (Value.ref D)) = false := by
    refine Bool.eq_false_iff.mpr fun z => n1 (Value.ref.inj (beq_iff_eq.mp z)).symm
  have e2 : PySem.W.kitCls K (.ref C) (.ref D) = PySem.W.subIn K (.ref C) (.ref D) := by
    show (if ((PySem.W.clsIn K D).isSome && PySem.W.typeIn K (.ref D) == some (.type "type")) = true then PySem.W.subIn K (.ref C) (.ref D) else none) = _
    rw [if_pos d.isCls]
  unfold PySem.W.kitOne
  rw [if_neg (by rw [e1]; exact Bool.false_ne_true), e2, c.mro]
  have e3 : [Value.ref C, .ref S, .type "ValueError", .type "Exception", .type "BaseException", .type "object"].contains (.ref D) = false := by
    refine Bool.eq_false_iff.mpr fun z => ?_
    have z := List.contains_iff_mem.mp z
    simp only [List.mem_cons, List.not_mem_nil, or_false, Value.ref.injEq, reduceCtorEq] at z
    rcases z with z | z
    · exact n1 z
    · exact n2 z
  rw [e3]
theorem ClsE.sol (c : ClsE K mg S x C) (s : SldE K mg S) (n : C ≠ S) : PySem.W.kitOne K (.ref C) (.ref S) = some true := by
  have e1 : ((Value.ref C) == (Value.ref S)) = false := by
    refine Bool.eq_false_iff.mpr fun z => n (Value.ref.inj (beq_iff_eq.mp z))
  have h2 : ((PySem.W.clsIn K S).isSome && PySem.W.typeIn K (.ref S) == some (.type "type")) = true := by
    have z : (PySem.W.clsIn K S).isSome = true := s.cl
    rw [z, s.ty]
    rfl
  have e2 : PySem.W.kitCls K (.ref C) (.ref S) = PySem.W.subIn K (.ref C) (.ref S) := by
    show (if ((PySem.W.clsIn K S).isSome && PySem.W.typeIn K (.ref S) == some (.type "type")) = true then PySem.W.subIn K (.ref C) (.ref S) else none) = _
    rw [if_pos h2]
  unfold PySem.W.kitOne
  rw [if_neg (by rw [e1]; exact Bool.false_ne_true), e2, c.mro]
  have e3 : [Value.ref C, .ref S, .type "ValueError", .type "Exception", .type "BaseException", .type "object"].contains (.ref S) = true := List.contains_iff_mem.mpr (List.mem_cons_of_mem _ List.mem_cons_self)
  rw [e3]
theorem ClsE.val (c : ClsE K mg S x C) : PySem.W.kitOne K (.ref C) (.type "ValueError") = some true := by
  have e1 : ((Value.ref C) == (Value.type "ValueError")) = false := rfl
  have e2 : PySem.W.kitCls K (.ref C) (.type "ValueError") = PySem.W.subIn K (.ref C) (.type "ValueError") := by
    show (if PySem.W.kitMeta "ValueError" = true then PySem.W.subIn K (.ref C) (.type "ValueError") else none) = _
    rw [if_pos (by decide +kernel)]
  unfold PySem.W.kitOne
  rw [if_neg (by rw [e1]; exact Bool.false_ne_true), e2, c.mro]
  have e3 : [Value.ref C, .ref S, .type "ValueError", .type "Exception", .type "BaseException", .type "object"].contains (.type "ValueError") = true := List.contains_iff_mem.mpr (List.mem_cons_of_mem _ (List.mem_cons_of_mem _ List.mem_cons_self))
  rw [e3]
end
def csOf (l : List Addr) : Nat → Addr := fun i => l.getD i 0
/-- all that the top has written, put together -/
theorem all_mk {P : Program} {w : World} {fa S C0 C1 C2 C3 C4 C5 C6 C7 C8 : Addr} (X : K.In h) (G : h.Ns mainGlobals mg) (hfa : mg "law" = some (.ref fa))
    (D0 : DefE K mg "is_integer" sis_integer)
    (D1 : DefE K mg "is_fraction" sis_fraction)
    (D2 : DefE K mg "is_amount" sis_amount)
    (D3 : DefE K mg "is_name" sis_name)
    (D4 : DefE K mg "_law_take" s_law_take)
    (D5 : DefE K mg "_law_some" s_law_some)
    (D6 : DefE K mg "_law_common" s_law_common)
    (D7 : DefE K mg "_law_reduced" s_law_reduced)
    (D8 : DefE K mg "_law_number" s_law_number)
    (D9 : DefE K mg "_law_bag" s_law_bag)
    (D10 : DefE K mg "_law_alike" s_law_alike)
    (D11 : DefE K mg "_law_is_int" s_law_is_int)
    (D12 : DefE K mg "_law_is_fraction" s_law_is_fraction)
    (D13 : DefE K mg "_law_is_amount" s_law_is_amount)
    (D14 : DefE K mg "_law_is_name" s_law_is_name)
    (D15 : DefE K mg "_law_thing" s_law_thing)
    (D16 : DefE K mg "_law_errors" s_law_errors)
    (D17 : DefE K mg "_law_kinds_of" s_law_kinds_of)
    (D18 : DefE K mg "_law_field" s_law_field)
    (DL : DefL K mg)
    (E : SldE K mg S)
    (c0 : ClsE K mg S "Wrong" C0)
    (c1 : ClsE K mg S "NoText" C1)
    (c2 : ClsE K mg S "NotFounded" C2)
    (c3 : ClsE K mg S "Circle" C3)
    (c4 : ClsE K mg S "TooMany" C4)
    (c5 : ClsE K mg S "NoPrice" C5)
    (c6 : ClsE K mg S "NoDeed" C6)
    (c7 : ClsE K mg S "NoCommand" C7)
    (c8 : ClsE K mg S "Nothing" C8)
    (n0 : IniE K C0 "Wrong.__init__" s_Wrong_init)
    (n1 : IniE K C1 "NoText.__init__" s_NoText_init)
    (n2 : IniE K C2 "NotFounded.__init__" s_NotFounded_init)
    (n3 : IniE K C3 "Circle.__init__" s_Circle_init)
    (n4 : IniE K C4 "TooMany.__init__" s_TooMany_init)
    (q5 : PySem.W.excIn K C5 [.type "ValueError", .type "Exception", .type "BaseException", .type "object"] "ValueError.__new__" = true)
    (n6 : IniE K C6 "NoDeed.__init__" s_NoDeed_init)
    (n7 : IniE K C7 "NoCommand.__init__" s_NoCommand_init)
    (q8 : PySem.W.excIn K C8 [.type "ValueError", .type "Exception", .type "BaseException", .type "object"] "ValueError.__new__" = true)
    (o00 : PySem.W.findIn K (.ref C0) "place" = some none)
    (o10 : PySem.W.findIn K (.ref C1) "line" = some none)
    (o11 : PySem.W.findIn K (.ref C1) "column" = some none)
    (o20 : PySem.W.findIn K (.ref C2) "name" = some none)
    (o30 : PySem.W.findIn K (.ref C3) "names" = some none)
    (o40 : PySem.W.findIn K (.ref C4) "most" = some none)
    (o60 : PySem.W.findIn K (.ref C6) "index" = some none)
    (o70 : PySem.W.findIn K (.ref C7) "line" = some none)
    (Z : BtE K)
    (TX : TxE K)
    (nd : [C0, C1, C2, C3, C4, C5, C6, C7, C8, S].Nodup) :
    ∃ fd : FuncData, (∀ (s : Shared) (v : Value), BindsTo s fd ⟨[v], []⟩ [("script", v)]) ∧ ∀ base : Heap, K.In base → base.Ns mainGlobals mg → FnG P w K mg base 6 fa fd ["script"] (spLaw K) := by
  obtain ⟨fL, fdL, FL, mL, bL⟩ := DL
  have e := hfa.symm.trans mL
  cases e
  obtain ⟨f0, fd0, F0, m0, k0⟩ := D0
  have b0 := F0.binds (ps := ["thing"]) fun _ _ _ _ _ _ us hl => match us, hl with | [_], _ => rfl
  obtain ⟨f1, fd1, F1, m1, k1⟩ := D1
  have b1 := F1.binds (ps := ["thing"]) fun _ _ _ _ _ _ us hl => match us, hl with | [_], _ => rfl
  obtain ⟨f2, fd2, F2, m2, k2⟩ := D2
  have b2 := F2.binds (ps := ["thing"]) fun _ _ _ _ _ _ us hl => match us, hl with | [_], _ => rfl
  obtain ⟨f3, fd3, F3, m3, k3⟩ := D3
  have b3 := F3.binds (ps := ["thing"]) fun _ _ _ _ _ _ us hl => match us, hl with | [_], _ => rfl
  obtain ⟨f4, fd4, F4, m4, k4⟩ := D4
  have b4 := F4.binds (ps := ["bag", "many"]) fun _ _ _ _ _ _ us hl => match us, hl with | [_, _], _ => rfl
  obtain ⟨f5, fd5, F5, m5, k5⟩ := D5
  have b5 := F5.binds (ps := ["bag", "things"]) fun _ _ _ _ _ _ us hl => match us, hl with | [_, _], _ => rfl
  obtain ⟨f6, fd6, F6, m6, k6⟩ := D6
  have b6 := F6.binds (ps := ["one", "other"]) fun _ _ _ _ _ _ us hl => match us, hl with | [_, _], _ => rfl
  obtain ⟨f7, fd7, F7, m7, k7⟩ := D7
  have b7 := F7.binds (ps := ["n", "d"]) fun _ _ _ _ _ _ us hl => match us, hl with | [_, _], _ => rfl
  obtain ⟨f8, fd8, F8, m8, k8⟩ := D8
  have b8 := F8.binds (ps := ["bag", "most"]) fun _ _ _ _ _ _ us hl => match us, hl with | [_, _], _ => rfl
  obtain ⟨f9, fd9, F9, m9, k9⟩ := D9
  have b9 := F9.binds (ps := ["script"]) fun _ _ _ _ _ _ us hl => match us, hl with | [_], _ => rfl
  obtain ⟨f10, fd10, F10, m10, k10⟩ := D10
  have b10 := F10.binds (ps := ["found", "due"]) fun _ _ _ _ _ _ us hl => match us, hl with | [_, _], _ => rfl
  obtain ⟨f11, fd11, F11, m11, k11⟩ := D11
  have b11 := F11.binds (ps := ["thing"]) fun _ _ _ _ _ _ us hl => match us, hl with | [_], _ => rfl
  obtain ⟨f12, fd12, F12, m12, k12⟩ := D12
  have b12 := F12.binds (ps := ["thing"]) fun _ _ _ _ _ _ us hl => match us, hl with | [_], _ => rfl
  obtain ⟨f13, fd13, F13, m13, k13⟩ := D13
  have b13 := F13.binds (ps := ["thing"]) fun _ _ _ _ _ _ us hl => match us, hl with | [_], _ => rfl
  obtain ⟨f14, fd14, F14, m14, k14⟩ := D14
  have b14 := F14.binds (ps := ["thing"]) fun _ _ _ _ _ _ us hl => match us, hl with | [_], _ => rfl
  obtain ⟨f15, fd15, F15, m15, k15⟩ := D15
  have b15 := F15.binds (ps := ["bag"]) fun _ _ _ _ _ _ us hl => match us, hl with | [_], _ => rfl
  obtain ⟨f16, fd16, F16, m16, k16⟩ := D16
  have b16 := F16.binds (ps := ["bag"]) fun _ _ _ _ _ _ us hl => match us, hl with | [_], _ => rfl
  obtain ⟨f17, fd17, F17, m17, k17⟩ := D17
  have b17 := F17.binds (ps := ["error"]) fun _ _ _ _ _ _ us hl => match us, hl with | [_], _ => rfl
  obtain ⟨f18, fd18, F18, m18, k18⟩ := D18
  have b18 := F18.binds (ps := ["error", "name"]) fun _ _ _ _ _ _ us hl => match us, hl with | [_, _], _ => rfl
  obtain ⟨g0, gd0, iC0, tC0, G0⟩ := n0
  have gb0 := G0.binds (ps := ["self", "place"]) fun _ _ _ _ _ _ us hl => match us, hl with | [_, _], _ => rfl
  obtain ⟨g1, gd1, iC1, tC1, G1⟩ := n1
  have gb1 := G1.binds (ps := ["self", "line", "column"]) fun _ _ _ _ _ _ us hl => match us, hl with | [_, _, _], _ => rfl
  obtain ⟨g2, gd2, iC2, tC2, G2⟩ := n2
  have gb2 := G2.binds (ps := ["self", "name"]) fun _ _ _ _ _ _ us hl => match us, hl with | [_, _], _ => rfl
  obtain ⟨g3, gd3, iC3, tC3, G3⟩ := n3
  have gb3 := G3.binds (ps := ["self", "names"]) fun _ _ _ _ _ _ us hl => match us, hl with | [_, _], _ => rfl
  obtain ⟨g4, gd4, iC4, tC4, G4⟩ := n4
  have gb4 := G4.binds (ps := ["self", "most"]) fun _ _ _ _ _ _ us hl => match us, hl with | [_, _], _ => rfl
  obtain ⟨g6, gd6, iC6, tC6, G6⟩ := n6
  have gb6 := G6.binds (ps := ["self", "index"]) fun _ _ _ _ _ _ us hl => match us, hl with | [_, _], _ => rfl
  obtain ⟨g7, gd7, iC7, tC7, G7⟩ := n7
  have gb7 := G7.binds (ps := ["self", "line"]) fun _ _ _ _ _ _ us hl => match us, hl with | [_, _], _ => rfl
  have B : Bt mg := ⟨Z.get X G (by decide +kernel), Z.get X G (by decide +kernel), Z.get X G (by decide +kernel), Z.get X G (by decide +kernel), Z.get X G (by decide +kernel), Z.get X G (by decide +kernel), Z.get X G (by decide +kernel), Z.get X G (by decide +kernel), Z.get X G (by decide +kernel), Z.get X G (by decide +kernel), Z.get X G (by decide +kernel), Z.get X G (by decide +kernel), Z.get X G (by decide +kernel), Z.get X G (by decide +kernel), Z.get X G (by decide +kernel)⟩
  have TV : mg "ValueError" = none := Z.get X G (by decide +kernel)
  have T : Tx mg := by
    obtain ⟨a, t, b⟩ := TX
    exact ⟨PySem.W.mg_of X G a, _, PySem.W.mg_of X G b, ⟨t, rfl⟩⟩
  refine ⟨fdL, bL, fun base _ _ => ?_⟩
  have C_is_integer : CalG P w K mg base 1 "is_integer" (spP K isInt) := ⟨f0, fd0, _, ok_is_integer F0 B, m0, k0, b0⟩
  have C_is_fraction : CalG P w K mg base 2 "is_fraction" (spP K isFrac) := ⟨f1, fd1, _, ok_is_fraction F1 B T C_is_integer, m1, k1, b1⟩
  have C_is_amount : CalG P w K mg base 3 "is_amount" (spP K isAmt) := ⟨f2, fd2, _, ok_is_amount F2 B C_is_fraction, m2, k2, b2⟩
  have C_is_name : CalG P w K mg base 1 "is_name" (spP K isNm) := ⟨f3, fd3, _, ok_is_name F3 B T, m3, k3, b3⟩
  have C__law_take : CalG P w K mg base 1 "_law_take" (spTake) := ⟨f4, fd4, _, ok__law_take F4 B, m4, k4, b4⟩
  have C__law_some : CalG P w K mg base 2 "_law_some" (spSome) := ⟨f5, fd5, _, ok__law_some F5 B C__law_take, m5, k5, b5⟩
  have C__law_common : CalG P w K mg base 1 "_law_common" (spCommon) := ⟨f6, fd6, _, ok__law_common F6 B, m6, k6, b6⟩
  have C__law_reduced : CalG P w K mg base 2 "_law_reduced" (spRed) := ⟨f7, fd7, _, ok__law_reduced F7 B C__law_common, m7, k7, b7⟩
  have C__law_number : CalG P w K mg base 3 "_law_number" (spNum K) := ⟨f8, fd8, _, ok__law_number F8 B C__law_take C__law_some C__law_reduced, m8, k8, b8⟩
  have C__law_bag : CalG P w K mg base 1 "_law_bag" (spBag K) := ⟨f9, fd9, _, ok__law_bag F9 B, m9, k9, b9⟩
  have C__law_alike : CalG P w K mg base 1 "_law_alike" (spAlike K) := ⟨f10, fd10, _, ok__law_alike F10 B, m10, k10, b10⟩
  have C__law_is_int : CalG P w K mg base 1 "_law_is_int" (spP K isInt) := ⟨f11, fd11, _, ok__law_is_int F11 B, m11, k11, b11⟩
  have C__law_is_fraction : CalG P w K mg base 2 "_law_is_fraction" (spP K isFrac) := ⟨f12, fd12, _, ok__law_is_fraction F12 B C__law_is_int C__law_common, m12, k12, b12⟩
  have C__law_is_amount : CalG P w K mg base 3 "_law_is_amount" (spP K isAmt) := ⟨f13, fd13, _, ok__law_is_amount F13 B C__law_is_fraction, m13, k13, b13⟩
  have C__law_is_name : CalG P w K mg base 1 "_law_is_name" (spP K isNm) := ⟨f14, fd14, _, ok__law_is_name F14 B, m14, k14, b14⟩
  have C__law_thing : CalG P w K mg base 4 "_law_thing" (spThing K) := ⟨f15, fd15, _, ok__law_thing F15 B C__law_take C__law_some C__law_number, m15, k15, b15⟩
  have I0 : IniC K C0 ["place"] := ⟨c0.oex, by
    intro f hf
    simp only [List.mem_cons, List.not_mem_nil, or_false] at hf
    subst hf
    assumption⟩
  have V0 : ExV P w K mg base "Wrong" C0 (spInit1 K C0 "place") := ⟨c0.hm, c0.oex, g0, gd0, _, iC0, tC0, ok_Wrong G0 I0, gb0⟩
  have I1 : IniC K C1 ["line", "column"] := ⟨c1.oex, by
    intro f hf
    simp only [List.mem_cons, List.not_mem_nil, or_false] at hf
    rcases hf with rfl | rfl <;> assumption⟩
  have V1 : ExV P w K mg base "NoText" C1 (spInit2 K C1 "line" "column") := ⟨c1.hm, c1.oex, g1, gd1, _, iC1, tC1, ok_NoText G1 I1, gb1⟩
  have I2 : IniC K C2 ["name"] := ⟨c2.oex, by
    intro f hf
    simp only [List.mem_cons, List.not_mem_nil, or_false] at hf
    subst hf
    assumption⟩
  have V2 : ExV P w K mg base "NotFounded" C2 (spInit1 K C2 "name") := ⟨c2.hm, c2.oex, g2, gd2, _, iC2, tC2, ok_NotFounded G2 I2, gb2⟩
  have I3 : IniC K C3 ["names"] := ⟨c3.oex, by
    intro f hf
    simp only [List.mem_cons, List.not_mem_nil, or_false] at hf
    subst hf
    assumption⟩
  have V3 : ExV P w K mg base "Circle" C3 (spInit1 K C3 "names") := ⟨c3.hm, c3.oex, g3, gd3, _, iC3, tC3, ok_Circle G3 I3, gb3⟩
  have I4 : IniC K C4 ["most"] := ⟨c4.oex, by
    intro f hf
    simp only [List.mem_cons, List.not_mem_nil, or_false] at hf
    subst hf
    assumption⟩
  have V4 : ExV P w K mg base "TooMany" C4 (spInit1 K C4 "most") := ⟨c4.hm, c4.oex, g4, gd4, _, iC4, tC4, ok_TooMany G4 I4, gb4⟩
  have V5 : Ex0 K mg "NoPrice" C5 := ⟨c5.hm, c5.kC, q5⟩
  have I6 : IniC K C6 ["index"] := ⟨c6.oex, by
    intro f hf
    simp only [List.mem_cons, List.not_mem_nil, or_false] at hf
    subst hf
    assumption⟩
  have V6 : ExV P w K mg base "NoDeed" C6 (spInit1 K C6 "index") := ⟨c6.hm, c6.oex, g6, gd6, _, iC6, tC6, ok_NoDeed G6 I6, gb6⟩
  have I7 : IniC K C7 ["line"] := ⟨c7.oex, by
    intro f hf
    simp only [List.mem_cons, List.not_mem_nil, or_false] at hf
    subst hf
    assumption⟩
  have V7 : ExV P w K mg base "NoCommand" C7 (spInit1 K C7 "line") := ⟨c7.hm, c7.oex, g7, gd7, _, iC7, tC7, ok_NoCommand G7 I7, gb7⟩
  have V8 : Ex0 K mg "Nothing" C8 := ⟨c8.hm, c8.kC, q8⟩
  have C__law_errors : CalG P w K mg base 5 "_law_errors" (spErrs K (csOf [C0, C1, C2, C3, C4, C5, C6, C7, C8])) := ⟨f16, fd16, _, ok__law_errors F16 B C__law_thing V0 V1 V2 V3 V4 V5 V6 V7 V8, m16, k16, b16⟩
  simp only [List.nodup_cons, List.mem_cons, List.not_mem_nil, or_false, not_or, not_false_eq_true, List.nodup_nil, and_true] at nd
  obtain ⟨⟨d01, d02, d03, d04, d05, d06, d07, d08, d0S⟩, ⟨d12, d13, d14, d15, d16, d17, d18, d1S⟩, ⟨d23, d24, d25, d26, d27, d28, d2S⟩, ⟨d34, d35, d36, d37, d38, d3S⟩, ⟨d45, d46, d47, d48, d4S⟩, ⟨d56, d57, d58, d5S⟩, ⟨d67, d68, d6S⟩, ⟨d78, d7S⟩, d8S⟩ := nd
  have kin : ∀ i j, i < 9 → j < 9 → PySem.W.kitOne K (.ref ((csOf [C0, C1, C2, C3, C4, C5, C6, C7, C8]) i)) (.ref ((csOf [C0, C1, C2, C3, C4, C5, C6, C7, C8]) j)) = some (decide (i = j)) := fun i j hi hj => match i, j, hi, hj with
    | 0, 0, _, _ => c0.one
    | 0, 1, _, _ => c0.two c1 (Ne.symm d01) d1S
    | 0, 2, _, _ => c0.two c2 (Ne.symm d02) d2S
    | 0, 3, _, _ => c0.two c3 (Ne.symm d03) d3S
    | 0, 4, _, _ => c0.two c4 (Ne.symm d04) d4S
    | 0, 5, _, _ => c0.two c5 (Ne.symm d05) d5S
    | 0, 6, _, _ => c0.two c6 (Ne.symm d06) d6S
    | 0, 7, _, _ => c0.two c7 (Ne.symm d07) d7S
    | 0, 8, _, _ => c0.two c8 (Ne.symm d08) d8S
    | 1, 0, _, _ => c1.two c0 d01 d0S
    | 1, 1, _, _ => c1.one
    | 1, 2, _, _ => c1.two c2 (Ne.symm d12) d2S
    | 1, 3, _, _ => c1.two c3 (Ne.symm d13) d3S
    | 1, 4, _, _ => c1.two c4 (Ne.symm d14) d4S
    | 1, 5, _, _ => c1.two c5 (Ne.symm d15) d5S
    | 1, 6, _, _ => c1.two c6 (Ne.symm d16) d6S
    | 1, 7, _, _ => c1.two c7 (Ne.symm d17) d7S
    | 1, 8, _, _ => c1.two c8 (Ne.symm d18) d8S
    | 2, 0, _, _ => c2.two c0 d02 d0S
    | 2, 1, _, _ => c2.two c1 d12 d1S
    | 2, 2, _, _ => c2.one
    | 2, 3, _, _ => c2.two c3 (Ne.symm d23) d3S
    | 2, 4, _, _ => c2.two c4 (Ne.symm d24) d4S
    | 2, 5, _, _ => c2.two c5 (Ne.symm d25) d5S
    | 2, 6, _, _ => c2.two c6 (Ne.symm d26) d6S
    | 2, 7, _, _ => c2.two c7 (Ne.symm d27) d7S
    | 2, 8, _, _ => c2.two c8 (Ne.symm d28) d8S
    | 3, 0, _, _ => c3.two c0 d03 d0S
    | 3, 1, _, _ => c3.two c1 d13 d1S
    | 3, 2, _, _ => c3.two c2 d23 d2S
    | 3, 3, _, _ => c3.one
    | 3, 4, _, _ => c3.two c4 (Ne.symm d34) d4S
    | 3, 5, _, _ => c3.two c5 (Ne.symm d35) d5S
    | 3, 6, _, _ => c3.two c6 (Ne.symm d36) d6S
    | 3, 7, _, _ => c3.two c7 (Ne.symm d37) d7S
    | 3, 8, _, _ => c3.two c8 (Ne.symm d38) d8S
    | 4, 0, _, _ => c4.two c0 d04 d0S
    | 4, 1, _, _ => c4.two c1 d14 d1S
    | 4, 2, _, _ => c4.two c2 d24 d2S
    | 4, 3, _, _ => c4.two c3 d34 d3S
    | 4, 4, _, _ => c4.one
    | 4, 5, _, _ => c4.two c5 (Ne.symm d45) d5S
    | 4, 6, _, _ => c4.two c6 (Ne.symm d46) d6S
    | 4, 7, _, _ => c4.two c7 (Ne.symm d47) d7S
    | 4, 8, _, _ => c4.two c8 (Ne.symm d48) d8S
    | 5, 0, _, _ => c5.two c0 d05 d0S
    | 5, 1, _, _ => c5.two c1 d15 d1S
    | 5, 2, _, _ => c5.two c2 d25 d2S
    | 5, 3, _, _ => c5.two c3 d35 d3S
    | 5, 4, _, _ => c5.two c4 d45 d4S
    | 5, 5, _, _ => c5.one
    | 5, 6, _, _ => c5.two c6 (Ne.symm d56) d6S
    | 5, 7, _, _ => c5.two c7 (Ne.symm d57) d7S
    | 5, 8, _, _ => c5.two c8 (Ne.symm d58) d8S
    | 6, 0, _, _ => c6.two c0 d06 d0S
    | 6, 1, _, _ => c6.two c1 d16 d1S
    | 6, 2, _, _ => c6.two c2 d26 d2S
    | 6, 3, _, _ => c6.two c3 d36 d3S
    | 6, 4, _, _ => c6.two c4 d46 d4S
    | 6, 5, _, _ => c6.two c5 d56 d5S
    | 6, 6, _, _ => c6.one
    | 6, 7, _, _ => c6.two c7 (Ne.symm d67) d7S
    | 6, 8, _, _ => c6.two c8 (Ne.symm d68) d8S
    | 7, 0, _, _ => c7.two c0 d07 d0S
    | 7, 1, _, _ => c7.two c1 d17 d1S
    | 7, 2, _, _ => c7.two c2 d27 d2S
    | 7, 3, _, _ => c7.two c3 d37 d3S
    | 7, 4, _, _ => c7.two c4 d47 d4S
    | 7, 5, _, _ => c7.two c5 d57 d5S
    | 7, 6, _, _ => c7.two c6 d67 d6S
    | 7, 7, _, _ => c7.one
    | 7, 8, _, _ => c7.two c8 (Ne.symm d78) d8S
    | 8, 0, _, _ => c8.two c0 d08 d0S
    | 8, 1, _, _ => c8.two c1 d18 d1S
    | 8, 2, _, _ => c8.two c2 d28 d2S
    | 8, 3, _, _ => c8.two c3 d38 d3S
    | 8, 4, _, _ => c8.two c4 d48 d4S
    | 8, 5, _, _ => c8.two c5 d58 d5S
    | 8, 6, _, _ => c8.two c6 d68 d6S
    | 8, 7, _, _ => c8.two c7 d78 d7S
    | 8, 8, _, _ => c8.one
    | i + 9, _, h, _ => absurd h (by omega)
    | _, j + 9, _, h => absurd h (by omega)
  have sol : ∀ i, i < 9 → PySem.W.kitOne K (.ref ((csOf [C0, C1, C2, C3, C4, C5, C6, C7, C8]) i)) (.ref S) = some true := fun i hi => match i, hi with
    | 0, _ => c0.sol E d0S
    | 1, _ => c1.sol E d1S
    | 2, _ => c2.sol E d2S
    | 3, _ => c3.sol E d3S
    | 4, _ => c4.sol E d4S
    | 5, _ => c5.sol E d5S
    | 6, _ => c6.sol E d6S
    | 7, _ => c7.sol E d7S
    | 8, _ => c8.sol E d8S
    | i + 9, h => absurd h (by omega)
  have val : ∀ i, i < 9 → PySem.W.kitOne K (.ref ((csOf [C0, C1, C2, C3, C4, C5, C6, C7, C8]) i)) (.type "ValueError") = some true := fun i hi => match i, hi with
    | 0, _ => c0.val
    | 1, _ => c1.val
    | 2, _ => c2.val
    | 3, _ => c3.val
    | 4, _ => c4.val
    | 5, _ => c5.val
    | 6, _ => c6.val
    | 7, _ => c7.val
    | 8, _ => c8.val
    | i + 9, h => absurd h (by omega)
  have exc : ∀ i, i < 9 → ExcC K ((csOf [C0, C1, C2, C3, C4, C5, C6, C7, C8]) i) := fun i hi => match i, hi with
    | 0, _ => c0.exc E
    | 1, _ => c1.exc E
    | 2, _ => c2.exc E
    | 3, _ => c3.exc E
    | 4, _ => c4.exc E
    | 5, _ => c5.exc E
    | 6, _ => c6.exc E
    | 7, _ => c7.exc E
    | 8, _ => c8.exc E
    | i + 9, h => absurd h (by omega)
  have KK : Kinds K mg (csOf [C0, C1, C2, C3, C4, C5, C6, C7, C8]) S := ⟨c0.hm, c1.hm, c2.hm, c3.hm, c4.hm, c5.hm, c6.hm, c7.hm, c8.hm, E.hm, kin, sol, val, exc⟩
  have C__law_kinds_of : CalG P w K mg base 1 "_law_kinds_of" (spKinds (csOf [C0, C1, C2, C3, C4, C5, C6, C7, C8])) := ⟨f17, fd17, _, ok__law_kinds_of F17 B KK, m17, k17, b17⟩
  have C__law_field : CalG P w K mg base 1 "_law_field" (spField K) := ⟨f18, fd18, _, ok__law_field F18 B, m18, k18, b18⟩
  have xf : ∀ i, i < 9 → XfC K ((csOf [C0, C1, C2, C3, C4, C5, C6, C7, C8]) i) := fun i hi => match i, hi with
    | 0, _ => c0.xf
    | 1, _ => c1.xf
    | 2, _ => c2.xf
    | 3, _ => c3.xf
    | 4, _ => c4.xf
    | 5, _ => c5.xf
    | 6, _ => c6.xf
    | 7, _ => c7.xf
    | 8, _ => c8.xf
    | i + 9, h => absurd h (by omega)
  have no : ∀ i, i < 9 → ∀ f ∈ (fvOf .non .non i).map Prod.fst, PySem.W.findIn K (.ref ((csOf [C0, C1, C2, C3, C4, C5, C6, C7, C8]) i)) f = some none := fun i hi => match i, hi with
    | 0, _ => fun f hf => by
        rw [List.mem_singleton.mp hf]
        exact o00
    | 1, _ => fun f hf => by
        rcases List.mem_cons.mp hf with z | z
        · rw [z]
          exact o10
        · rw [List.mem_singleton.mp z]
          exact o11
    | 2, _ => fun f hf => by
        rw [List.mem_singleton.mp hf]
        exact o20
    | 3, _ => fun f hf => by
        rw [List.mem_singleton.mp hf]
        exact o30
    | 4, _ => fun f hf => by
        rw [List.mem_singleton.mp hf]
        exact o40
    | 5, _ => fun f hf => nomatch hf
    | 6, _ => fun f hf => by
        rw [List.mem_singleton.mp hf]
        exact o60
    | 7, _ => fun f hf => by
        rw [List.mem_singleton.mp hf]
        exact o70
    | 8, _ => fun f hf => nomatch hf
    | i + 9, h => absurd h (by omega)
  have FF : Flds K (csOf [C0, C1, C2, C3, C4, C5, C6, C7, C8]) := ⟨xf, no⟩
  exact ok_law FL B ⟨C__law_bag, C__law_errors, C__law_kinds_of, C__law_field, C__law_alike, C__law_thing, C_is_integer, C_is_fraction, C_is_amount, C_is_name, C__law_is_int, C__law_is_fraction, C__law_is_amount, C__law_is_name⟩ KK FF TV
end
end K00
open PySem PySem.W PyProof.Rows
set_option maxRecDepth 100000 in
set_option maxHeartbeats 0 in
theorem PySem.Challenge.cw_soldwhole_k00_errors_and_small_forms_holds : PySem.Challenge.rw_soldwhole_k00_errors_and_small_forms.Holds := by
  w_on; o_law; k_head; (case hw => w_witness2)
  k_fill
  refine Sw.walkG (l := PySem.Challenge.rw_soldwhole_k00_errors_and_small_forms) (n := 63) (k := 6) (x := "script") (sp := fun w => K00.spLaw _) rfl (by decide) rfl ⟨rfl, by decide, by decide⟩ (fun w h Y => PySem.W.kIn_of Y) ?F (fun _ _ a ns hl _ _ hS => ⟨a, ns, rfl, hS, hl, fun _ => rfl⟩)
  case F =>
    intro w mg fa h KX G hmg
    refine' K00.all_mk KX G hmg ?D0 ?D1 ?D2 ?D3 ?D4 ?D5 ?D6 ?D7 ?D8 ?D9 ?D10 ?D11 ?D12 ?D13 ?D14 ?D15 ?D16 ?D17 ?D18 ?DL ?E ?c0 ?c1 ?c2 ?c3 ?c4 ?c5 ?c6 ?c7 ?c8 ?n0 ?n1 ?n2 ?n3 ?n4 ?q5 ?n6 ?n7 ?q8 ?o00 ?o10 ?o11 ?o20 ?o30 ?o40 ?o60 ?o70 ?Z ?TX ?nd
    (case D0 => (refine' K00.def_mk KX G ?a ?l ?c ?k; (case a => k_is); (case l => k_is); (case c => k_is); (case k => k_is)))
    (case D1 => (refine' K00.def_mk KX G ?a ?l ?c ?k; (case a => k_is); (case l => k_is); (case c => k_is); (case k => k_is)))
    (case D2 => (refine' K00.def_mk KX G ?a ?l ?c ?k; (case a => k_is); (case l => k_is); (case c => k_is); (case k => k_is)))
    (case D3 => (refine' K00.def_mk KX G ?a ?l ?c ?k; (case a => k_is); (case l => k_is); (case c => k_is); (case k => k_is)))
    (case D4 => (refine' K00.def_mk KX G ?a ?l ?c ?k; (case a => k_is); (case l => k_is); (case c => k_is); (case k => k_is)))
    (case D5 => (refine' K00.def_mk KX G ?a ?l ?c ?k; (case a => k_is); (case l => k_is); (case c => k_is); (case k => k_is)))
    (case D6 => (refine' K00.def_mk KX G ?a ?l ?c ?k; (case a => k_is); (case l => k_is); (case c => k_is); (case k => k_is)))
    (case D7 => (refine' K00.def_mk KX G ?a ?l ?c ?k; (case a => k_is); (case l => k_is); (case c => k_is); (case k => k_is)))
    (case D8 => (refine' K00.def_mk KX G ?a ?l ?c ?k; (case a => k_is); (case l => k_is); (case c => k_is); (case k => k_is)))
    (case D9 => (refine' K00.def_mk KX G ?a ?l ?c ?k; (case a => k_is); (case l => k_is); (case c => k_is); (case k => k_is)))
    (case D10 => (refine' K00.def_mk KX G ?a ?l ?c ?k; (case a => k_is); (case l => k_is); (case c => k_is); (case k => k_is)))
    (case D11 => (refine' K00.def_mk KX G ?a ?l ?c ?k; (case a => k_is); (case l => k_is); (case c => k_is); (case k => k_is)))
    (case D12 => (refine' K00.def_mk KX G ?a ?l ?c ?k; (case a => k_is); (case l => k_is); (case c => k_is); (case k => k_is)))
    (case D13 => (refine' K00.def_mk KX G ?a ?l ?c ?k; (case a => k_is); (case l => k_is); (case c => k_is); (case k => k_is)))
    (case D14 => (refine' K00.def_mk KX G ?a ?l ?c ?k; (case a => k_is); (case l => k_is); (case c => k_is); (case k => k_is)))
    (case D15 => (refine' K00.def_mk KX G ?a ?l ?c ?k; (case a => k_is); (case l => k_is); (case c => k_is); (case k => k_is)))
    (case D16 => (refine' K00.def_mk KX G ?a ?l ?c ?k; (case a => k_is); (case l => k_is); (case c => k_is); (case k => k_is)))
    (case D17 => (refine' K00.def_mk KX G ?a ?l ?c ?k; (case a => k_is); (case l => k_is); (case c => k_is); (case k => k_is)))
    (case D18 => (refine' K00.def_mk KX G ?a ?l ?c ?k; (case a => k_is); (case l => k_is); (case c => k_is); (case k => k_is)))
    (case DL => (refine' K00.law_mk KX G ?a ?l ?c ?k; (case a => k_is); (case l => k_is); (case c => k_is); (case k => k_is)))
    (case E => (refine' K00.sld_mk KX G ?a ?cl ?ty ?hn ?ht; (case a => k_is); (case cl => k_is); (case ty => k_is); (case hn => k_is); (case ht => k_is)))
    (case c0 => (refine' K00.cls_mk KX G ?a ?l ?sa ?ga ?gg ?ca ?kC ?eC ?oC; (case a => k_is); (case l => k_is); (case sa => k_is); (case ga => k_is); (case gg => k_is); (case ca => k_is); (case kC => k_is); (case eC => k_is); (case oC => k_is)))
    (case c1 => (refine' K00.cls_mk KX G ?a ?l ?sa ?ga ?gg ?ca ?kC ?eC ?oC; (case a => k_is); (case l => k_is); (case sa => k_is); (case ga => k_is); (case gg => k_is); (case ca => k_is); (case kC => k_is); (case eC => k_is); (case oC => k_is)))
    (case c2 => (refine' K00.cls_mk KX G ?a ?l ?sa ?ga ?gg ?ca ?kC ?eC ?oC; (case a => k_is); (case l => k_is); (case sa => k_is); (case ga => k_is); (case gg => k_is); (case ca => k_is); (case kC => k_is); (case eC => k_is); (case oC => k_is)))
    (case c3 => (refine' K00.cls_mk KX G ?a ?l ?sa ?ga ?gg ?ca ?kC ?eC ?oC; (case a => k_is); (case l => k_is); (case sa => k_is); (case ga => k_is); (case gg => k_is); (case ca => k_is); (case kC => k_is); (case eC => k_is); (case oC => k_is)))
    (case c4 => (refine' K00.cls_mk KX G ?a ?l ?sa ?ga ?gg ?ca ?kC ?eC ?oC; (case a => k_is); (case l => k_is); (case sa => k_is); (case ga => k_is); (case gg => k_is); (case ca => k_is); (case kC => k_is); (case eC => k_is); (case oC => k_is)))
    (case c5 => (refine' K00.cls_mk KX G ?a ?l ?sa ?ga ?gg ?ca ?kC ?eC ?oC; (case a => k_is); (case l => k_is); (case sa => k_is); (case ga => k_is); (case gg => k_is); (case ca => k_is); (case kC => k_is); (case eC => k_is); (case oC => k_is)))
    (case c6 => (refine' K00.cls_mk KX G ?a ?l ?sa ?ga ?gg ?ca ?kC ?eC ?oC; (case a => k_is); (case l => k_is); (case sa => k_is); (case ga => k_is); (case gg => k_is); (case ca => k_is); (case kC => k_is); (case eC => k_is); (case oC => k_is)))
    (case c7 => (refine' K00.cls_mk KX G ?a ?l ?sa ?ga ?gg ?ca ?kC ?eC ?oC; (case a => k_is); (case l => k_is); (case sa => k_is); (case ga => k_is); (case gg => k_is); (case ca => k_is); (case kC => k_is); (case eC => k_is); (case oC => k_is)))
    (case c8 => (refine' K00.cls_mk KX G ?a ?l ?sa ?ga ?gg ?ca ?kC ?eC ?oC; (case a => k_is); (case l => k_is); (case sa => k_is); (case ga => k_is); (case gg => k_is); (case ca => k_is); (case kC => k_is); (case eC => k_is); (case oC => k_is)))
    (case n0 => (refine' K00.ini_mk ?a ?t ?l ?c ?k; (case a => k_is); (case t => k_is); (case l => k_is); (case c => k_is); (case k => k_is)))
    (case n1 => (refine' K00.ini_mk ?a ?t ?l ?c ?k; (case a => k_is); (case t => k_is); (case l => k_is); (case c => k_is); (case k => k_is)))
    (case n2 => (refine' K00.ini_mk ?a ?t ?l ?c ?k; (case a => k_is); (case t => k_is); (case l => k_is); (case c => k_is); (case k => k_is)))
    (case n3 => (refine' K00.ini_mk ?a ?t ?l ?c ?k; (case a => k_is); (case t => k_is); (case l => k_is); (case c => k_is); (case k => k_is)))
    (case n4 => (refine' K00.ini_mk ?a ?t ?l ?c ?k; (case a => k_is); (case t => k_is); (case l => k_is); (case c => k_is); (case k => k_is)))
    (case q5 => first | k_exc | kx_is)
    (case n6 => (refine' K00.ini_mk ?a ?t ?l ?c ?k; (case a => k_is); (case t => k_is); (case l => k_is); (case c => k_is); (case k => k_is)))
    (case n7 => (refine' K00.ini_mk ?a ?t ?l ?c ?k; (case a => k_is); (case t => k_is); (case l => k_is); (case c => k_is); (case k => k_is)))
    (case q8 => first | k_exc | kx_is)
    (case o00 => k_is)
    (case o10 => k_is)
    (case o11 => k_is)
    (case o20 => k_is)
    (case o30 => k_is)
    (case o40 => k_is)
    (case o60 => k_is)
    (case o70 => k_is)
    (case Z => (refine' K00.bte_mk ?z0 ?z1 ?z2 ?z3 ?z4 ?z5 ?z6 ?z7 ?z8 ?z9 ?z10 ?z11 ?z12 ?z13 ?z14 ?z15; (case z0 => k_is); (case z1 => k_is); (case z2 => k_is); (case z3 => k_is); (case z4 => k_is); (case z5 => k_is); (case z6 => k_is); (case z7 => k_is); (case z8 => k_is); (case z9 => k_is); (case z10 => k_is); (case z11 => k_is); (case z12 => k_is); (case z13 => k_is); (case z14 => k_is); (case z15 => k_is)))
    (case TX => (refine' K00.txe_mk ?a ?b; (case a => k_is); (case b => k_is)))
    (case nd => decide)
