import PyProof.Rows.All
import Wide.All
import OpenK.AllK
import Wide.FinOn
import HandS.ForMost
import HandS.IsInst
import HandS.Gcd
import HandS.Wide
import HandS.WideBits
import HandS.Flow
import HandS.TupAny
import HandS.StrMore
import HandS.Conv
import HandS.RaiseMore
import HandS.ExcInit
import HandS.ExcIs
import HandS.ExcField
import HandS.ExcValue
import HandS.EndBits
import HandS.DeepEq
import HandS.Walk
import HandS.Codes
import KE.KExcIs
import HandS.Rev
import HandS.MapJoin
import HandS.Text
import PyProof.Rows.StrAscii
import PyProof.Rows.StrDigitsNeg
import PyProof.StrLawsAffix
import KE.IntTextLaws
import HandS.ReplaceLit
import HandS.Zip
import HandS.Star
import KE.GoesMore
import PyProof.EqKinds
import PyProof.FactsAll.dict
import KE.GoesZip
import HandS.Style
import PySem.Challenge.RW_soldwhole_k49_worths_of_rounds
set_option Elab.async false
set_option linter.all false
set_option maxRecDepth 100000
set_option maxHeartbeats 8000000
/-! The guarded layer: a def's promise where no repr is under way (guards = []), so that repr of data may be asked. -/
namespace Sw
open PySem PySem.Spec PyProof.Rows L2

/-- no repr is under way -/
def Gd (A : Around) : Prop := A.guards = some []
theorem Gd.deeper {A : Around} (g : Gd A) (env : Env) : Gd (A.deeper env) := by
  unfold Gd at *
  first
    | exact g
    | (simp [Around.deeper, g])
theorem Gd.make {A : Around} (g : Gd A) (C : Addr) (us : List Value) (kw : List (Str × Value)) : Gd (A.under (.builtin "type.__call__" ⟨.ref C :: us, kw⟩)) := by
  unfold Gd at *
  first
    | exact g
    | (simp [Around.under, Code.guards, Code.isGuard, guardIds, pushGuards, g])
theorem gd_caller : Gd callerA := rfl

/-- the def at f keeps the promise sp, where no repr is under way -/
structure FnG (P : Program) (w : World) (K : PySem.W.Frag) (mg : Str → Option Value) (base : Heap) (k : Nat) (f : Addr) (fd : FuncData) (ps : List Str) (sp : Sp) : Prop where
  len : ∀ vs H Q E, sp vs H Q E → vs.length = ps.length
  go : ∀ {A : Around} {outer : List Env} {s : Shared} {H : Hp} {args : Args} {us : List Value} {vs : List V} {Q : VK} {E : XK},
    Gd A → Room k A → Env0 P w K mg base A outer s H → BindsTo s fd args (ps.zip us) → Vals vs us → sp vs H Q E →
    codeAny (model P w) A (.call (.ref f) args) (CR CX0 outer P w H s Q E) s
section
variable {P : Program} {w : World} {K : PySem.W.Frag} {mg : Str → Option Value} {base : Heap}
theorem FnG.of {k : Nat} {f : Addr} {fd : FuncData} {ps : List Str} {sp : Sp} (F : FnOk P w K mg base CX0 k f fd ps sp) : FnG P w K mg base k f fd ps sp :=
  ⟨F.len, fun _ hr e0 hb hv hs => F.run _ _ _ _ _ _ _ _ _ hr e0 hb hv hs⟩
theorem FnG.mono {j k : Nat} {f : Addr} {fd : FuncData} {ps : List Str} {sp : Sp} (F : FnG P w K mg base j f fd ps sp) (h : j ≤ k) : FnG P w K mg base k f fd ps sp :=
  ⟨F.len, fun g hr => F.go g (hr.mono h)⟩
end
section
variable {X : Cx} {k : Nat} {f : Addr} {fd : FuncData} {ps : List Str} {sp : Sp} {ds : List Value} {dvs : List V} {x : Str} {e : Expr} {es : List Expr} {t : TA} {p pos : Pos}
theorem runG {pins : List (Addr × Obj)} {σ : L2.St} {H : Hp} {s : Shared} {Q : VK} {us : List Value} {vs : List V} (F : FnG X.prog X.w X.K X.mg X.base k f fd ps sp) (g : Gd X.A) (hr : Room k X.A)
    (hb : Binds X.K fd ps ds) (hd : Vals dvs ds) (I : Inv X pins σ H s) (r : Vals vs us) (h : sp (vs ++ dvs) H Q E0) : wpAny (model X.prog X.w) X.A (call (.ref f) us) (EP X pins σ Q) X.xe s := by
  have rr : Vals (vs ++ dvs) (us ++ ds) := r.append hd
  have hz : (us ++ ds).length = ps.length := rr.length.symm.trans (F.len _ _ _ _ h)
  refine wpAny_call (codeAny_mono (F.go g hr I.env0 (hb s us I.kIn hz) rr h) fun res s' z => ?_)
  match res, z with
  | .ok (.ret u), z => exact I.after z
/-- f(e, ..), f a def of the text -/
theorem peG (F : FnG X.prog X.w X.K X.mg X.base k f fd ps sp) (g : Gd X.A) (hr : Room k X.A) (hg : Gl X x) (hm : X.mg x = some (.ref f)) (hk : PySem.W.keepIn X.K (.ref f) = true) (hb : Binds X.K fd ps ds) (hd : Vals dvs ds) (ha : PA X (e :: es) t)
    (hdb : (x == ("__debug__" : Str)) = false := by decide) (he : starEach (e :: es) X.env = (false, eval e X.env) :: starEach es X.env := by rfl) (hpl : (backTo pos (starEach es X.env)).any (·.1) = false := by rfl) :
    PE X (.Call (.Name x p) (e :: es) [] pos) (tCall sp dvs E0 t) :=
  ⟨fun pins s σ H Q I h => wpAny_Call_Name_kw (ld_glob I hg hm (PySem.W.callWith_K (h₀ := X.base) I.ok.mod.kin hk
    (thn (ha.run pos pins s σ H _ I h) fun us s1 z => by obtain ⟨vs, H1, I1, r, q⟩ := z; exact ⟨I1.kIn, runG F g hr hb hd I1 r q⟩) he hpl) hdb)⟩
theorem peG0 (F : FnG X.prog X.w X.K X.mg X.base k f fd ps sp) (g : Gd X.A) (hr : Room k X.A) (hg : Gl X x) (hm : X.mg x = some (.ref f)) (hk : PySem.W.keepIn X.K (.ref f) = true) (hb : Binds X.K fd ps ds) (hd : Vals dvs ds)
    (hdb : (x == ("__debug__" : Str)) = false := by decide) : PE X (.Call (.Name x p) [] [] pos) (tCall sp dvs E0 tNil) :=
  ⟨fun pins s σ H Q I h => wpAny_Call_Name_kw (ld_glob I hg hm (PySem.W.callWith_K0 I.kIn hk (runG (us := []) F g hr hb hd I .nil h)) hdb)⟩
end
section
variable {P : Program} {w : World} {K : PySem.W.Frag} {mg : Str → Option Value} {base : Heap}
/-- a def by its body, where no repr is under way -/
theorem Fun.okG {x qual : Str} {st : Stmt} {f : Addr} {fd : FuncData} {N ps : List Str} {k : Nat} {sp : Sp} (F : Fun K x qual st f fd) (S : FnScope N ps (defScope st)) (len : ∀ vs H Q E, sp vs H Q E → vs.length = ps.length)
    (hbody : ∀ (cdv : Value) (A : Around) (outer : List Env) (s : Shared) (H : Hp) (vs : List V) (Q : VK) (E : XK), Gd (A.deeper (envOfC qual (defScope st) s.heap.objs.size f cdv)) → Room k (A.deeper (envOfC qual (defScope st) s.heap.objs.size f cdv)) → sp vs H Q E →
      ∃ t, PSs (cxOf CX0 P w K mg base N qual (defScope st) f cdv A outer s H E).nox (defBody st) t ∧ t { nx := fun _ H' => Q .non H', rt := Q } (start N vs) H) : FnG P w K mg base (k + 1) f fd ps sp := by
  obtain ⟨oc, od, kV, doc, pm, an, cdv, ct, osl, rfl, lk, hcd⟩ := F.ex
  refine ⟨len, ?_⟩
  intro A outer s H args us vs Q E g hr e0 hb r hs
  have hz := len _ _ _ _ hs
  have up : ∀ b o, base.get? b = some o → s.heap.get? b = some o := fun b o z => (e0.bs b o z).1
  refine codeAny_call_function hr.depth ((e0.mod.kin.keeps up) _ _ lk) rfl S.co S.gen rfl (PySem.W.codeRec_of (e0.mod.kin.keeps up) hcd) (hb _ _ _ _ (wpAny_newFunctionEnv_cells S.kind (fun y hy => ?_) fun env he s1 x1 => ?_))
  · rcases S.par y.1 (List.of_mem_zip (show (y.1, y.2) ∈ ps.zip us from hy)).1 with q | q
    · exact .inl q
    · exact .inr ⟨q, PySem.W.cellsFrom_some _ _ _ (.inl q)⟩
  · subst he
    obtain ⟨t, ht, hq⟩ := hbody cdv A outer s H vs Q E (g.deeper _) (hr.deeper _) hs
    refine ⟨(e0.mod.nolimit.keeps up).keeps x1.toInCall.keep, codeAny_func (wpAny_mono (ht.nox.run [] s1 (start N vs) H _ (inv_start S hr.hd e0 hz r x1) hq) ?_ fun _ _ z => z)⟩
    intro fl s' z
    match fl, z with
    | .ret u, ⟨v, σ', H', J, rv, q⟩ => exact ⟨v, H', J.os, J.bare, J.base, J.hok, rv, q⟩
    | .next, ⟨σ', H', J, q⟩ => exact ⟨.non, H', J.os, J.bare, J.base, J.hok, rfl, q⟩
    | .brk, ⟨_, _, _, q⟩ => exact q.elim
    | .cont, ⟨_, _, _, q⟩ => exact q.elim
end
/-! ### the law's own call -/
section
variable {P : Program} {w : World} {K : PySem.W.Frag} {mg mb : Str → Option Value} {k : Nat} {fa a : Addr} {fd : FuncData} {x : Str} {sp : Sp} {s₁ : Shared} {vs : List Value} {ns : List Int}
/-- the abstract heap in which the script alone is known -/
def scr (a : Addr) (ob : Obj) (ns : List Int) : Hp := fun b => if b = a then some (.frz ob (.lst (ns.map V.int))) else none
theorem scr_at {ob : Obj} : scr a ob ns a = some (.frz ob (.lst (ns.map V.int))) := if_pos rfl
theorem scr_ne {ob : Obj} {b : Addr} (h : b ≠ a) : scr a ob ns b = none := if_neg h
theorem lawFrom (H : Hp) (hO : Only H) (KX : K.In s₁.heap) (hns : s₁.heap.Ns mainGlobals mg) (hb : s₁.heap.Ns builtinsNs mb) (hbb : ∀ y : Str, y ≠ "__name__" → mb y = bootBuiltins y) (hlim : s₁.heap.NoLimit) (hg : s₁.gens = #[])
    (ok : HOk P w H s₁.heap) (nk : ∀ b o, K.lookup b = some o → H b = none) (nd : ∀ b o es ep, s₁.heap.get? b = some o → o.data = .dict es ep → H b = none) (hr : Room k callerA)
    (F : ∀ base : Heap, K.In base → base.Ns mainGlobals mg → FnG P w K mg base k fa fd [x] sp) (hbind : ∀ (s : Shared) (u : Value), BindsTo s fd ⟨[u], []⟩ [(x, u)])
    (hs : sp [.ref a] H (fun v _ => v = .bl true) fun _ _ _ => False) :
    codeAny (model P w) callerA (.call (.ref fa) ⟨[.ref a], []⟩) (fun r s' => r = .ok (.ret (.bool true)) ∧ OldK s₁.heap s'.heap ∧ s'.os = s₁.os ∧ AllBare s'.gens) s₁ := by
  have kIn : K.In (hidT s₁.heap H) := fun b o z => hidT_get (KX b o z) (nk b o z)
  have nsIn : ∀ {b : Addr} {m : Str → Option Value}, s₁.heap.Ns b m → (hidT s₁.heap H).Ns b m := fun {b m} z => by
    obtain ⟨o, es, ep, z1, z2, z3⟩ := z
    exact ⟨o, es, ep, hidT_get z1 (nd b o es ep z1 z2), z2, z3⟩
  have lim : (hidT s₁.heap H).NoLimit := by
    obtain ⟨mc, z1, z2⟩ := hlim
    exact ⟨mc, nsIn z1, z2⟩
  have e0 : Env0 P w K mg (hidT s₁.heap H) callerA [] s₁ H :=
    { frames := rfl, mod := ⟨kIn, nsIn hns, ⟨mb, nsIn hb, hbb⟩, lim⟩, bs := fun _ _ z => of_hidT z, bsz := Nat.le_of_eq (hidT_size _ _), funs := trivial, frf := (fun b z => nomatch z), hok := ok, bare := .of_eq hg }
  refine codeAny_mono ((F _ kIn (nsIn hns)).go (us := [.ref a]) (vs := [.ref a]) gd_caller hr e0 (hbind s₁ (.ref a)) (.cons rfl .nil) hs) fun r s' z => ?_
  match r, z with
  | .ok (.ret u), z =>
    obtain ⟨v, H', zo, zb, un, ok', rv, q⟩ := z
    have q : v = .bl true := q
    subst q
    have eu : u = Value.bool true := rv
    subst eu
    refine ⟨rfl, .of_keep fun b o e => ?_, zo, zb⟩
    rcases hO b with n | ⟨ob, xs, n⟩
    · exact un.keep b o e n (fun z => nomatch z) (fun z => nomatch z)
    · have e1 := (ok b _ n).1
      have e2 := (ok' b _ (un.frzs b ob _ n)).1
      have e3 : o = ob := Option.some.inj (e.symm.trans e1)
      rw [e3]
      exact e2
theorem lawG (KX : K.In s₁.heap) (hns : s₁.heap.Ns mainGlobals mg) (hb : s₁.heap.Ns builtinsNs mb) (hbb : ∀ y : Str, y ≠ "__name__" → mb y = bootBuiltins y) (hlim : s₁.heap.NoLimit) (hg : s₁.gens = #[])
    (ha : s₁.heap.get? a = some { cls := .type "list", data := .seq vs.toArray }) (hi : IntsAre vs ns) (hl : ns.length ≤ sizeLine) (hr : Room k callerA)
    (F : ∀ base : Heap, K.In base → base.Ns mainGlobals mg → FnG P w K mg base k fa fd [x] sp) (hbind : ∀ (s : Shared) (u : Value), BindsTo s fd ⟨[u], []⟩ [(x, u)])
    (hsp : ∀ H : Hp, Only H → SqL K H a (ns.map V.int) → sp [.ref a] H (fun v _ => v = .bl true) fun _ _ _ => False) :
    codeAny (model P w) callerA (.call (.ref fa) ⟨[.ref a], []⟩) (fun r s' => r = .ok (.ret (.bool true)) ∧ OldK s₁.heap s'.heap ∧ s'.os = s₁.os ∧ AllBare s'.gens) s₁ := by
  have rv := vals_ints hi
  have hln := hi.length
  rcases hk : K.lookup a with _ | o
  · refine lawFrom (scr a { cls := .type "list", data := .seq vs.toArray } ns) ?_ KX hns hb hbb hlim hg ?_ ?_ ?_ hr F hbind (hsp _ ?_ (.inl (.inr ⟨_, scr_at⟩)))
    rotate_left
    · intro b u z
      by_cases e : b = a
      · rw [e, scr_at] at z
        cases z
        rw [e]
        exact ⟨ha, by rw [List.length_map]; exact hl, vs, _, rv, ha⟩
      · rw [scr_ne e] at z
        cases z
    · intro b o z
      refine scr_ne fun e => ?_
      rw [e, hk] at z
      cases z
    · intro b o es ep z1 z2
      refine scr_ne fun e => ?_
      rw [e, ha] at z1
      cases z1
      cases z2
    all_goals
      intro b
      by_cases e : b = a
      · exact .inr ⟨_, _, by rw [e]; exact scr_at⟩
      · exact .inl (scr_ne e)
  · have z := KX a o hk
    rw [ha] at z
    cases z
    exact lawFrom (fun _ => none) (fun _ => .inl rfl) KX hns hb hbb hlim hg (fun _ _ z => nomatch z) (fun _ _ _ => rfl) (fun _ _ _ _ _ _ => rfl) hr F hbind
      (hsp _ (fun _ => .inl rfl) (.inr ⟨_, vs.toArray, _, hk, rfl, rfl, rfl, by rw [List.size_toArray, hln]; exact hl, by simpa using rv⟩))
end
theorem walkG {l : PySem.W.OpenLaw} {n k : Nat} {q : Program} {loose : List Str} {XP : (Str → Option Value) → Heap → Prop} {YP : World → Heap → Prop} {d : DefRec} {K : Params → PySem.W.Frag} {sp : World → Sp} {x : Str}
    (hn : l.most = some n) (hn2 : n ≤ sizeLine) (hdf : d.params.defaults = []) (hr : Room k callerA) (hY : ∀ (w : World) (h : Heap), YP w h → (K w.params).In h)
    (F : ∀ (w : World) (mg : Str → Option Value) (fa : Addr) (h : Heap), (K w.params).In h → h.Ns mainGlobals mg → mg d.name = some (.ref fa) →
      ∃ fd : FuncData, (∀ (s : Shared) (u : Value), BindsTo s fd ⟨[u], []⟩ [(x, u)]) ∧
        ∀ base : Heap, (K w.params).In base → base.Ns mainGlobals mg → FnG l.prog w (K w.params) mg base k fa fd [x] (sp w))
    (hsp : ∀ (w : World) (H : Hp) (a : Addr) (ns : List Int), ns.length ≤ n → (∀ z ∈ ns, Builtin.Int.intBits z ≤ 1048576) → Only H → SqL (K w.params) H a (ns.map V.int) → sp w [.ref a] H (fun v _ => v = .bl true) fun _ _ _ => False) :
    PySem.W.WalkO q loose XP YP l.row.toRowW d [] (fun f vs => PySem.call f vs) :=
  Att.attach_callB hn hdf fun w s₀ s₁ mg mb fa o pm cd doc a vs ns G Y ho hd hcd hmg hobj hints hlen hbits hg => by
    obtain ⟨fd, hb, hF⟩ := F w mg fa _ (hY w _ Y) G.T.g hmg
    exact lawG (hY w _ Y) G.T.g G.T.b G.T.builtins G.T.nolimit hg hobj hints (Nat.le_trans hlen hn2) hr hF hb fun H hO hS => hsp w H a ns hlen hbits hO hS
end Sw
/-! Data as a whole over the abstract heap (Dt), what stays (Fut), == and repr of data. -/
namespace Sw
open PySem PySem.Spec PyProof.Rows L2

/-- a tuple of the written part -/
def KTup (K : PySem.W.Frag) (a : Addr) (xs : List V) : Prop :=
  ∃ (o : Obj) (its : Array Value) (n : Nat), K.lookup a = some o ∧ o.cls = .type "tuple" ∧ o.data = .seq its n ∧ its.size ≤ sizeLine ∧ Vals xs its.toList
def keyD : Key → PyData
  | .inl i => .int i
  | .inr x => .str x
mutual
/-- v is the datum d; mu: the lists and dicts that are about to change (none of them is part of d) -/
inductive Dt (K : PySem.W.Frag) (mu : Addr → Prop) (H : Hp) : V → PyData → Prop
  | non : Dt K mu H .non .none
  | bl (b : Bool) : Dt K mu H (.bl b) (.bool b)
  | int (i : Int) : Dt K mu H (.int i) (.int i)
  | str (x : Str) : Dt K mu H (.str x) (.str x)
  | lst {a : Addr} {xs : List V} {ds : List PyData} : ¬ mu a → Rd H a (.lst xs) → DtA K mu H xs ds → Dt K mu H (.ref a) (.list ds)
  | tup {a : Addr} {xs : List V} {ds : List PyData} : Rd H a (.tup xs) → DtA K mu H xs ds → Dt K mu H (.ref a) (.tuple ds)
  | tupK {a : Addr} {xs : List V} {ds : List PyData} : KTup K a xs → DtA K mu H xs ds → Dt K mu H (.ref a) (.tuple ds)
  | dct {a : Addr} {kvs : List (Key × V)} {ds : List (PyData × PyData)} : ¬ mu a → Rd H a (.dK kvs) → DtK K mu H kvs ds → Dt K mu H (.ref a) (.dict ds)
inductive DtA (K : PySem.W.Frag) (mu : Addr → Prop) (H : Hp) : List V → List PyData → Prop
  | nil : DtA K mu H [] []
  | cons {v : V} {vs : List V} {d : PyData} {ds : List PyData} : Dt K mu H v d → DtA K mu H vs ds → DtA K mu H (v :: vs) (d :: ds)
inductive DtK (K : PySem.W.Frag) (mu : Addr → Prop) (H : Hp) : List (Key × V) → List (PyData × PyData) → Prop
  | nil : DtK K mu H [] []
  | cons {k : Key} {v : V} {kvs : List (Key × V)} {d : PyData} {ds : List (PyData × PyData)} : Dt K mu H v d → DtK K mu H kvs ds → DtK K mu H ((k, v) :: kvs) ((keyD k, d) :: ds)
end

/-- what is not about to change stays, and tuples do -/
def Fut (mu : Addr → Prop) (H H' : Hp) : Prop := ∀ a o, H a = some o → (¬ mu a ∨ (∃ xs, o = .tup xs) ∨ ∃ ob u, o = .frz ob u) → H' a = some o
theorem Fut.refl {mu : Addr → Prop} (H : Hp) : Fut mu H H := fun _ _ e _ => e
theorem Fut.trans {mu : Addr → Prop} {H H1 H2 : Hp} (a : Fut mu H H1) (b : Fut mu H1 H2) : Fut mu H H2 := fun x o e h => b x o (a x o e h) h
theorem Fut.of_same {mu : Addr → Prop} {H H' : Hp} (s : Same H H') : Fut mu H H' := fun a o e _ => s a o e
theorem Fut.mono {mu mv : Addr → Prop} {H H' : Hp} (f : Fut mu H H') (h : ∀ a, mu a → mv a) : Fut mv H H' := fun a o e z => f a o e (z.imp (fun n m => n (h a m)) id)
theorem Fut.rd {mu : Addr → Prop} {H H' : Hp} (f : Fut mu H H') {a : Addr} {o : HO} (hm : ¬ mu a) (r : Rd H a o) : Rd H' a o := by
  rcases r with r | ⟨ob, r⟩
  · exact .inl (f a _ r (.inl hm))
  · exact .inr ⟨ob, f a _ r (.inl hm)⟩
theorem Fut.rdT {mu : Addr → Prop} {H H' : Hp} (f : Fut mu H H') {a : Addr} {xs : List V} (r : Rd H a (.tup xs)) : Rd H' a (.tup xs) := by
  rcases r with r | ⟨ob, r⟩
  · exact .inl (f a _ r (.inr (.inl ⟨xs, rfl⟩)))
  · exact .inr ⟨ob, f a _ r (.inr (.inr ⟨ob, _, rfl⟩))⟩
section
variable {K : PySem.W.Frag} {mu mv : Addr → Prop} {H H' : Hp}
mutual
theorem Dt.fut (f : Fut mu H H') : ∀ {v : V} {d : PyData}, Dt K mu H v d → Dt K mu H' v d
  | _, _, .non => .non
  | _, _, .bl b => .bl b
  | _, _, .int i => .int i
  | _, _, .str x => .str x
  | _, _, .lst n r h => .lst n (f.rd n r) (DtA.fut f h)
  | _, _, .tup r h => .tup (f.rdT r) (DtA.fut f h)
  | _, _, .tupK r h => .tupK r (DtA.fut f h)
  | _, _, .dct n r h => .dct n (f.rd n r) (DtK.fut f h)
theorem DtA.fut (f : Fut mu H H') : ∀ {vs : List V} {ds : List PyData}, DtA K mu H vs ds → DtA K mu H' vs ds
  | _, _, .nil => .nil
  | _, _, .cons h t => .cons (Dt.fut f h) (DtA.fut f t)
theorem DtK.fut (f : Fut mu H H') : ∀ {vs : List (Key × V)} {ds : List (PyData × PyData)}, DtK K mu H vs ds → DtK K mu H' vs ds
  | _, _, .nil => .nil
  | _, _, .cons h t => .cons (Dt.fut f h) (DtK.fut f t)
end
mutual
/-- fewer that change -/
theorem Dt.less (f : ∀ a, mv a → mu a) : ∀ {v : V} {d : PyData}, Dt K mu H v d → Dt K mv H v d
  | _, _, .non => .non
  | _, _, .bl b => .bl b
  | _, _, .int i => .int i
  | _, _, .str x => .str x
  | _, _, .lst n r h => .lst (fun z => n (f _ z)) r (DtA.less f h)
  | _, _, .tup r h => .tup r (DtA.less f h)
  | _, _, .tupK r h => .tupK r (DtA.less f h)
  | _, _, .dct n r h => .dct (fun z => n (f _ z)) r (DtK.less f h)
theorem DtA.less (f : ∀ a, mv a → mu a) : ∀ {vs : List V} {ds : List PyData}, DtA K mu H vs ds → DtA K mv H vs ds
  | _, _, .nil => .nil
  | _, _, .cons h t => .cons (Dt.less f h) (DtA.less f t)
theorem DtK.less (f : ∀ a, mv a → mu a) : ∀ {vs : List (Key × V)} {ds : List (PyData × PyData)}, DtK K mu H vs ds → DtK K mv H vs ds
  | _, _, .nil => .nil
  | _, _, .cons h t => .cons (Dt.less f h) (DtK.less f t)
end
mutual
/-- one more that changes, not tracked as yet -/
theorem Dt.more {l : Addr} (n : H l = Option.none) : ∀ {v : V} {d : PyData}, Dt K mu H v d → Dt K (fun a => mu a ∨ a = l) H v d
  | _, _, .non => .non
  | _, _, .bl b => .bl b
  | _, _, .int i => .int i
  | _, _, .str x => .str x
  | _, _, .lst m r h => .lst (fun z => z.elim m fun e => by
      rw [e] at r
      rcases r with r | ⟨_, r⟩ <;> (rw [n] at r; cases r)) r (DtA.more n h)
  | _, _, .tup r h => .tup r (DtA.more n h)
  | _, _, .tupK r h => .tupK r (DtA.more n h)
  | _, _, .dct m r h => .dct (fun z => z.elim m fun e => by
      rw [e] at r
      rcases r with r | ⟨_, r⟩ <;> (rw [n] at r; cases r)) r (DtK.more n h)
theorem DtA.more {l : Addr} (n : H l = Option.none) : ∀ {vs : List V} {ds : List PyData}, DtA K mu H vs ds → DtA K (fun a => mu a ∨ a = l) H vs ds
  | _, _, .nil => .nil
  | _, _, .cons h t => .cons (Dt.more n h) (DtA.more n t)
theorem DtK.more {l : Addr} (n : H l = Option.none) : ∀ {vs : List (Key × V)} {ds : List (PyData × PyData)}, DtK K mu H vs ds → DtK K (fun a => mu a ∨ a = l) H vs ds
  | _, _, .nil => .nil
  | _, _, .cons h t => .cons (Dt.more n h) (DtK.more n t)
end
theorem DtA.length : ∀ {vs : List V} {ds : List PyData}, DtA K mu H vs ds → vs.length = ds.length
  | _, _, .nil => rfl
  | _, _, .cons _ t => by rw [List.length_cons, List.length_cons, DtA.length t]
theorem DtA.get : ∀ {vs : List V} {ds : List PyData} {i : Nat} {v : V}, DtA K mu H vs ds → vs[i]? = some v → ∃ d, ds[i]? = some d ∧ Dt K mu H v d
  | _, _, _, _, .nil, e => by simp at e
  | _, _, 0, _, .cons h _, e => by
    simp at e
    subst e
    exact ⟨_, rfl, h⟩
  | _, _, i + 1, v, .cons _ t, e => by
    obtain ⟨d, h1, h2⟩ := DtA.get (i := i) (v := v) t (by simpa using e)
    exact ⟨d, by simpa using h1, h2⟩
theorem DtA.getD : ∀ {vs : List V} {ds : List PyData} {i : Nat} {d : PyData}, DtA K mu H vs ds → ds[i]? = some d → ∃ v, vs[i]? = some v ∧ Dt K mu H v d
  | _, _, _, _, .nil, e => by simp at e
  | _, _, 0, _, .cons h _, e => by
    simp at e
    subst e
    exact ⟨_, rfl, h⟩
  | _, _, i + 1, v, .cons _ t, e => by
    obtain ⟨d, h1, h2⟩ := DtA.getD (i := i) (d := v) t (by simpa using e)
    exact ⟨d, by simpa using h1, h2⟩
theorem DtA.append : ∀ {vs ws : List V} {ds es : List PyData}, DtA K mu H vs ds → DtA K mu H ws es → DtA K mu H (vs ++ ws) (ds ++ es)
  | _, _, _, _, .nil, s => s
  | _, _, _, _, .cons h t, s => .cons h (DtA.append t s)
theorem DtA.drop : ∀ {vs : List V} {ds : List PyData} (n : Nat), DtA K mu H vs ds → DtA K mu H (vs.drop n) (ds.drop n)
  | _, _, 0, r => r
  | _, _, _ + 1, .nil => .nil
  | _, _, n + 1, .cons _ t => DtA.drop n t
theorem DtA.take : ∀ {vs : List V} {ds : List PyData} (n : Nat), DtA K mu H vs ds → DtA K mu H (vs.take n) (ds.take n)
  | _, _, 0, _ => .nil
  | _, _, _ + 1, .nil => .nil
  | _, _, n + 1, .cons h t => .cons h (DtA.take n t)
theorem DtA.one {vs : List V} {ds : List PyData} (h : DtA K mu H vs ds) (e : ds.length = 1) : ∃ x d, vs = [x] ∧ ds = [d] ∧ Dt K mu H x d := by
  cases h with
  | nil => simp at e
  | cons r1 t =>
    cases t with
    | nil => exact ⟨_, _, rfl, rfl, r1⟩
    | cons _ _ => simp at e
theorem DtA.two {vs : List V} {ds : List PyData} (h : DtA K mu H vs ds) (e : ds.length = 2) : ∃ x y d f, vs = [x, y] ∧ ds = [d, f] ∧ Dt K mu H x d ∧ Dt K mu H y f := by
  cases h with
  | nil => simp at e
  | cons r1 t =>
    obtain ⟨y, f, rfl, rfl, r2⟩ := t.one (by simpa using e)
    exact ⟨_, _, _, _, rfl, rfl, r1, r2⟩
theorem DtA.three {vs : List V} {ds : List PyData} (h : DtA K mu H vs ds) (e : ds.length = 3) : ∃ x y z d f g, vs = [x, y, z] ∧ ds = [d, f, g] ∧ Dt K mu H x d ∧ Dt K mu H y f ∧ Dt K mu H z g := by
  cases h with
  | nil => simp at e
  | cons r1 t =>
    obtain ⟨y, z, f, g, rfl, rfl, r2, r3⟩ := t.two (by simpa using e)
    exact ⟨_, _, _, _, _, _, rfl, rfl, r1, r2, r3⟩
theorem DtA.ints : ∀ (ns : List Int), DtA K mu H (ns.map V.int) (ns.map PyData.int)
  | [] => .nil
  | n :: ns => .cons (.int n) (DtA.ints ns)
theorem DtA.strs : ∀ (ns : List Str), DtA K mu H (ns.map V.str) (ns.map PyData.str)
  | [] => .nil
  | n :: ns => .cons (.str n) (DtA.strs ns)
theorem _root_.L2.Same.seqT {H1 H2 : Hp} (e : Same H1 H2) {a : Addr} {xs : List V} (h : SqT K H1 a xs) : SqT K H2 a xs := by
  rcases h with (h | ⟨o, h⟩) | h
  · exact .inl (.inl (e _ _ h))
  · exact .inl (.inr ⟨o, e _ _ h⟩)
  · exact .inr h
theorem DtA.bls : ∀ (bs : List Bool), DtA K mu H (bs.map V.bl) (bs.map PyData.bool)
  | [] => .nil
  | n :: ns => .cons (.bl n) (DtA.bls ns)
end

/-! ### what the library reads -/
theorem nmem_app {p : Addr → Prop} {as bs : List Addr} (ha : ∀ a ∈ as, ¬ p a) (hb : ∀ a ∈ bs, ¬ p a) : ∀ a ∈ as ++ bs, ¬ p a := fun a h => (List.mem_append.mp h).elim (ha a) (hb a)
theorem nmem_cons {p : Addr → Prop} {b : Addr} {as : List Addr} (hb : ¬ p b) (ha : ∀ a ∈ as, ¬ p a) : ∀ a ∈ b :: as, ¬ p a := fun a h => (List.mem_cons.mp h).elim (fun e => by rw [e]; exact hb) (ha a)
section
variable {X : Cx} {pins : List (Addr × Obj)} {σ : L2.St} {H : Hp} {s : Shared} {mu : Addr → Prop}
theorem Rd.sqL {K : PySem.W.Frag} {a : Addr} {xs : List V} (r : Rd H a (.lst xs)) : SqL K H a xs := .inl r
theorem Rd.sqT {K : PySem.W.Frag} {a : Addr} {xs : List V} (r : Rd H a (.tup xs)) : SqT K H a xs := .inl r
theorem KTup.sqT {K : PySem.W.Frag} {a : Addr} {xs : List V} (r : KTup K a xs) : SqT K H a xs := .inr r
mutual
theorem Dt.reads (I : Inv X pins σ H s) : ∀ (d : PyData) (v : V) (u : Value), Dt X.K mu H v d → RelV v u → ∃ as, Reads s.heap u d as ∧ ∀ a ∈ as, ¬ mu a
  | .none, _, _, h, r => by
    cases h
    cases r
    exact ⟨_, Reads.none, fun _ z => nomatch z⟩
  | .bool b, _, _, h, r => by
    cases h
    cases r
    exact ⟨_, Reads.bool b, fun _ z => nomatch z⟩
  | .int i, _, _, h, r => by
    cases h
    obtain ⟨t, rfl⟩ := r
    exact ⟨_, Reads.int i t, fun _ z => nomatch z⟩
  | .str x, _, _, h, r => by
    cases h
    obtain ⟨t, rfl⟩ := r
    exact ⟨_, Reads.str x t, fun _ z => nomatch z⟩
  | .list ds, _, _, h, r => by
    cases h with
    | lst n rd ha =>
      cases r
      obtain ⟨its, rv, ⟨o, m, ho, hc, _, hd⟩, _⟩ := I.list (Rd.sqL rd)
      obtain ⟨as, hr, hn⟩ := DtA.reads I ds _ its ha rv
      exact ⟨_, Reads.list ho hc hd hr, nmem_cons n hn⟩
  | .tuple ds, _, _, h, r => by
    have key : ∀ {a : Addr} {xs : List V} {u : Value}, SqT X.K H a xs → DtA X.K mu H xs ds → RelV (.ref a) u → ∃ as, Reads s.heap u (.tuple ds) as ∧ ∀ a ∈ as, ¬ mu a := fun {a xs u} hs ha r => by
      cases r
      obtain ⟨its, rv, ⟨o, ho, hc, n, hd⟩, _⟩ := I.tuple hs
      obtain ⟨as, hr, hn⟩ := DtA.reads I ds _ its ha rv
      exact ⟨_, Reads.tuple ho hc hd hr, hn⟩
    cases h with
    | tup rd ha => exact key (Rd.sqT rd) ha r
    | tupK rd ha => exact key (KTup.sqT rd) ha r
  | .dict ds, _, _, h, r => by
    cases h with
    | @dct a kvs _ n rd ha =>
      cases r
      have z : ObjOk X.prog X.w H s.heap a (.dK kvs) := rd.ok I.hok
      obtain ⟨_, _, vs, rel, o, es, ep, ho, hx, hd, _, hp, _⟩ := z
      obtain ⟨as, bs, h1, h2, m1, m2⟩ := DtK.reads I ds kvs vs es.toList ha rel hp
      exact ⟨_, Reads.dict ho hx.1 hd h1 h2, nmem_cons n (nmem_app m1 m2)⟩
theorem DtA.reads (I : Inv X pins σ H s) : ∀ (ds : List PyData) (vs : List V) (us : List Value), DtA X.K mu H vs ds → Vals vs us → ∃ as, ReadsAll s.heap us ds as ∧ ∀ a ∈ as, ¬ mu a
  | [], _, _, h, r => by
    cases h
    cases r
    exact ⟨_, ReadsAll.nil, fun _ z => nomatch z⟩
  | d :: ds, _, _, h, r => by
    cases h with
    | cons h1 h2 =>
      cases r with
      | cons r1 r2 =>
        obtain ⟨as, q1, m1⟩ := Dt.reads I d _ _ h1 r1
        obtain ⟨bs, q2, m2⟩ := DtA.reads I ds _ _ h2 r2
        exact ⟨_, ReadsAll.cons q1 q2, nmem_app m1 m2⟩
theorem DtK.reads (I : Inv X pins σ H s) : ∀ (ds : List (PyData × PyData)) (kvs : List (Key × V)) (vs : List (Key × Value)) (es : List DictEntry), DtK X.K mu H kvs ds → KV kvs vs → Pairs (mixKind X.prog X.w) es vs →
    ∃ as bs, ReadsAll s.heap (es.map (·.key)) (ds.map (·.1)) as ∧ ReadsAll s.heap (es.map (·.val)) (ds.map (·.2)) bs ∧ (∀ a ∈ as, ¬ mu a) ∧ ∀ a ∈ bs, ¬ mu a
  | [], _, _, _, h, r, p => by
    cases h
    cases r
    cases p
    exact ⟨_, _, ReadsAll.nil, ReadsAll.nil, (fun _ z => nomatch z), (fun _ z => nomatch z)⟩
  | (dk, d) :: ds, _, _, _, h, r, p => by
    cases h with
    | @cons k v kvs _ _ h1 h2 =>
      cases r with
      | @cons _ q _ vs r1 r2 =>
        cases p with
        | @cons e _ es _ p1 p2 p3 =>
          obtain ⟨as, q1, m1⟩ := Dt.reads I d _ q.2 h1 r1.2
          obtain ⟨cs, bs, q2, q3, m2, m3⟩ := DtK.reads I ds _ _ _ h2 r2 p3
          have ek : keyIs k e.key = true := by
            have z : keyIs q.1 e.key = true := p1
            rw [← r1.1] at z
            exact z
          have q4 : ∃ as, Reads s.heap e.key (keyD k) as ∧ ∀ a ∈ as, ¬ mu a := by
            rcases keyIs_shape ek with ⟨i, t, z1, z2⟩ | ⟨x, t, z1, z2⟩
            · rw [z1, z2]
              exact ⟨_, Reads.int i t, fun _ z => nomatch z⟩
            · rw [z1, z2]
              exact ⟨_, Reads.str x t, fun _ z => nomatch z⟩
          obtain ⟨a0, q4, m4⟩ := q4
          refine ⟨_, _, ReadsAll.cons q4 q2, ReadsAll.cons (as := as) (by show Reads s.heap e.val d as; rw [p2]; exact q1) q3, nmem_app m4 m2, nmem_app m1 m3⟩
end
end
/-! ### == and repr of data -/
section
variable {X : Cx}
def rEqW (K : PySem.W.Frag) : R2 := fun x y H Q => ∃ mu d e, Dt K mu H x d ∧ Dt K mu H y e ∧ SeqAt.shaped d = true ∧ SeqAt.shaped e = true ∧ Q (.bl (PyData.eqv d e)) H
def rNeW (K : PySem.W.Frag) : R2 := fun x y H Q => ∃ mu d e, Dt K mu H x d ∧ Dt K mu H y e ∧ SeqAt.shaped d = true ∧ SeqAt.shaped e = true ∧ Q (.bl (!PyData.eqv d e)) H
theorem op_eqW (hu : X.A.units + 64 < cLine) : OpR X (compareOp .Eq) (rEqW X.K) := by
  intro pins s σ H x y v u Q I rx ry h
  obtain ⟨mu, d, e, hd, he, sd, se, q⟩ := h
  obtain ⟨as, r1, _⟩ := Dt.reads I d x v hd rx
  obtain ⟨bs, r2, _⟩ := Dt.reads I e y u he ry
  exact SeqAt.compareEq_shaped r1 r2 sd se hu ⟨.bl _, H, I, rfl, q⟩
theorem op_neW (hu : X.A.units + 64 < cLine) : OpR X (compareOp .NotEq) (rNeW X.K) := by
  intro pins s σ H x y v u Q I rx ry h
  obtain ⟨mu, d, e, hd, he, sd, se, q⟩ := h
  obtain ⟨as, r1, _⟩ := Dt.reads I d x v hd rx
  obtain ⟨bs, r2, _⟩ := Dt.reads I e y u he ry
  exact SeqAt.compareNe_shaped r1 r2 sd se hu ⟨.bl _, H, I, rfl, q⟩
/-- == of data, or of one thing with itself -/
def rEqA (K : PySem.W.Frag) : R2 := fun x y H Q => rEqW K x y H Q ∨ (rEqV K x y H Q ∨ rEq x y H Q)
theorem op_eqA (hu : X.A.units + 64 < cLine) : OpR X (compareOp .Eq) (rEqA X.K) := OpR.or (op_eqW hu) (OpR.or (op_eqV hu) op_eq)
def rRepr (K : PySem.W.Frag) : List V → Hp → VK → Prop := fun xs H Q => ∃ (x : V) (mu : Addr → Prop) (d : PyData), xs = [x] ∧ Dt K mu H x d ∧ d.showable = true ∧ (d.hasDict = false ∨ mu sysModules) ∧ d.depth ≤ 60 ∧ d.shown.length ≤ sizeLine ∧ Q (.str d.shown) H
theorem call_repr (hg : Gd X.A) (hu : X.A.units + 64 < cLine) : CallR X (.builtin "repr") (rRepr X.K) := by
  intro pins s σ H xs us Q I r h
  obtain ⟨x, mu, d, rfl, hd, hs, hm, hdp, hl, q⟩ := h
  cases r with
  | @cons _ u _ _ r1 r2 =>
    cases r2
    have fin : ∀ {t : Tok} {tk : Nat}, EP X pins σ Q (.str d.shown t) { s with toks := tk } := fun {t tk} => ⟨.str _, H, I.tok tk, ⟨t, rfl⟩, q⟩
    cases d with
    | none =>
      cases hd
      cases r1
      exact P.repr_of_none fin
    | bool b =>
      cases hd
      cases r1
      exact P.repr_of_bool fin
    | int i =>
      cases hd
      obtain ⟨t, rfl⟩ := r1
      exact P.repr_of_int (of_decide_eq_true hs) fin
    | str y =>
      cases hd
      obtain ⟨t, rfl⟩ := r1
      exact P.repr_of_str fin hl
    | _ =>
      obtain ⟨as, hr, hn⟩ := Dt.reads I _ x u hd r1
      have hu' : ∃ a, u = .ref a := by
        cases hd <;> exact ⟨_, r1⟩
      obtain ⟨a, rfl⟩ := hu'
      exact repr_of_reads' hr hs (fun hz => hm.elim (fun z => by rw [z] at hz; cases hz) fun z y => hn _ y z) hg (by omega) (fun _ _ e => e) (fun h' t tk hk => ⟨.str _, H, (I.kept (h' := h') (t' := tk) hk), ⟨t, rfl⟩, q⟩) hl
end
end Sw
/-! Calls of defs by what they promise; isinstance, len, items of data; the built-ins' names. -/
namespace Sw
open PySem PySem.Spec PyProof.Rows L2

/-- the module's name x is a def that keeps sp -/
structure CalG (P : Program) (w : World) (K : PySem.W.Frag) (mg : Str → Option Value) (base : Heap) (k : Nat) (x : Str) (sp : Sp) : Prop where
  ex : ∃ (f : Addr) (fd : FuncData) (ps : List Str), FnG P w K mg base k f fd ps sp ∧ mg x = some (.ref f) ∧ PySem.W.keepIn K (.ref f) = true ∧ Binds K fd ps []
section
variable {X : Cx} {k j : Nat} {sp : Sp} {x : Str} {e : Expr} {es : List Expr} {t : TA} {p pos : Pos}
theorem pc (c : CalG X.prog X.w X.K X.mg X.base k x sp) (g : Gd X.A) (hr : Room j X.A) (hk : k ≤ j) (hg : Gl X x) (ha : PA X (e :: es) t)
    (hdb : (x == ("__debug__" : Str)) = false := by decide) (he : starEach (e :: es) X.env = (false, eval e X.env) :: starEach es X.env := by rfl) (hpl : (backTo pos (starEach es X.env)).any (·.1) = false := by rfl) :
    PE X (.Call (.Name x p) (e :: es) [] pos) (tCall sp [] E0 t) := by
  obtain ⟨f, fd, ps, F, hm, kp, b⟩ := c.ex
  exact peG F g (hr.mono hk) hg hm kp b .nil ha hdb he hpl
theorem pc0 (c : CalG X.prog X.w X.K X.mg X.base k x sp) (g : Gd X.A) (hr : Room j X.A) (hk : k ≤ j) (hg : Gl X x) (hdb : (x == ("__debug__" : Str)) = false := by decide) :
    PE X (.Call (.Name x p) [] [] pos) (tCall sp [] E0 tNil) := by
  obtain ⟨f, fd, ps, F, hm, kp, b⟩ := c.ex
  exact peG0 F g (hr.mono hk) hg hm kp b .nil hdb
end
theorem Room.u64 {k : Nat} {A : Around} (r : Room k A) : A.units + 64 < cLine := by
  have := r.un
  omega

/-! ### isinstance of data -/
def tyName : PyData → String
  | .none => "NoneType" | .bool _ => "bool" | .int _ => "int" | .str _ => "str" | .list _ => "list" | .tuple _ => "tuple" | .dict _ => "dict"
def isT (T : String) (d : PyData) : Bool := tyName d == T || (tyName d == "bool" && T == "int")
section
variable {K : PySem.W.Frag} {mu : Addr → Prop} {H : Hp}
theorem Dt.tyx {v : V} {d : PyData} (h : Dt K mu H v d) : TyX K H v (.type (tyName d)) := by
  cases h with
  | non => exact .base .non
  | bl b => exact .base (.bl b)
  | int i => exact .base (.int i)
  | str x => exact .base (.str x)
  | lst n r _ =>
    rcases r with r | ⟨o, r⟩
    · exact .base (.lst r)
    · exact .base (.frz r)
  | tup r _ =>
    rcases r with r | ⟨o, r⟩
    · exact .base (.tup r)
    · exact .fTuple r
  | tupK r _ =>
    obtain ⟨o, its, n, h1, h2, _⟩ := r
    exact .kTuple h1 h2
  | dct n r _ =>
    rcases r with r | ⟨o, r⟩
    · exact .base (.dK r)
    · exact .fDict r
end
def tyAsk (T : String) : Bool := ["int", "bool", "str", "list", "tuple", "dict"].contains T
theorem kit_tab : ∀ T ∈ ["int", "bool", "str", "list", "tuple", "dict"], ∀ S ∈ ["NoneType", "bool", "int", "str", "list", "tuple", "dict"], kitB S T = some (S == T || (S == "bool" && T == "int")) := by decide +kernel
theorem tyName_mem (d : PyData) : tyName d ∈ ["NoneType", "bool", "int", "str", "list", "tuple", "dict"] := by
  cases d <;> simp [tyName]
def rIsD (K : PySem.W.Frag) : List V → Hp → VK → Prop := fun xs H Q => ∃ (x : V) (T : String) (mu : Addr → Prop) (d : PyData), xs = [x, .ty T] ∧ T ∈ ["int", "bool", "str", "list", "tuple", "dict"] ∧ Dt K mu H x d ∧ Q (.bl (isT T d)) H
section
variable {X : Cx}
theorem call_isD : CallR X (.builtin "isinstance") (rIsD X.K) := by
  intro pins s σ H xs us Q I r h
  obtain ⟨x, T, mu, d, rfl, hT, hd, q⟩ := h
  exact call_isi pins s σ H _ us Q I r ⟨x, .ty T, _, .type T, _, rfl, .ty T, hd.tyx, kit_ty (kit_tab T hT _ (tyName_mem d)), q⟩

/-! ### len, items -/
def lenD : PyData → Option Nat
  | .str x => some x.length | .list ds => some ds.length | .tuple ds => some ds.length | _ => none
theorem call_lenA : CallR X (.builtin "len") (fun xs H Q => ∃ (x : V) (n : Nat), xs = [x] ∧ LenV X.K x H n ∧ Q (.int n) H) := call_len
theorem lenV_of {K : PySem.W.Frag} {mu : Addr → Prop} {H : Hp} {v : V} {d : PyData} {n : Nat} (h : Dt K mu H v d) (hn : lenD d = some n) (hs : n ≤ sizeLine) : LenV K v H n := by
  cases h with
  | str x =>
    cases hn
    exact ⟨hs, rfl⟩
  | lst m r ha =>
    cases hn
    exact .inl ⟨_, Rd.sqL r, ha.length.symm⟩
  | tup r ha =>
    cases hn
    exact .inr ⟨_, Rd.sqT r, ha.length.symm⟩
  | tupK r ha =>
    cases hn
    exact .inr ⟨_, KTup.sqT r, ha.length.symm⟩
  | _ => cases hn
/-- an item of a tuple, of a list -/
theorem Dt.tupAt {K : PySem.W.Frag} {mu : Addr → Prop} {H : Hp} {v : V} {ds : List PyData} (h : Dt K mu H v (.tuple ds)) : ∃ a xs, v = .ref a ∧ SqT K H a xs ∧ DtA K mu H xs ds := by
  cases h with
  | tup r ha => exact ⟨_, _, rfl, Rd.sqT r, ha⟩
  | tupK r ha => exact ⟨_, _, rfl, KTup.sqT r, ha⟩
theorem Dt.lstAt {K : PySem.W.Frag} {mu : Addr → Prop} {H : Hp} {v : V} {ds : List PyData} (h : Dt K mu H v (.list ds)) : ∃ a xs, v = .ref a ∧ ¬ mu a ∧ Rd H a (.lst xs) ∧ DtA K mu H xs ds := by
  cases h with
  | lst n r ha => exact ⟨_, _, rfl, n, r, ha⟩
/-- o[i] of a list by values (in o[i] op= e), i from 0 on -/
def rGetL (K : PySem.W.Frag) : R2 := fun o i H Q => ∃ (p : Addr) (xs : List V) (j : Nat) (v : V), o = .ref p ∧ i = .int j ∧ SqL K H p xs ∧ xs[j]? = some v ∧ Q v H
theorem get_list : PGet X (rGetL X.K) := by
  intro pins s σ H o i ov iv Q I ro ri h
  obtain ⟨p, xs, j, v, rfl, rfl, hq, he, q⟩ := h
  cases ro
  obtain ⟨t, rfl⟩ := ri
  obtain ⟨its, r, pl, hz⟩ := I.list hq
  obtain ⟨u, eu, ru⟩ := r.get he
  have hn := line63
  have hl := (List.getElem?_eq_some_iff.mp he).1
  exact wpAny_getItem_list pl.isList (by omega) (by omega) (by simpa using eu) ⟨v, H, I, ru, q⟩
end

/-! ### the built-ins' names, not taken by the module -/
structure Bt (mg : Str → Option Value) : Prop where
  len : mg "len" = none
  int : mg "int" = none
  bool : mg "bool" = none
  str : mg "str" = none
  tuple : mg "tuple" = none
  list : mg "list" = none
  dict : mg "dict" = none
  isin : mg "isinstance" = none
  repr : mg "repr" = none
  abs : mg "abs" = none
  max : mg "max" = none
  min : mg "min" = none
  range : mg "range" = none
  enum : mg "enumerate" = none
  zip : mg "zip" = none
theorem bb_abs : bootBuiltins "abs" = some (.builtin "abs") := by decide +kernel
theorem bb_isin : bootBuiltins "isinstance" = some (.builtin "isinstance") := by decide +kernel
theorem bb_repr : bootBuiltins "repr" = some (.builtin "repr") := by decide +kernel
theorem bb_max : bootBuiltins "max" = some (.builtin "max") := by decide +kernel
theorem bb_min : bootBuiltins "min" = some (.builtin "min") := by decide +kernel
theorem bb_len : bootBuiltins "len" = some (.builtin "len") := PySem.boot_len
theorem bb_sum : bootBuiltins "sum" = some (.builtin "sum") := by decide +kernel
theorem bb_all : bootBuiltins "all" = some (.builtin "all") := by decide +kernel
theorem bb_any : bootBuiltins "any" = some (.builtin "any") := by decide +kernel
theorem bb_sorted : bootBuiltins "sorted" = some (.builtin "sorted") := by decide +kernel
theorem bb_divmod : bootBuiltins "divmod" = some (.builtin "divmod") := by decide +kernel
theorem bb_int : bootBuiltins "int" = some (.type "int") := by decide +kernel
theorem bb_bool : bootBuiltins "bool" = some (.type "bool") := by decide +kernel
theorem bb_str : bootBuiltins "str" = some (.type "str") := by decide +kernel
theorem bb_tuple : bootBuiltins "tuple" = some (.type "tuple") := by decide +kernel
theorem bb_list : bootBuiltins "list" = some (.type "list") := by decide +kernel
theorem bb_dict : bootBuiltins "dict" = some (.type "dict") := by decide +kernel
theorem bb_set : bootBuiltins "set" = some (.type "set") := by decide +kernel
theorem bb_VE : bootBuiltins "ValueError" = some (.type "ValueError") := by decide +kernel

/-! ### data of a size that may be shown and compared -/
mutual
def okD : PyData → Bool
  | .none | .bool _ => true
  | .int i => decide (i.natAbs < 10 ^ 500)
  | .str x => PyData.strOk x
  | .list xs | .tuple xs => okA xs
  | .dict kvs => okK kvs
def okA : List PyData → Bool
  | [] => true
  | x :: xs => okD x && okA xs
def okK : List (PyData × PyData) → Bool
  | [] => true
  | (k, v) :: r => okD k && okD v && okK r
end
structure Ok (d : PyData) : Prop where
  ok : okD d = true
  dp : d.depth ≤ 50
  wt : d.weight ≤ 27000
instance (d : PyData) : Decidable (Ok d) := decidable_of_iff (okD d = true ∧ d.depth ≤ 50 ∧ d.weight ≤ 27000) ⟨fun h => ⟨h.1, h.2.1, h.2.2⟩, fun h => ⟨h.ok, h.dp, h.wt⟩⟩
theorem int_short {i : Int} (h : i.natAbs < 10 ^ 500) : (PyData.shown (.int i)).length ≤ 600 := by
  have e := int_text_length_le10 (k := 500) (by decide) h
  show (Str.ofString (toString i)).length ≤ 600
  rw [PySem.ofString_length]
  omega
theorem int_log {i : Int} (h : i.natAbs < 10 ^ 500) : i.natAbs.log2 < 1920 := by
  have e : (10 : Nat) ^ 500 ≤ 2 ^ 1900 := by decide +kernel
  by_cases z : i.natAbs = 0
  · rw [z]
    decide
  · exact Nat.lt_trans ((Nat.log2_lt z).mpr (Nat.lt_of_lt_of_le h e)) (by decide)
mutual
theorem ok_show : ∀ d : PyData, okD d = true → d.showable = true ∧ d.leavesShort 600 = true
  | .none, _ => ⟨rfl, rfl⟩
  | .bool _, _ => ⟨rfl, rfl⟩
  | .int i, h => by
    have h1 : i.natAbs < 10 ^ 500 := by simpa only [okD, decide_eq_true_eq] using h
    exact ⟨by simp only [PyData.showable, decide_eq_true_eq]; exact int_log h1, by simp only [PyData.leavesShort, decide_eq_true_eq]; exact int_short h1⟩
  | .str x, h => ⟨rfl, PyData.leavesShort_of_canLay0 600 (.str x) (by simpa only [okD, PyData.canLay0] using h) rfl⟩
  | .list xs, h => by simpa only [PyData.showable, PyData.leavesShort] using ok_showA xs (by simpa only [okD] using h)
  | .tuple xs, h => by simpa only [PyData.showable, PyData.leavesShort] using ok_showA xs (by simpa only [okD] using h)
  | .dict kvs, h => by simpa only [PyData.showable, PyData.leavesShort] using ok_showK kvs (by simpa only [okD] using h)
theorem ok_showA : ∀ xs : List PyData, okA xs = true → PyData.showableAll xs = true ∧ PyData.leavesShortAll 600 xs = true
  | [], _ => ⟨rfl, rfl⟩
  | x :: xs, h => by
    have h' : okD x = true ∧ okA xs = true := by simpa only [okA, Bool.and_eq_true] using h
    have a := ok_show x h'.1
    have b := ok_showA xs h'.2
    simp only [PyData.showableAll, PyData.leavesShortAll, a.1, a.2, b.1, b.2, Bool.and_self, and_self]
theorem ok_showK : ∀ xs : List (PyData × PyData), okK xs = true → PyData.showableKv xs = true ∧ PyData.leavesShortKv 600 xs = true
  | [], _ => ⟨rfl, rfl⟩
  | (k, v) :: xs, h => by
    have h' : (okD k = true ∧ okD v = true) ∧ okK xs = true := by simpa only [okK, Bool.and_eq_true] using h
    have a := ok_show k h'.1.1
    have c := ok_show v h'.1.2
    have b := ok_showK xs h'.2
    simp only [PyData.showableKv, PyData.leavesShortKv, a.1, a.2, b.1, b.2, c.1, c.2, Bool.and_self, and_self]
end
mutual
theorem ok_lay : ∀ d : PyData, okD d = true → d.hasDict = false → d.canLay0 = true
  | .none, _, _ => rfl
  | .bool _, _, _ => rfl
  | .int i, _, _ => rfl
  | .str x, h, _ => by simpa only [okD, PyData.canLay0] using h
  | .list xs, h, n => by simpa only [PyData.canLay0] using ok_layA xs (by simpa only [okD] using h) (by simpa only [PyData.hasDict] using n)
  | .tuple xs, h, n => by simpa only [PyData.canLay0] using ok_layA xs (by simpa only [okD] using h) (by simpa only [PyData.hasDict] using n)
  | .dict kvs, _, n => by simp [PyData.hasDict] at n
theorem ok_layA : ∀ xs : List PyData, okA xs = true → PyData.hasDictAll xs = false → PyData.canLayAll0 xs = true
  | [], _, _ => rfl
  | x :: xs, h, n => by
    have h' : okD x = true ∧ okA xs = true := by simpa only [okA, Bool.and_eq_true] using h
    have n' : x.hasDict = false ∧ PyData.hasDictAll xs = false := by simpa only [PyData.hasDictAll, Bool.or_eq_false_iff] using n
    simp only [PyData.canLayAll0, ok_lay x h'.1 n'.1, ok_layA xs h'.2 n'.2, Bool.and_self]
end
theorem Ok.show {d : PyData} (h : Ok d) : d.showable = true := (ok_show d h.ok).1
theorem Ok.fits {d : PyData} (h : Ok d) : d.shown.length ≤ sizeLine := by
  have e := PyData.shown_le 600 (by decide) d (ok_show d h.ok).2
  have w := h.wt
  rw [sizeLine_eq]
  omega
theorem Ok.shaped {d : PyData} (h : Ok d) (n : d.hasDict = false) : SeqAt.shaped d = true := by
  have := h.dp
  unfold SeqAt.shaped
  rw [ok_lay d h.ok n, decide_eq_true (by omega)]
  rfl
theorem Ok.repr {K : PySem.W.Frag} {mu : Addr → Prop} {H : Hp} {v : V} {d : PyData} {Q : VK} (h : Ok d) (r : Dt K mu H v d) (n : d.hasDict = false ∨ mu sysModules) (q : Q (.str d.shown) H) : rRepr K [v] H Q :=
  ⟨v, mu, d, rfl, r, h.show, n, by have := h.dp; omega, h.fits, q⟩
theorem eqv_same {d : PyData} (h : d.canLay0 = true) : PyData.eqv d d = true := SeqAt.eqv_refl d h
theorem lay_strs : ∀ {xs : List Str}, (∀ z ∈ xs, PyData.strOk z = true) → PyData.canLayAll0 (xs.map PyData.str) = true ∧ PyData.depthAll (xs.map PyData.str) = 0
  | [], _ => ⟨rfl, rfl⟩
  | x :: xs, h => by
    have e1 : PyData.canLay0 (.str x) = true := by simpa only [PyData.canLay0] using h x List.mem_cons_self
    have e2 := lay_strs fun z hz => h z (List.mem_cons_of_mem _ hz)
    simp only [List.map_cons, PyData.canLayAll0, PyData.depthAll, e1, e2.1, e2.2, PyData.depth, Bool.and_self, Nat.max_self, and_self]
theorem shaped_strs {xs : List Str} (h : ∀ z ∈ xs, PyData.strOk z = true) : SeqAt.shaped (.list (xs.map PyData.str)) = true := by
  have e := lay_strs h
  unfold SeqAt.shaped
  simp only [PyData.canLay0, PyData.depth, e.1, e.2, Bool.true_and]
  decide
/-! ### short words for tests -/
theorem iteNe {A B : Prop} {i j : Int} (h1 : i ≠ j → A) (h2 : i = j → B) : if (!decide (V.int i = V.int j)) = true then A else B := by
  by_cases e : i = j
  · have z : (!decide (V.int i = V.int j)) = false := by rw [e, decide_eq_true rfl]; rfl
    rw [z]
    exact iteF (h2 e)
  · have z : (!decide (V.int i = V.int j)) = true := by rw [decide_eq_false fun q => e (V.int.inj q)]; rfl
    rw [z]
    exact iteT (h1 e)
theorem iteEq {A B : Prop} {i j : Int} (h1 : i = j → A) (h2 : i ≠ j → B) : if decide (V.int i = V.int j) = true then A else B := by
  by_cases e : i = j
  · rw [e, decide_eq_true rfl]
    exact iteT (h1 e)
  · rw [decide_eq_false fun q => e (V.int.inj q)]
    exact iteF (h2 e)
theorem iteP {A B : Prop} {p : Prop} [Decidable p] (h1 : p → A) (h2 : ¬ p → B) : if decide p = true then A else B := by
  by_cases e : p
  · rw [decide_eq_true e]
    exact iteT (h1 e)
  · rw [decide_eq_false e]
    exact iteF (h2 e)
theorem iteB {A B : Prop} {b : Bool} (h1 : b = true → A) (h2 : b = false → B) : if b = true then A else B := by
  cases b with
  | true => exact iteT (h1 rfl)
  | false => exact iteF (h2 rfl)
theorem iteN {A B : Prop} {b : Bool} (h1 : b = false → A) (h2 : b = true → B) : if (!b) = true then A else B := by
  cases b with
  | true => exact iteF (h2 rfl)
  | false => exact iteT (h1 rfl)
theorem dec_int (i j : Int) : decide (V.int i = V.int j) = decide (i = j) := by
  rw [decide_eq_decide]
  exact ⟨V.int.inj, fun e => by rw [e]⟩
theorem okA_mem : ∀ {ds : List PyData} {d : PyData}, okA ds = true → d ∈ ds → okD d = true
  | x :: xs, d, h, m => by
    have h' : okD x = true ∧ okA xs = true := by simpa only [okA, Bool.and_eq_true] using h
    rcases List.mem_cons.mp m with rfl | m
    · exact h'.1
    · exact okA_mem h'.2 m
theorem depthAll_mem : ∀ {ds : List PyData} {d : PyData}, d ∈ ds → d.depth ≤ PyData.depthAll ds
  | x :: xs, d, m => by
    simp only [PyData.depthAll]
    rcases List.mem_cons.mp m with rfl | m
    · omega
    · have := depthAll_mem m
      omega
theorem weightAll_mem : ∀ {ds : List PyData} {d : PyData}, d ∈ ds → d.weight + 1 ≤ PyData.weightAll ds
  | x :: xs, d, m => by
    simp only [PyData.weightAll]
    rcases List.mem_cons.mp m with rfl | m
    · omega
    · have := weightAll_mem m
      omega
theorem Ok.inT {ds : List PyData} {d : PyData} (h : Ok (.tuple ds)) (m : d ∈ ds) : Ok d := by
  have z1 := h.dp
  have z2 := h.wt
  have z3 := h.ok
  simp only [PyData.depth] at z1
  simp only [PyData.weight] at z2
  simp only [okD] at z3
  have y1 := depthAll_mem m
  have y2 := weightAll_mem m
  exact ⟨okA_mem z3 m, by omega, by omega⟩
theorem Ok.inL {ds : List PyData} {d : PyData} (h : Ok (.list ds)) (m : d ∈ ds) : Ok d := by
  have z1 := h.dp
  have z2 := h.wt
  have z3 := h.ok
  simp only [PyData.depth] at z1
  simp only [PyData.weight] at z2
  simp only [okD] at z3
  have y1 := depthAll_mem m
  have y2 := weightAll_mem m
  exact ⟨okA_mem z3 m, by omega, by omega⟩
theorem weight_len : ∀ ds : List PyData, ds.length ≤ PyData.weightAll ds
  | [] => Nat.le_refl _
  | x :: xs => by
    have := weight_len xs
    simp only [PyData.weightAll, List.length_cons]
    omega
theorem Ok.strLen {x : Str} (h : Ok (.str x)) : x.length ≤ 27000 := by
  have := h.wt
  simp only [PyData.weight] at this
  exact this
theorem isTup (d : PyData) : isT "tuple" d = true ↔ ∃ ds, d = .tuple ds := by
  cases d <;> simp [isT, tyName]
theorem isStr (d : PyData) : isT "str" d = true ↔ ∃ x, d = .str x := by
  cases d <;> simp [isT, tyName]
theorem isLst (d : PyData) : isT "list" d = true ↔ ∃ ds, d = .list ds := by
  cases d <;> simp [isT, tyName]
theorem isIntD (d : PyData) : (isT "int" d && !isT "bool" d) = true ↔ ∃ i, d = .int i := by
  cases d <;> simp [isT, tyName]
end Sw
/-! Mathematics of names and common divisors. -/
namespace Sw
open PySem PySem.Spec PyProof.Rows L2

def low (c : Nat) : Bool := decide (97 ≤ c ∧ c ≤ 122)
theorem low_tab : ∀ c, c < 128 → (Unicode.isAlpha c && !(Unicode.isUpper c || Unicode.isTitle c)) = low c ∧ (low c = true → Unicode.isLower c = true) := by decide +kernel
theorem low_lt {c : Nat} (h : low c = true) : c < 128 := by
  have z := of_decide_eq_true h
  omega
/-- what is_name asks of a text's signs, both ways -/
theorem name_two (cs : List Nat) (h : cs ≠ []) : (cs.all (· < 128) && (cs.all Unicode.isAlpha && (cs.any Unicode.isLower && !cs.any fun c => Unicode.isUpper c || Unicode.isTitle c))) = cs.all low := by
  rw [Bool.eq_iff_iff]
  constructor
  · intro z
    simp only [Bool.and_eq_true, List.all_eq_true, decide_eq_true_eq, Bool.not_eq_true', List.any_eq_false] at z
    obtain ⟨z1, z2, z3, z4⟩ := z
    rw [List.all_eq_true]
    intro c hc
    have e := (low_tab c (z1 c hc)).1
    rw [← e, z2 c hc]
    simpa using z4 c hc
  · intro z
    rw [List.all_eq_true] at z
    have key : ∀ c ∈ cs, c < 128 ∧ Unicode.isAlpha c = true ∧ (Unicode.isUpper c || Unicode.isTitle c) = false ∧ Unicode.isLower c = true := fun c hc => by
      have l := low_lt (z c hc)
      have e := low_tab c l
      rw [z c hc] at e
      have e1 := e.1
      rw [Bool.and_eq_true, Bool.not_eq_true'] at e1
      exact ⟨l, e1.1, e1.2, e.2 rfl⟩
    simp only [Bool.and_eq_true, List.all_eq_true, decide_eq_true_eq, Bool.not_eq_true', List.any_eq_false, List.any_eq_true]
    obtain ⟨c, hc⟩ := List.exists_mem_of_ne_nil cs h
    exact ⟨fun c hc => (key c hc).1, fun c hc => (key c hc).2.1, ⟨c, hc, (key c hc).2.2.2⟩, fun c hc => by simpa using (key c hc).2.2.1⟩
/-- a NAME's text -/
def nameS (x : Str) : Bool := decide (1 ≤ x.length) && decide (x.length ≤ 12) && x.cps.toList.all low
theorem name_txt (x : Str) (h : 1 ≤ x.length) : (Txt.isascii x && (Txt.isalpha x && Txt.islower x)) = x.cps.toList.all low := by
  have hl : x.cps.toList ≠ [] := fun z => by
    have e : x.length = x.cps.toList.length := rfl
    rw [z] at e
    simp at e
    omega
  have e := name_two x.cps.toList hl
  rw [← e]
  unfold Txt.isascii Txt.isalpha Txt.islower
  have h2 : decide (x.length > 0) = true := decide_eq_true h
  rw [h2, Bool.true_and, ← Array.all_toList, ← Array.all_toList, ← Array.any_toList, ← Array.any_toList]
def az : Str := "abcdefghijklmnopqrstuvwxyz"
theorem az_mem (c : Nat) : decide (c ∈ az.cps.toList) = low c := by
  have h : az.cps.toList = (List.range 26).map (· + 97) := by decide +kernel
  rw [h]
  unfold low
  rw [decide_eq_decide]
  simp only [List.mem_map, List.mem_range]
  constructor
  · rintro ⟨i, hi, rfl⟩
    omega
  · intro z
    exact ⟨c - 97, by omega, by omega⟩

/-! ### the common divisor by rests -/
theorem gcd_step (a b : Nat) : Nat.gcd b (a % b) = Nat.gcd a b := by
  rw [Nat.gcd_comm a b, Nat.gcd_rec b a, Nat.gcd_comm]
/-- the size of the common divisor -/
def gI (n d : Int) : Int := ((Nat.gcd n.natAbs d.natAbs : Nat) : Int)
def sh (n d : Int) : Int := if gI n d > 1 then gI n d else 1
def redI (n d : Int) : Int × Int := if d < 0 then ((-n) / sh n d, (-d) / sh n d) else (n / sh n d, d / sh n d)
theorem sh_pos (n d : Int) : 0 < sh n d := by
  unfold sh
  split <;> omega
theorem sh_eq {n d : Int} (h : d ≠ 0) : sh n d = gI n d := by
  have : 0 < Nat.gcd n.natAbs d.natAbs := Nat.gcd_pos_of_pos_right _ (by omega)
  unfold sh gI
  split <;> omega
theorem sh_le {n d : Int} (h : d ≠ 0) : (sh n d).natAbs ≤ d.natAbs := by
  rw [sh_eq h]
  unfold gI
  rw [Int.natAbs_natCast]
  exact Nat.le_of_dvd (by omega) (Nat.gcd_dvd_right _ _)
/-- small positive ones, reduced -/
theorem redI_pos {n d : Int} (hn : 0 < n) (hd : 0 < d) : 1 ≤ (redI n d).1 ∧ (redI n d).1 ≤ n ∧ 1 ≤ (redI n d).2 ∧ (redI n d).2 ≤ d ∧ gI (redI n d).1 (redI n d).2 = 1 := by
  obtain ⟨a, rfl⟩ : ∃ a : Nat, n = (a : Int) := ⟨n.toNat, by omega⟩
  obtain ⟨c, rfl⟩ : ∃ c : Nat, d = (c : Int) := ⟨d.toNat, by omega⟩
  have ha : 0 < a := by omega
  have hc : 0 < c := by omega
  have hg : 0 < Nat.gcd a c := Nat.gcd_pos_of_pos_right _ hc
  have e : redI (a : Int) (c : Int) = (((a / Nat.gcd a c : Nat) : Int), ((c / Nat.gcd a c : Nat) : Int)) := by
    unfold redI
    rw [if_neg (by omega), sh_eq (by omega)]
    unfold gI
    rw [Int.natAbs_natCast, Int.natAbs_natCast, Int.natCast_ediv, Int.natCast_ediv]
  rw [e]
  have d1 : Nat.gcd a c ≤ a := Nat.le_of_dvd ha (Nat.gcd_dvd_left a c)
  have d2 : Nat.gcd a c ≤ c := Nat.le_of_dvd hc (Nat.gcd_dvd_right a c)
  have p1 : 0 < a / Nat.gcd a c := Nat.div_pos d1 hg
  have p2 : 0 < c / Nat.gcd a c := Nat.div_pos d2 hg
  have p3 : a / Nat.gcd a c ≤ a := Nat.div_le_self _ _
  have p4 : c / Nat.gcd a c ≤ c := Nat.div_le_self _ _
  have p5 : Nat.gcd (a / Nat.gcd a c) (c / Nat.gcd a c) = 1 := Nat.coprime_div_gcd_div_gcd hg
  refine ⟨by show (1 : Int) ≤ ((a / Nat.gcd a c : Nat) : Int); omega, by show ((a / Nat.gcd a c : Nat) : Int) ≤ _; omega, by show (1 : Int) ≤ ((c / Nat.gcd a c : Nat) : Int); omega, by show ((c / Nat.gcd a c : Nat) : Int) ≤ _; omega, ?_⟩
  unfold gI
  show ((Nat.gcd (((a / Nat.gcd a c : Nat) : Int)).natAbs (((c / Nat.gcd a c : Nat) : Int)).natAbs : Nat) : Int) = 1
  rw [Int.natAbs_natCast, Int.natAbs_natCast, p5]
  rfl

/-! ### the bag of draws -/
/-- the bag at b: what is left of a great cell, the stirred number, how many cells were taken, the cells -/
def BagAt (H : Hp) (b : Addr) : Prop := ∃ (x y z : Int) (l : Addr) (cs : List Int), H b = some (.lst [.int x, .int y, .int z, .ref l]) ∧ H l = some (.lst (cs.map V.int)) ∧ l ≠ b ∧ 0 ≤ x ∧ 0 ≤ y ∧ y < 2147483647 ∧ 0 ≤ z ∧ cs.length ≤ 63 ∧ ∀ c ∈ cs, 0 ≤ c
/-- its cells lie at l -/
def BagL (H : Hp) (b l : Addr) : Prop := ∃ x y z : Int, H b = some (.lst [.int x, .int y, .int z, .ref l])
theorem BagL.eq {H : Hp} {b l k : Addr} {x y z : Int} (h : BagL H b l) (e : H b = some (.lst [.int x, .int y, .int z, .ref k])) : l = k := by
  obtain ⟨x', y', z', e'⟩ := h
  rw [e] at e'
  cases e'
  rfl
/-- the bag alone has changed -/
structure Rel (b : Addr) (H H' : Hp) : Prop where
  keep : ∀ a o, a ≠ b → H a = some o → H' a = some o
  cell : ∀ l, BagL H b l → BagL H' b l
  bag : BagAt H' b
theorem Rel.refl {b : Addr} {H : Hp} (h : BagAt H b) : Rel b H H := ⟨fun _ _ _ e => e, fun _ h => h, h⟩
theorem Rel.trans {b : Addr} {H H1 H2 : Hp} (r : Rel b H H1) (s : Rel b H1 H2) : Rel b H H2 := ⟨fun a o n e => s.keep a o n (r.keep a o n e), fun l h => s.cell l (r.cell l h), s.bag⟩
theorem BagAt.same {b : Addr} {H H' : Hp} (h : BagAt H b) (s : Same H H') : BagAt H' b := by
  obtain ⟨x, y, z, l, cs, h1, h2, r⟩ := h
  exact ⟨x, y, z, l, cs, s _ _ h1, s _ _ h2, r⟩
theorem BagL.same {b l : Addr} {H H' : Hp} (h : BagL H b l) (s : Same H H') : BagL H' b l := by
  obtain ⟨x, y, z, e⟩ := h
  exact ⟨x, y, z, s _ _ e⟩
theorem Rel.same {b : Addr} {H H1 H2 : Hp} (r : Rel b H H1) (s : Same H1 H2) : Rel b H H2 := ⟨fun a o n e => s a o (r.keep a o n e), fun l h => (r.cell l h).same s, r.bag.same s⟩
theorem Rel.of_same {b : Addr} {H H1 : Hp} (h : BagAt H b) (s : Same H H1) : Rel b H H1 := ⟨fun a o n e => s a o e, fun l h => h.same s, h.same s⟩
theorem Rel.fut {b : Addr} {mu : Addr → Prop} {H H' : Hp} (r : Rel b H H') (h : mu b) (hb : BagAt H b) : Fut mu H H' := fun a o e z => r.keep a o (fun q => by
  rcases z with z | z | z
  · exact z (by rw [q]; exact h)
  · obtain ⟨x, y, z', l, cs, h1, _⟩ := hb
    obtain ⟨xs, rfl⟩ := z
    rw [q, h1] at e
    cases e
  · obtain ⟨x, y, z', l, cs, h1, _⟩ := hb
    obtain ⟨ob, u, rfl⟩ := z
    rw [q, h1] at e
    cases e) e
theorem Rel.some {b : Addr} {H H' : Hp} (r : Rel b H H') {a : Addr} (h : H' a = Option.none) : H a = Option.none := by
  by_cases e : a = b
  · obtain ⟨x, y, z', l, cs, h1, _⟩ := r.bag
    rw [e, h1] at h
    cases h
  · cases q : H a with
    | none => rfl
    | some o =>
      rw [r.keep a o e q] at h
      cases h
theorem same_upd {H : Hp} {p : Addr} {o : HO} (h : H p = Option.none) : Same H (upd H p o) := fun b x e => by
  rw [upd_ne (ne_of_none e h)]
  exact e
theorem cut_mem {xs : List V} {lo hi : Option Int} {v : V} (h : v ∈ cutV xs lo hi) : v ∈ xs := by
  unfold cutV at h
  exact List.mem_of_mem_drop (List.mem_of_mem_take h)
theorem cut_len (xs : List V) (lo hi : Option Int) : (cutV xs lo hi).length ≤ xs.length := by
  unfold cutV
  rw [List.length_take, List.length_drop]
  omega
theorem head_cell {cs : List Int} (h : ∀ c ∈ cs, 0 ≤ c) (lo hi : Option Int) : ∃ c : Int, 0 ≤ c ∧ (cutV (cs.map V.int) lo hi ++ [V.int 0])[0]? = some (.int c) := by
  cases e : cutV (cs.map V.int) lo hi with
  | nil => exact ⟨0, Int.le_refl _, rfl⟩
  | cons v r =>
    have m : v ∈ cutV (cs.map V.int) lo hi := by
      rw [e]
      exact List.mem_cons_self
    obtain ⟨c, hc, rfl⟩ := List.mem_map.mp (cut_mem m)
    exact ⟨c, h c hc, rfl⟩
/-- a drawn integer from 0 to many less 1 -/
def spTake : Sp := fun vs H Q _ => ∃ (b : Addr) (many : Int), vs = [.ref b, .int many] ∧ BagAt H b ∧ 0 < many ∧ many < 1073741824 ∧ ∀ v H', 0 ≤ v → v < many → Rel b H H' → Q (.int v) H'
end Sw
/-! What an expression that draws from the bag gives as a datum (Ge exactly, Gv by a word of it). -/
namespace Sw
open PySem PySem.Spec PyProof.Rows L2

def tLstN (t : TA) : TE := fun σ H Q => t σ H fun xs H1 => xs.length ≤ sizeLine ∧ ∀ p, H1 p = none → p ≠ sysModules → Q (.ref p) (upd H1 p (.lst xs))
/-- a list display: its place is new, and not that of sys.modules -/
theorem pe_lstN {X : Cx} {es : List Expr} {t : TA} {pos : Pos} (h : PA X es t) : PE X (.List es pos) (tLstN t) :=
  ⟨fun pins s σ H Q I hq => wpAny_List_spliced (thn (h.run pos pins s σ H _ I hq) fun us s1 g => by
    obtain ⟨xs, H1, I1, r, z, q⟩ := g
    exact ⟨by rw [← r.length]; exact z, .ref s1.heap.objs.size, upd H1 s1.heap.objs.size (.lst xs), I1.laid (t' := s1.toks) (fun b u e => Heap.get?_push_of_some _ e) (Nat.le_refl _) ⟨z, us, 0, r, Heap.get?_push_size _ rfl⟩, rfl,
      q _ (I1.hok.fresh (Nat.le_refl _)) (Nat.ne_of_gt I1.big)⟩)⟩
def tDNewN : TE := fun _ H Q => ∀ p, H p = none → p ≠ sysModules → Q (.ref p) (upd H p (.dK []))
theorem pe_dnewN {X : Cx} {pos : Pos} : PE X (.Dict [] [] pos) tDNewN := ⟨fun pins s σ H Q I h =>
  wpAny_Dict_empty ⟨.ref s.heap.objs.size, _, I.laid (a := s.heap.objs.size) (o := .dK []) (t' := s.toks) (fun _ _ q => Heap.get?_push_of_some _ q) (Nat.le_refl _) (dk_empty s.heap I.big), rfl, h _ (I.hok.fresh (Nat.le_refl _)) (Nat.ne_of_gt I.big)⟩⟩
/-- what may change is tracked (or sys.modules) -/
def MuOk (mu : Addr → Prop) (H : Hp) : Prop := ∀ a, mu a → H a ≠ none ∨ a = sysModules
theorem MuOk.rel {mu : Addr → Prop} {b : Addr} {H H' : Hp} (m : MuOk mu H) (r : Rel b H H') : MuOk mu H' := fun a h => by
  rcases m a h with z | z
  · refine .inl fun e => z (r.some e)
  · exact .inr z
theorem MuOk.same {mu : Addr → Prop} {H H' : Hp} (m : MuOk mu H) (s : Same H H') : MuOk mu H' := fun a h => by
  rcases m a h with z | z
  · exact .inl fun e => z (s.free e)
  · exact .inr z
theorem MuOk.new {mu : Addr → Prop} {H : Hp} (m : MuOk mu H) {p : Addr} (n : H p = none) (s : p ≠ sysModules) : ¬ mu p := fun h => (m p h).elim (fun z => z n) s
theorem MuOk.bag {H : Hp} {b : Addr} (h : BagAt H b) : MuOk (fun a => a = b ∨ a = sysModules) H := fun a z => by
  rcases z with rfl | z
  · obtain ⟨x, y, z, l, cs, h1, _⟩ := h
    exact .inl (by rw [h1]; exact fun z => nomatch z)
  · exact .inr z

/-- a list may be changed -/
def Own (H : Hp) (v : V) (d : PyData) : Prop := (∀ ds, d = .list ds → ∃ a xs, v = .ref a ∧ H a = some (.lst xs)) ∧ (d = .dict [] → ∃ a, v = .ref a ∧ H a = some (.dK []))
theorem Own.fut {K : PySem.W.Frag} {mu : Addr → Prop} {H H' : Hp} {v : V} {d : PyData} (o : Own H v d) (h : Dt K mu H v d) (f : Fut mu H H') : Own H' v d := ⟨fun ds e => by
  subst e
  obtain ⟨a, xs, rfl, e⟩ := o.1 ds rfl
  obtain ⟨a', _, e2, n, _, _⟩ := h.lstAt
  cases e2
  exact ⟨a, xs, rfl, f a _ e (.inl n)⟩, fun e => by
  subst e
  obtain ⟨a, rfl, e⟩ := o.2 rfl
  cases h with
  | dct n _ _ => exact ⟨a, rfl, f a _ e (.inl n)⟩⟩
theorem own_not {H : Hp} {v : V} {d : PyData} (h : ∀ ds, d ≠ .list ds) (h2 : d ≠ .dict [] := by intro z; cases z) : Own H v d := ⟨fun ds e => absurd e (h ds), fun e => absurd e h2⟩
/-- .. all of them -/
def OwnA (H : Hp) (vs : List V) (ds : List PyData) : Prop := ∀ (i : Nat) (v : V) (d : PyData), vs[i]? = some v → ds[i]? = some d → Own H v d
theorem OwnA.nil {H : Hp} {ds : List PyData} : OwnA H [] ds := fun i v d e => by simp at e
theorem OwnA.cons {H : Hp} {v : V} {vs : List V} {d : PyData} {ds : List PyData} (h : Own H v d) (t : OwnA H vs ds) : OwnA H (v :: vs) (d :: ds) := fun i x y e1 e2 => by
  cases i with
  | zero =>
    cases e1
    cases e2
    exact h
  | succ i => exact t i x y (by simpa using e1) (by simpa using e2)
section
variable (K : PySem.W.Frag) (b : Addr) (mu : Addr → Prop) (σ : L2.St) (H0 : Hp)
/-- the expression gives the datum d -/
def Ge (te : TE) (d : PyData) : Prop := ∀ H, Rel b H0 H → MuOk mu H → ∀ Q : VK, (∀ v H', Rel b H H' → Dt K mu H' v d → Q v H') → te σ H Q
/-- .. a datum of which D holds -/
def Gv (te : TE) (D : PyData → Prop) : Prop := ∀ H, Rel b H0 H → MuOk mu H → ∀ Q : VK, (∀ v H' d, D d → Rel b H H' → Dt K mu H' v d → Own H' v d → Q v H') → te σ H Q
def GeA (ta : TA) (ds : List PyData) : Prop := ∀ H, Rel b H0 H → MuOk mu H → ∀ Q : List V → Hp → Prop, (∀ vs H', Rel b H H' → DtA K mu H' vs ds → Q vs H') → ta σ H Q
def GvA (ta : TA) (D : PyData → Prop) (n : Nat) : Prop := ∀ H, Rel b H0 H → MuOk mu H → ∀ Q : List V → Hp → Prop, (∀ vs H' ds, ds.length = n → (∀ d ∈ ds, D d) → Rel b H H' → DtA K mu H' vs ds → OwnA H' vs ds → Q vs H') → ta σ H Q
end
section
variable {K : PySem.W.Frag} {b : Addr} {mu : Addr → Prop} {σ : L2.St} {H0 : Hp} {te : TE} {ta tr : TA} {d : PyData} {ds : List PyData} {D : PyData → Prop} {n : Nat}
theorem Ge.gv (h : Ge K b mu σ H0 te d) (hd : D d) (hn : ∀ ds, d ≠ .list ds := by intro _ z; cases z) (hn2 : d ≠ .dict [] := by intro z; cases z) : Gv K b mu σ H0 te D := fun H hb m Q q => h H hb m Q fun v H' r e => q v H' d hd r e (own_not hn hn2)
theorem gv_lst (hm : mu b) (h : GeA K b mu σ H0 ta ds) (hl : ds.length ≤ 1000) (hd : D (.list ds)) : Gv K b mu σ H0 (tLstN ta) D := fun H hb m Q q =>
  h H hb m _ fun vs H1 r e => ⟨Nat.le_of_lt (small1000 (by rw [e.length]; exact hl)), fun p np ns => q _ _ _ hd (r.same (same_upd np)) (.lst ((m.rel r).new np ns) (.inl upd_same) (e.fut (.of_same (same_upd np)))) ⟨fun _ _ => ⟨p, vs, rfl, upd_same⟩, fun z => nomatch z⟩⟩
theorem ge_int {i : Int} : Ge K b mu σ H0 (tC (.int i)) (.int i) := fun H hb _ _ q => q _ H (.refl hb.bag) (.int i)
theorem ge_bl {i : Bool} : Ge K b mu σ H0 (tC (.bl i)) (.bool i) := fun H hb _ _ q => q _ H (.refl hb.bag) (.bl i)
theorem ge_str {i : Str} : Ge K b mu σ H0 (tC (.str i)) (.str i) := fun H hb _ _ q => q _ H (.refl hb.bag) (.str i)
theorem ge_non : Ge K b mu σ H0 (tC .non) .none := fun H hb _ _ q => q _ H (.refl hb.bag) .non
theorem ge_neg {i : Int} : Ge K b mu σ H0 (tUn (rU fun i => .int (-i)) (tC (.int i))) (.int (-i)) := fun H hb _ _ q => ⟨i, rfl, q _ H (.refl hb.bag) (.int _)⟩
theorem geA_nil : GeA K b mu σ H0 tNil [] := fun H hb _ _ q => q _ H (.refl hb.bag) .nil
theorem geA_cons (hm : mu b) (h : Ge K b mu σ H0 te d) (t : GeA K b mu σ H0 tr ds) : GeA K b mu σ H0 (tCons te tr) (d :: ds) := fun H hb m _ q =>
  h H hb m _ fun v H1 r1 e1 => t H1 (hb.trans r1) (m.rel r1) _ fun vs H2 r2 e2 => q _ H2 (r1.trans r2) (.cons (e1.fut (r2.fut hm r1.bag)) e2)
theorem gvA_nil : GvA K b mu σ H0 tNil D 0 := fun H hb _ _ q => q _ H [] rfl (fun _ z => nomatch z) (.refl hb.bag) .nil .nil
theorem gvA_cons (hm : mu b) (h : Gv K b mu σ H0 te D) (t : GvA K b mu σ H0 tr D n) : GvA K b mu σ H0 (tCons te tr) D (n + 1) := fun H hb m _ q =>
  h H hb m _ fun v H1 d hd r1 e1 o1 => t H1 (hb.trans r1) (m.rel r1) _ fun vs H2 ds hl hds r2 e2 o2 => q _ H2 (d :: ds) (by rw [List.length_cons, hl]) (fun x z => by
    rcases List.mem_cons.mp z with rfl | z
    · exact hd
    · exact hds x z) (r1.trans r2) (.cons (e1.fut (r2.fut hm r1.bag)) e2) (.cons (o1.fut e1 (r2.fut hm r1.bag)) o2)
theorem ge_tup (hm : mu b) (h : GeA K b mu σ H0 ta ds) (hl : ds.length ≤ 1000) : Ge K b mu σ H0 (tTup ta) (.tuple ds) := fun H hb m _ q =>
  h H hb m _ fun vs H1 r e => ⟨Nat.le_of_lt (small1000 (by rw [e.length]; exact hl)), fun p np => q _ _ (r.same (same_upd np)) (.tup (.inl upd_same) (e.fut (.of_same (same_upd np))))⟩
theorem ge_lst (hm : mu b) (h : GeA K b mu σ H0 ta ds) (hl : ds.length ≤ 1000) : Ge K b mu σ H0 (tLstN ta) (.list ds) := fun H hb m _ q =>
  h H hb m _ fun vs H1 r e => ⟨Nat.le_of_lt (small1000 (by rw [e.length]; exact hl)), fun p np ns => q _ _ (r.same (same_upd np)) (.lst ((m.rel r).new np ns) (.inl upd_same) (e.fut (.of_same (same_upd np))))⟩
end
theorem gv_dict {K : PySem.W.Frag} {b : Addr} {mu : Addr → Prop} {σ : L2.St} {H0 : Hp} {D : PyData → Prop} (hd : D (.dict [])) : Gv K b mu σ H0 tDNewN D := fun H hb m Q q =>
  fun p np ns => q _ _ _ hd (Rel.of_same hb.bag (same_upd np)) (.dct (m.new np ns) (.inl upd_same) .nil) ⟨(fun _ z => nomatch z), fun _ => ⟨p, rfl, upd_same⟩⟩
/-- a menu of drawn things: t is a list, one of its items comes back -/
def spSome : Sp := fun vs H Q _ => ∃ (b t : Addr) (xs : List V), vs = [.ref b, .ref t] ∧ BagAt H b ∧ t ≠ b ∧ H t = some (.lst xs) ∧ 0 < xs.length ∧ xs.length ≤ 1000 ∧ ∀ (i : Nat) v H', xs[i]? = some v → Rel b H H' → Q v H'
/-- a menu is asked -/
theorem gv_some {K : PySem.W.Frag} {b : Addr} {mu : Addr → Prop} {σ : L2.St} {H0 : Hp} {ta : TA} {D : PyData → Prop} {n i : Nat} (hm : mu b) (hσ : σ[i]? = some (some (.ref b))) (h : GvA K b mu σ H0 ta D n) (h0 : 0 < n) (h1 : n ≤ 1000) :
    Gv K b mu σ H0 (tCall spSome [] E0 (tCons (tVar i) (tCons (tLst ta) tNil))) D := fun H hb m Q q => by
  refine ⟨_, hσ, h H hb m _ fun vs H1 ds hl hD r e oo => ?_⟩
  have hv : vs.length = n := e.length.trans hl
  refine ⟨Nat.le_of_lt (small1000 (by omega)), fun p np => ?_⟩
  have nb : p ≠ b := fun z => by
    obtain ⟨x, y, z', l, cs, h1, _⟩ := r.bag
    rw [z, h1] at np
    cases np
  refine ⟨b, p, vs, rfl, r.bag.same (same_upd np), nb, upd_same, by omega, by omega, fun j v H2 hj r2 => ?_⟩
  obtain ⟨d, hd, ed⟩ := e.get hj
  have o1 := (oo j v d hj hd).fut ed (.of_same (same_upd (o := .lst vs) np))
  have r3 := r.same (same_upd (o := .lst vs) np)
  exact q v H2 d (hD d (List.mem_of_getElem? hd)) (r3.trans r2) ((ed.fut (.of_same (same_upd np))).fut (r2.fut hm r3.bag)) (o1.fut (ed.fut (.of_same (same_upd np))) (r2.fut hm r3.bag))
theorem gv_var {K : PySem.W.Frag} {b : Addr} {mu : Addr → Prop} {σ : L2.St} {H0 : Hp} {i : Nat} {v : V} {d : PyData} {D : PyData → Prop} (hm : mu b) (hb : BagAt H0 b) (hσ : σ[i]? = some (some v)) (h : Dt K mu H0 v d) (o : Own H0 v d) (hd : D d) : Gv K b mu σ H0 (tVar i) D := fun H r m Q q =>
  ⟨v, hσ, q v H d hd (.refl r.bag) (h.fut (r.fut hm hb)) (o.fut h (r.fut hm hb))⟩
/-- a menu that lies ready -/
theorem gv_someV {K : PySem.W.Frag} {b : Addr} {mu : Addr → Prop} {σ : L2.St} {H0 : Hp} {D : PyData → Prop} {i j : Nat} {t : Addr} {xs : List V} {ds : List PyData} (hm : mu b) (hb : BagAt H0 b) (hσ : σ[i]? = some (some (.ref b))) (hτ : σ[j]? = some (some (.ref t))) (ht : H0 t = some (.lst xs)) (nt : t ≠ b)
    (e : DtA K mu H0 xs ds) (o : OwnA H0 xs ds) (hD : ∀ d ∈ ds, D d) (h0 : 0 < ds.length) (h1 : ds.length ≤ 1000) : Gv K b mu σ H0 (tCall spSome [] E0 (tCons (tVar i) (tCons (tVar j) tNil))) D := fun H r m Q q => by
  have hv : xs.length = ds.length := e.length
  refine ⟨_, hσ, _, hτ, b, t, xs, rfl, r.bag, nt, r.keep _ _ nt ht, by omega, by omega, fun k v H2 hk r2 => ?_⟩
  obtain ⟨d, hd, ed⟩ := e.get hk
  have f := (r.trans r2).fut hm hb
  exact q v H2 d (hD d (List.mem_of_getElem? hd)) r2 (ed.fut f) ((o k v d hk hd).fut ed f)
/-- a def over the bag (and further arguments) gives a datum of which D holds -/
def spG (K : PySem.W.Frag) (as : List V) (D : PyData → Prop) : Sp := fun vs H Q _ => ∃ (b : Addr) (mu : Addr → Prop), vs = .ref b :: as ∧ mu b ∧ BagAt H b ∧ MuOk mu H ∧ ∀ v H' d, D d → Rel b H H' → Dt K mu H' v d → Own H' v d → Q v H'
/-- a drawn FRACTION above 0 -/
def NumP (n m : Int) : Prop := 1 ≤ n ∧ n ≤ 1000000000000 ∧ 1 ≤ m ∧ m ≤ 1000000000000 ∧ gI n m = 1
def NumD (d : PyData) : Prop := ∃ n m, d = .tuple [.int n, .int m] ∧ NumP n m
def spNum (K : PySem.W.Frag) : Sp := fun vs H Q E => ∃ most : Int, 0 < most ∧ most ≤ 100000000 ∧ spG K [.int most] NumD vs H Q E
theorem ge_num {K : PySem.W.Frag} {b : Addr} {mu : Addr → Prop} {σ : L2.St} {H0 : Hp} {i : Nat} {n : Int} (hm : mu b) (hσ : σ[i]? = some (some (.ref b))) (h0 : 0 < n) (h1 : n ≤ 100000000) :
    Gv K b mu σ H0 (tCall (spNum K) [] E0 (tCons (tVar i) (tCons (tC (.int n)) tNil))) NumD := fun H hb m Q q =>
  ⟨_, hσ, n, h0, h1, b, mu, rfl, hm, hb.bag, m, q⟩
theorem numD {n m : Int} (h : NumP n m) : NumD (.tuple [.int n, .int m]) := ⟨n, m, rfl, h⟩
theorem int_pow {n : Int} (h1 : 1 ≤ n) (h2 : n ≤ 1000000000000) : n.natAbs < 10 ^ 500 := by
  have e : (1000000000000 : Nat) < 10 ^ 500 := by decide +kernel
  omega
theorem NumD.not {H : Hp} {v : V} {d : PyData} (h : NumD d) : Own H v d := by
  obtain ⟨n, m, rfl, _⟩ := h
  exact own_not fun _ z => nomatch z
theorem numD_ok {d : PyData} (h : NumD d) : Ok d ∧ d.hasDict = false ∧ d.weight ≤ 202 ∧ d.depth = 1 := by
  obtain ⟨n, m, rfl, h1, h2, h3, h4, _⟩ := h
  have w : ∀ i : Int, 1 ≤ i → i ≤ 1000000000000 → (PyData.int i).weight ≤ 100 := fun i a b => by
    have hz : i.natAbs ≠ 0 := by omega
    have e : i.natAbs.log2 < 40 := (Nat.log2_lt hz).mpr (by omega)
    simp only [PyData.weight]
    split <;> omega
  have w1 := w n h1 h2
  have w2 := w m h3 h4
  have e1 : (PyData.tuple [.int n, .int m]).weight ≤ 202 := by
    simp only [PyData.weight, PyData.weightAll] at w1 w2 ⊢
    omega
  have e2 : (PyData.tuple [.int n, .int m]).depth = 1 := by
    simp [PyData.depth, PyData.depthAll]
  refine ⟨⟨?_, by rw [e2]; decide, by omega⟩, by simp [PyData.hasDict, PyData.hasDictAll], e1, e2⟩
  simp only [okD, okA, Bool.and_true, Bool.and_eq_true, decide_eq_true_eq]
  exact ⟨int_pow h1 h2, int_pow h3 h4⟩
end Sw
/-! Own exceptions as values: made by their own __init__, fields read, classes asked. -/
namespace Sw
open PySem PySem.Spec PyProof.Rows L2

/-- C(e, ..), an error as a value -/
def tMkV (C : Addr) (sp : Sp) (ta : TA) : TE := fun σ H Q => ta σ H fun vs H1 => vs.length ≤ 1000 ∧ ∀ a, H1 a = none → sp (.ref a :: vs) (upd H1 a (exo a C none)) (fun v H2 => v = .non ∧ Q (.ref a) H2) E0
theorem pe_exV {X : Cx} {x : Str} {C fI : Addr} {k : Nat} {fd : FuncData} {ps : List Str} {sp : Sp} {e : Expr} {es : List Expr} {ta : TA} {p pos : Pos} (T : OexC X.K C) (iC : PySem.W.findIn X.K (.ref C) "__init__" = some (some (.ref fI))) (tI : PySem.W.typeIn X.K (.ref fI) = some (.type "function"))
    (F1 : FnG X.prog X.w X.K X.mg X.base k fI fd ps sp) (g : Gd X.A) (hr : Room (k + 1) X.A) (hb : Binds X.K fd ps []) (hg : Gl X x) (hm : X.mg x = some (.ref C)) (ha : PA X (e :: es) ta)
    (hdb : (x == ("__debug__" : Str)) = false := by decide) (he : starEach (e :: es) X.env = (false, eval e X.env) :: starEach es X.env := by rfl) (hpl : (backTo pos (starEach es X.env)).any (·.1) = false := by rfl) :
    PE X (.Call (.Name x p) (e :: es) [] pos) (tMkV C sp ta) := by
  refine ⟨fun pins s σ H Q I h => ?_⟩
  obtain ⟨nm, q, N, bs, bm, sn, sub, ab, col, dd, k0, k1, k2, k3, k5, hC, hbm⟩ := T.cls
  refine wpAny_Call_Name_kw (ld_glob I hg hm ?_ hdb)
  refine PySem.W.callWith_K (h₀ := X.base) I.ok.mod.kin T.kC (thn (ha.run pos pins s σ H _ I h) fun us s1 ⟨vs, H1, I1, r1, hz, q1⟩ => ⟨I1.kIn, ?_⟩) he hpl
  show wpAny _ _ (call (.ref C) us) _ _ _
  obtain ⟨hp, g1, dr, tk, os⟩ := s1
  have hsz : hp.objs.size ≤ hp.objs.size + 1 := Nat.le_succ _
  have hn : H1 (hp.objs.size + 1) = none := I1.hok.fresh hsz
  have hq := q1 (hp.objs.size + 1) hn
  have kk : ∀ b o, hp.get? b = some o → ((hp.push (PySem.W.kdv_tup us)).push (PySem.HandSPX.excO C hp.objs.size)).get? b = some o := fun b o e => Heap.get?_push_of_some _ (Heap.get?_push_of_some _ e)
  have hget : ((hp.push (PySem.W.kdv_tup us)).push (PySem.HandSPX.excO C hp.objs.size)).get? (hp.objs.size + 1) = some (PySem.HandSPX.excO C hp.objs.size) := by heap_get
  have I2 : Inv X pins σ (upd H1 (hp.objs.size + 1) (exo (hp.objs.size + 1) C none)) ⟨(hp.push (PySem.W.kdv_tup us)).push (PySem.HandSPX.excO C hp.objs.size), g1, dr, tk, os⟩ :=
    I1.laid (t' := tk) (a := hp.objs.size + 1) (o := exo (hp.objs.size + 1) C none) (h' := (hp.push (PySem.W.kdv_tup us)).push (PySem.HandSPX.excO C hp.objs.size)) kk hsz (exo_ok hget)
  have r2 : Vals (V.ref (hp.objs.size + 1) :: vs) (Value.ref (hp.objs.size + 1) :: us) := .cons rfl r1
  have hl : (Value.ref (hp.objs.size + 1) :: us).length = ps.length := r2.length.symm.trans (F1.len _ _ _ _ hq)
  have hus : us.length ≤ sizeLine := by
    rw [← Paired.length r1, sizeLine_eq]
    omega
  have hbb := hb ⟨(hp.push (PySem.W.kdv_tup us)).push (PySem.HandSPX.excO C hp.objs.size), g1, dr, tk, os⟩ (Value.ref (hp.objs.size + 1) :: us) I2.kIn (by simpa using hl)
  rw [List.append_nil] at hbb
  refine wpAny_call (PySem.HandSPX.call_own F.excBase_ValueError (fun Y => PySem.HandSPX.refsVE_contains Y bm hbm) (I1.kIn _ _ hC) (PySem.W.looks_findIn I1.kIn iC) (fun self => PySem.W.bind_fn I1.kIn self tI) hus
    (codeAny_mono (F1.go (Gd.make g C us []) (hr.make C us []) (I2.env0.make C us []) hbb r2 hq) fun r s' hq' => ?_))
  match r, hq' with
  | .ok (.ret u), hq' =>
    obtain ⟨v, H2, I3, rv, ev, q2⟩ := I2.after hq'
    subst ev
    exact ⟨rv, .ref (hp.objs.size + 1), H2, I3, rfl, q2⟩
/-- C(), C without an own __init__ -/
def tMk0 (C : Addr) : TE := fun σ H Q => ∀ a, H a = none → Q (.ref a) (upd H a (exo a C none))
theorem pe_ex0 {X : Cx} {C : Addr} {bmB : List Value} {B newId initId : String} {x : Str} {p pos : Pos} (F : ExcBaseFacts B newId initId bmB) (q : PySem.W.excIn X.K C bmB newId = true) (gC : X.mg x = some (.ref C)) (kC : PySem.W.keepIn X.K (.ref C) = true) (hg : Gl X x)
    (hdb : (x == ("__debug__" : Str)) = false := by decide) :
    PE X (.Call (.Name x p) [] [] pos) (tMk0 C) := by
  refine ⟨fun pins s σ H Q I h => ?_⟩
  refine wpAny_Call_Name_kw (ld_glob I hg gC (PySem.W.callWith_K0 I.kIn kC ?_) hdb)
  obtain ⟨bm, N, nm, qn, bs, hdct, sn, sub, ab, col, dd, k0, k1, k2, k3, k5, mN, hC, hN, hni, T⟩ := exc_obj I.kIn q
  refine wpAny_call_exc_subT F T hC hN hni (fun h' a hm => ?_) (by show 0 ≤ sizeLine; rw [sizeLine_eq]; omega)
  have hn : H a = none := I.hok.gone hm.new
  obtain ⟨t, ht, _, _⟩ := hm.there
  exact ⟨.ref a, upd H a (exo a C none), I.laidN hm.keeps hm.new hn (exo_ok ht), rfl, h a hn⟩
/-- e.f, e an own error whose dict is known -/
def tXv (K : PySem.W.Frag) (f : Str) (te : TE) : TE := fun σ H Q => te σ H fun x H1 => ∃ (a C dx : Addr) (fs : List (Str × V)) (v : V), x = .ref a ∧ XfC K C ∧ PySem.W.findIn K (.ref C) f = some none ∧ H1 a = some (exo a C (some dx)) ∧ H1 dx = some (exd dx fs) ∧ fs.lookup f = some v ∧ Q v H1
theorem pe_xv {X : Cx} {e : Expr} {te : TE} {pos : Pos} {n : Str} (he : PE X e te) (hb : attributeBase e n X.env (eval e X.env) = eval e X.env := by rfl) :
    PE X (.Attribute e n pos) (tXv X.K n te) := by
  refine ⟨fun pins s σ H Q I h => ?_⟩
  refine attr_of hb (thn (he.run pins s σ H _ I h) fun u s1 hh => ?_)
  obtain ⟨x, H1, I1, rx, a, C, dx, fs, v, rfl, T, hno, ea, ed, l, q⟩ := hh
  obtain rfl : u = Value.ref a := rx
  obtain ⟨t1, ho⟩ := exo_at I1.hok ea
  obtain ⟨mA, hns, hr⟩ := exd_at I1.hok ed
  obtain ⟨od, hod, hl⟩ := lookIn_ns hns
  obtain ⟨u, hu, ru⟩ := RelO.some_of (v := v) (o := mA n) (by rw [← l]; exact hr n)
  have J : PySem.W.InstAt s1.heap a { cls := .ref C, dict := some dx, data := .fields #[.ref t1, .none, .none, .none, .bool false, .none] } C (some od) := ⟨ho, rfl, rfl, hod⟩
  exact HandSPX.exc_get I1.kIn J T.ga T.gg T.exC (PySem.W.findObj_own T.hdC hno rfl (by rw [hl, hu])) (handed_of ru) ⟨v, H1, I1.tok _, ru, q⟩
/-- isinstance(e, c), e an own error -/
def rIsX (K : PySem.W.Frag) : List V → Hp → VK → Prop := fun xs H Q => ∃ (a D : Addr) (dx : Option Addr) (c : V) (cv : Value) (b : Bool), xs = [.ref a, c] ∧ ExcC K D ∧ H a = some (exo a D dx) ∧ (∀ d, dx = some d → ∃ fs, H d = some (exd d fs)) ∧ (∀ u, RelV c u → u = cv) ∧ PySem.W.kitOne K (.ref D) cv = some b ∧ Q (.bl b) H
theorem call_isX {X : Cx} : CallR X (.builtin "isinstance") (rIsX X.K) := by
  intro pins s σ H xs us Q I r h
  obtain ⟨a, D, dx, c, cv, b, rfl, C, ea, hd, hcv, e, q⟩ := h
  cases r with
  | cons rx rr =>
    cases rr with
    | cons rt rr =>
      cases rr
      cases rx
      have ec := hcv _ rt
      subst ec
      obtain ⟨t1, ho⟩ := exo_at I.hok ea
      have hcl : (PySem.W.clsIn X.K D).isSome = true := by
        obtain ⟨cd, hc, _⟩ := PySem.W.any_some C.hd
        rw [hc]
        rfl
      have J : ∃ od, PySem.W.InstAt s.heap a { cls := .ref D, dict := dx, data := .fields #[.ref t1, .none, .none, .none, .bool false, .none] } D od := by
        cases dx with
        | none => exact ⟨none, ho, rfl, rfl, trivial⟩
        | some d =>
          obtain ⟨fs, ed⟩ := hd d rfl
          obtain ⟨mA, hns, _⟩ := exd_at I.hok ed
          obtain ⟨o, es, ep, e1, _⟩ := hns
          exact ⟨some o, ho, rfl, rfl, e1⟩
      obtain ⟨od, J⟩ := J
      exact PySem.W.kia_one (PySem.W.kitx_exc hcl C.hg C.hk C.hs C.ha C.hn C.ht C.hm) I.kIn J e (fun z => nomatch z) fun tk => ⟨.bl b, H, I.kept (t' := tk) fun _ _ z => z, rfl, q⟩
/-- __init__(self, y): self.f = y -/
def spInit1 (K : PySem.W.Frag) (C : Addr) (f : Str) : Sp := fun vs H Q _ => ∃ (a : Addr) (y : V), vs = [.ref a, y] ∧ H a = some (exo a C none) ∧ ∀ d, H d = none → d ≠ a → Q .non (upd (upd H d (exd d [(f, y)])) a (exo a C (some d)))
def spInit2 (K : PySem.W.Frag) (C : Addr) (f g : Str) : Sp := fun vs H Q _ => ∃ (a : Addr) (y z : V), vs = [.ref a, y, z] ∧ H a = some (exo a C none) ∧ ∀ d H', H d = none → d ≠ a → H' a = some (exo a C (some d)) → H' d = some (exd d [(g, z), (f, y)]) → (∀ b, b ≠ a → b ≠ d → H' b = H b) → Q .non H'
/-- a tuple's display, not to be looked into -/
@[irreducible] def tTupI (t : TA) : TE := tTup t
theorem pe_tupI {X : Cx} {es : List Expr} {k : Nat} {t : TA} {pos : Pos} (h : PA X es t) : PE X (.Tuple es k pos) (tTupI t) := by
  unfold tTupI
  exact pe_tup h
theorem pg_tupK {X : Cx} {K : PySem.W.Frag} {es : List Expr} {k : Nat} {t : TGs} {n : Nat} {pos : Pos} (hK : X.K = K) (hc : X.calm = true) (h : PGs X es t)
    (hn : (assignEach es X.env).length = n := by rfl) (hst : (assignEach es X.env).findIdx? (·.1) = none := by rfl) : PG X (.Tuple es k pos) (gTup K n t) := by
  subst hK
  exact pg_tup hc h hn hst
/-- the module's name x is an error class whose __init__ keeps sp -/
structure ExV (P : Program) (w : World) (K : PySem.W.Frag) (mg : Str → Option Value) (base : Heap) (x : Str) (C : Addr) (sp : Sp) : Prop where
  hm : mg x = some (.ref C)
  oex : OexC K C
  fn : ∃ (fI : Addr) (fd : FuncData) (ps : List Str), PySem.W.findIn K (.ref C) "__init__" = some (some (.ref fI)) ∧ PySem.W.typeIn K (.ref fI) = some (.type "function") ∧ FnG P w K mg base 1 fI fd ps sp ∧ Binds K fd ps []
theorem pex {X : Cx} {x : Str} {C : Addr} {j : Nat} {sp : Sp} {e : Expr} {es : List Expr} {ta : TA} {p pos : Pos} (c : ExV X.prog X.w X.K X.mg X.base x C sp) (g : Gd X.A) (hr : Room j X.A) (hk : 2 ≤ j) (hg : Gl X x) (ha : PA X (e :: es) ta)
    (hdb : (x == ("__debug__" : Str)) = false := by decide) (he : starEach (e :: es) X.env = (false, eval e X.env) :: starEach es X.env := by rfl) (hpl : (backTo pos (starEach es X.env)).any (·.1) = false := by rfl) :
    PE X (.Call (.Name x p) (e :: es) [] pos) (tMkV C sp ta) := by
  obtain ⟨fI, fd, ps, iC, tI, F, b⟩ := c.fn
  exact pe_exV c.oex iC tI F g (hr.mono hk) b hg c.hm ha hdb he hpl
/-- .. without an own __init__ -/
structure Ex0 (K : PySem.W.Frag) (mg : Str → Option Value) (x : Str) (C : Addr) : Prop where
  hm : mg x = some (.ref C)
  kC : PySem.W.keepIn K (.ref C) = true
  q : PySem.W.excIn K C [.type "ValueError", .type "Exception", .type "BaseException", .type "object"] "ValueError.__new__" = true
theorem px0 {X : Cx} {x : Str} {C : Addr} {p pos : Pos} (c : Ex0 X.K X.mg x C) (hg : Gl X x) (hdb : (x == ("__debug__" : Str)) = false := by decide) :
    PE X (.Call (.Name x p) [] [] pos) (tMk0 C) := pe_ex0 F.excBase_ValueError c.q c.hm c.kC hg hdb
end Sw
/-! Fractions in lowest terms, by integers. -/
namespace Sw
open PySem PySem.Spec PyProof.Rows L2

/-- nothing but 1 divides both -/
def Cp (a b : Int) : Prop := Nat.Coprime a.natAbs b.natAbs
theorem Cp.of {a b : Int} (h : ∀ k : Nat, (k : Int) ∣ a → (k : Int) ∣ b → k = 1) : Cp a b := by
  refine h _ ?_ ?_
  · exact Int.ofNat_dvd_left.mpr (Nat.gcd_dvd_left _ _)
  · exact Int.ofNat_dvd_left.mpr (Nat.gcd_dvd_right _ _)
theorem Cp.one {a b : Int} (c : Cp a b) {k : Nat} (h1 : (k : Int) ∣ a) (h2 : (k : Int) ∣ b) : k = 1 := by
  have h := Nat.dvd_gcd (Int.ofNat_dvd_left.mp h1) (Int.ofNat_dvd_left.mp h2)
  rw [show Nat.gcd a.natAbs b.natAbs = 1 from c] at h
  exact Nat.dvd_one.mp h
theorem Cp.symm {a b : Int} (h : Cp a b) : Cp b a := Nat.Coprime.symm h
theorem Cp.left {a b c : Int} (h : Cp a b) (d : c ∣ a) : Cp c b := .of fun _ h1 h2 => h.one (Int.dvd_trans h1 d) h2
theorem Cp.right {a b c : Int} (h : Cp a b) (d : c ∣ b) : Cp a c := (h.symm.left d).symm
theorem Cp.mul {a b c : Int} (h1 : Cp a b) (h2 : Cp a c) : Cp a (b * c) := by
  unfold Cp
  rw [Int.natAbs_mul]
  exact Nat.Coprime.mul_right h1 h2
theorem Cp.mulL {a b c : Int} (h1 : Cp a c) (h2 : Cp b c) : Cp (a * b) c := (h1.symm.mul h2.symm).symm
theorem Cp.add {a b k : Int} (h : Cp a b) : Cp (a + k * b) b := .of fun j h1 h2 => by
  have h3 : (j : Int) ∣ k * b := Int.dvd_trans h2 (Int.dvd_mul_left k b)
  have h4 : (j : Int) ∣ (a + k * b) - k * b := Int.dvd_sub h1 h3
  rw [Int.add_sub_cancel] at h4
  exact h.one h4 h2
theorem Cp.neg {a b : Int} (h : Cp a b) : Cp (-a) b := by
  unfold Cp
  rw [Int.natAbs_neg]
  exact h
theorem Cp.dvd {a b c : Int} (h : Cp a b) (d : a ∣ b * c) : a ∣ c := by
  rw [← Int.natAbs_dvd_natAbs] at d ⊢
  rw [Int.natAbs_mul] at d
  exact Nat.Coprime.dvd_of_dvd_mul_left h d
theorem gI_cp {a b : Int} : gI a b = 1 ↔ Cp a b := by
  unfold gI Cp Nat.Coprime
  omega
theorem gI_dvd (a b : Int) : gI a b ∣ a ∧ gI a b ∣ b := ⟨Int.ofNat_dvd_left.mpr (Nat.gcd_dvd_left _ _), Int.ofNat_dvd_left.mpr (Nat.gcd_dvd_right _ _)⟩
theorem gI_pos {a b : Int} (h : b ≠ 0) : 0 < gI a b := by
  have : 0 < Nat.gcd a.natAbs b.natAbs := Nat.gcd_pos_of_pos_right _ (by omega)
  unfold gI
  omega
/-- by the common divisor, nothing common is left -/
theorem cp_div {a b : Int} (h : b ≠ 0) : Cp (a / gI a b) (b / gI a b) := by
  have g := gI_pos (a := a) h
  obtain ⟨⟨x, hx⟩, y, hy⟩ := gI_dvd a b
  have ex : a / gI a b = x := Int.ediv_eq_of_eq_mul_right (by omega) hx
  have ey : b / gI a b = y := Int.ediv_eq_of_eq_mul_right (by omega) hy
  rw [ex, ey]
  have e1 : x.natAbs = a.natAbs / Nat.gcd a.natAbs b.natAbs := by
    have := congrArg Int.natAbs hx
    rw [Int.natAbs_mul] at this
    unfold gI at this g
    rw [Int.natAbs_natCast] at this
    exact (Nat.div_eq_of_eq_mul_right (by omega) this).symm
  have e2 : y.natAbs = b.natAbs / Nat.gcd a.natAbs b.natAbs := by
    have := congrArg Int.natAbs hy
    rw [Int.natAbs_mul] at this
    unfold gI at this g
    rw [Int.natAbs_natCast] at this
    exact (Nat.div_eq_of_eq_mul_right (by omega) this).symm
  unfold Cp
  rw [e1, e2]
  exact Nat.coprime_div_gcd_div_gcd (Nat.gcd_pos_of_pos_right _ (by omega))
/-- a FRACTION -/
structure Fr (n d : Int) : Prop where
  pos : 0 < d
  cp : Cp n d
theorem fr_eq {n d p q : Int} (h1 : Fr n d) (h2 : Fr p q) (e : n * q = p * d) : n = p ∧ d = q := by
  have a : d ∣ q := h1.cp.symm.dvd (by rw [e]; exact Int.dvd_mul_left p d)
  have b : q ∣ d := h2.cp.symm.dvd (by rw [← e]; exact Int.dvd_mul_left n q)
  have c : d = q := Int.dvd_antisymm (Int.le_of_lt h1.pos) (Int.le_of_lt h2.pos) a b
  subst c
  exact ⟨Int.eq_of_mul_eq_mul_right (by have := h1.pos; omega) e, rfl⟩
theorem redI_fr {x y : Int} (h : y ≠ 0) : Fr (redI x y).1 (redI x y).2 ∧ (redI x y).1 * y = x * (redI x y).2 := by
  have g := gI_pos (a := x) h
  obtain ⟨⟨a, ha⟩, b, hb⟩ := gI_dvd x y
  have ex : x / gI x y = a := Int.ediv_eq_of_eq_mul_right (by omega) ha
  have ey : y / gI x y = b := Int.ediv_eq_of_eq_mul_right (by omega) hb
  have c := cp_div (a := x) h
  rw [ex, ey] at c
  have cross : a * y = x * b := by
    generalize gI x y = k at ha hb
    subst ha hb
    simp only [Int.mul_left_comm, Int.mul_comm]
  unfold redI
  rw [sh_eq h]
  by_cases hy : y < 0
  · rw [if_pos hy, Int.neg_ediv_of_dvd (gI_dvd x y).1, Int.neg_ediv_of_dvd (gI_dvd x y).2, ex, ey]
    refine ⟨⟨?_, ?_⟩, ?_⟩
    · show 0 < -b
      have : b < 0 := by
        rcases Int.lt_or_le b 0 with z | z
        · exact z
        · have := Int.mul_nonneg (Int.le_of_lt g) z
          omega
      omega
    · show Cp (-a) (-b)
      exact (c.neg.symm.neg).symm
    · show -a * y = x * -b
      rw [Int.neg_mul, Int.mul_neg, cross]
  · rw [if_neg hy, ex, ey]
    refine ⟨⟨?_, c⟩, cross⟩
    show 0 < b
    rcases Int.lt_or_le 0 b with z | z
    · exact z
    · have := Int.mul_nonneg (Int.le_of_lt g) (show 0 ≤ -b by omega)
      rw [Int.mul_neg] at this
      omega
theorem redI_eq {x y p q : Int} (h : y ≠ 0) (f : Fr p q) (e : x * q = p * y) : redI x y = (p, q) := by
  obtain ⟨h1, h2⟩ := redI_fr (x := x) h
  have key : (redI x y).1 * q = p * (redI x y).2 := by
    have e3 : ((redI x y).1 * q) * y = (p * (redI x y).2) * y := by
      calc ((redI x y).1 * q) * y = ((redI x y).1 * y) * q := by rw [Int.mul_assoc, Int.mul_comm q y, ← Int.mul_assoc]
        _ = (x * (redI x y).2) * q := by rw [h2]
        _ = (x * q) * (redI x y).2 := by rw [Int.mul_assoc, Int.mul_comm (redI x y).2 q, ← Int.mul_assoc]
        _ = (p * y) * (redI x y).2 := by rw [e]
        _ = (p * (redI x y).2) * y := by rw [Int.mul_assoc, Int.mul_comm y, ← Int.mul_assoc]
    exact Int.eq_of_mul_eq_mul_right h e3
  obtain ⟨a, b⟩ := fr_eq h1 f key
  exact Prod.ext a b
/-- the program's own sum is in lowest terms -/
theorem add_red {n d m e : Int} (h1 : Fr n d) (h2 : Fr m e) : redI (n * e + m * d) (d * e) =
    ((n * (e / gI d e) + m * (d / gI d e)) / gI (n * (e / gI d e) + m * (d / gI d e)) (gI d e), d / gI d e * (e / gI (n * (e / gI d e) + m * (d / gI d e)) (gI d e))) := by
  have he : e ≠ 0 := by have := h2.pos; omega
  have hd : d ≠ 0 := by have := h1.pos; omega
  have gp := gI_pos (a := d) he
  have hdvd := gI_dvd d e
  have hc := cp_div (a := d) he
  obtain ⟨d1, ed⟩ := hdvd.1
  obtain ⟨e1, ee⟩ := hdvd.2
  have qd : d / gI d e = d1 := Int.ediv_eq_of_eq_mul_right (by omega) ed
  have qe : e / gI d e = e1 := Int.ediv_eq_of_eq_mul_right (by omega) ee
  rw [qd, qe] at hc ⊢
  generalize hg : gI d e = c at *
  have hc0 : c ≠ 0 := by omega
  -- part and what it shares with c
  have lp := gI_pos (a := n * e1 + m * d1) hc0
  have ldv := gI_dvd (n * e1 + m * d1) c
  have lcp := cp_div (a := n * e1 + m * d1) hc0
  obtain ⟨p, ep⟩ := ldv.1
  obtain ⟨r, er⟩ := ldv.2
  have qp : (n * e1 + m * d1) / gI (n * e1 + m * d1) c = p := Int.ediv_eq_of_eq_mul_right (by omega) ep
  have qr : c / gI (n * e1 + m * d1) c = r := Int.ediv_eq_of_eq_mul_right (by omega) er
  rw [qp, qr] at lcp
  rw [qp]
  generalize hl : gI (n * e1 + m * d1) c = l at *
  have ee2 : e = l * (r * e1) := by rw [ee, er, Int.mul_assoc]
  have qe2 : e / l = r * e1 := Int.ediv_eq_of_eq_mul_right (by omega) ee2
  rw [qe2]
  have d1p : 0 < d1 := by
    have := h1.pos
    rcases Int.lt_or_le 0 d1 with z | z
    · exact z
    · have := Int.mul_nonneg (Int.le_of_lt gp) (show 0 ≤ -d1 by omega)
      rw [Int.mul_neg] at this
      omega
  have rp : 0 < r * e1 := by
    have := h2.pos
    rcases Int.lt_or_le 0 (r * e1) with z | z
    · exact z
    · have := Int.mul_nonneg (Int.le_of_lt lp) (show 0 ≤ -(r * e1) by omega)
      rw [Int.mul_neg] at this
      omega
  have pd : p ∣ n * e1 + m * d1 := by rw [ep]; exact Int.dvd_mul_left l p
  have c1 : Cp p d1 := ((Cp.add (k := m) ((h1.cp.right (by rw [ed]; exact Int.dvd_mul_left c d1)).mulL hc.symm)).left pd)
  have c2 : Cp p e1 := by
    refine Cp.left (a := m * d1 + n * e1) (Cp.add (k := n) ((h2.cp.right (by rw [ee]; exact Int.dvd_mul_left c e1)).mulL hc)) ?_
    rw [Int.add_comm]
    exact pd
  refine redI_eq (Int.mul_ne_zero hd he) ⟨Int.mul_pos d1p rp, c1.mul (lcp.mul c2)⟩ ?_
  have e4 : n * e + m * d = c * (l * p) := by
    rw [← ep]
    conv =>
      lhs
      rw [ee, ed]
    rw [Int.mul_add, Int.mul_left_comm, Int.mul_left_comm c m]
  rw [e4]
  conv =>
    rhs
    rw [ed, ee2]
  simp only [Int.mul_assoc, Int.mul_comm, Int.mul_left_comm]
/-- .. its product -/
theorem mul_red {n d m e : Int} (h1 : Fr n d) (h2 : Fr m e) : redI (n * m) (d * e) = (n / gI n e * (m / gI m d), d / gI m d * (e / gI n e)) := by
  have he : e ≠ 0 := by have := h2.pos; omega
  have hd : d ≠ 0 := by have := h1.pos; omega
  have g1 := gI_pos (a := n) he
  have g2 := gI_pos (a := m) hd
  have k1 := cp_div (a := n) he
  have k2 := cp_div (a := m) hd
  have v1 := gI_dvd n e
  have v2 := gI_dvd m d
  generalize gI n e = l at *
  generalize gI m d = r at *
  obtain ⟨n1, en⟩ := v1.1
  obtain ⟨e1, ee⟩ := v1.2
  obtain ⟨m1, em⟩ := v2.1
  obtain ⟨d1, ed⟩ := v2.2
  rw [Int.ediv_eq_of_eq_mul_right (by omega) en, Int.ediv_eq_of_eq_mul_right (by omega) ee] at *
  rw [Int.ediv_eq_of_eq_mul_right (by omega) em, Int.ediv_eq_of_eq_mul_right (by omega) ed] at *
  have d1p : 0 < d1 := by
    have := h1.pos
    rcases Int.lt_or_le 0 d1 with z | z
    · exact z
    · have := Int.mul_nonneg (Int.le_of_lt g2) (show 0 ≤ -d1 by omega)
      rw [Int.mul_neg] at this
      omega
  have e1p : 0 < e1 := by
    have := h2.pos
    rcases Int.lt_or_le 0 e1 with z | z
    · exact z
    · have := Int.mul_nonneg (Int.le_of_lt g1) (show 0 ≤ -e1 by omega)
      rw [Int.mul_neg] at this
      omega
  have n1n : n1 ∣ n := by rw [en]; exact Int.dvd_mul_left l n1
  have m1m : m1 ∣ m := by rw [em]; exact Int.dvd_mul_left r m1
  have d1d : d1 ∣ d := by rw [ed]; exact Int.dvd_mul_left r d1
  have e1e : e1 ∣ e := by rw [ee]; exact Int.dvd_mul_left l e1
  refine redI_eq (Int.mul_ne_zero hd he) ⟨Int.mul_pos d1p e1p, Cp.mulL (((h1.cp.left n1n).right d1d).mul k1) (k2.mul ((h2.cp.left m1m).right e1e))⟩ ?_
  conv =>
    lhs
    rw [en, em]
  conv =>
    rhs
    rw [ed, ee]
  simp only [Int.mul_assoc, Int.mul_comm, Int.mul_left_comm]
/-- // by what is not 0 -/
def CDivA (_ j : Int) : Prop := j ≠ 0 ∧ j.natAbs.log2 < 9000
theorem op_fdivA {X : Cx} : OpR X (binaryOp .FloorDiv) (rI CDivA fun i j => .int (i.fdiv j)) := opI fun _ _ _ _ _ _ _ hc q => floordiv_int hc.1 q (.inl (PyProof.noPylong_of_log2 hc.2))
theorem log_lt {j : Int} (h : j.natAbs < 2 ^ 8000) : j.natAbs.log2 < 9000 := Nat.lt_of_lt_of_le (PySem.Flt.log2_lt_of (by decide) h) (by decide)
theorem mulW {i j : Int} (h1 : i.natAbs < 2 ^ 8000) (h2 : j.natAbs < 2 ^ 8000) : CMulW i j := wide_mul h1 h2 (by decide) (by decide) (by decide)
theorem divW {i j : Int} (h0 : 0 < j) (h1 : j.natAbs < 2 ^ 8000) : CDivW i j := wide_div h0 h1 (by decide) (by decide)
theorem gI_le {a b : Int} (h : b ≠ 0) : (gI a b).natAbs ≤ b.natAbs := by
  unfold gI
  rw [Int.natAbs_natCast]
  exact Nat.le_of_dvd (by omega) (Nat.gcd_dvd_right _ _)
theorem div_le {a c : Int} : (a / c).natAbs ≤ a.natAbs := Int.natAbs_ediv_le_natAbs a c
theorem natAbs_lt_mul {i j : Int} {a b : Nat} (h1 : i.natAbs < 2 ^ a) (h2 : j.natAbs < 2 ^ b) : (i * j).natAbs < 2 ^ (a + b) := wide_lt h1 h2
theorem natAbs_lt_add {i j : Int} {a : Nat} (h1 : i.natAbs < 2 ^ a) (h2 : j.natAbs < 2 ^ a) : (i + j).natAbs < 2 ^ (a + 1) := by
  rw [Nat.pow_succ]
  omega
theorem red_fdiv {n d : Int} (h : d ≠ 0) : (n.fdiv (if d < 0 then -gI n d else gI n d), d.fdiv (if d < 0 then -gI n d else gI n d)) = redI n d := by
  have g := gI_pos (a := n) h
  obtain ⟨g1, g2⟩ := gI_dvd n d
  unfold redI
  rw [sh_eq h]
  by_cases hd : d < 0
  · rw [if_pos hd, if_pos hd, Int.fdiv_eq_ediv_of_dvd (Int.neg_dvd.mpr g1), Int.fdiv_eq_ediv_of_dvd (Int.neg_dvd.mpr g2), Int.ediv_neg, Int.ediv_neg, Int.neg_ediv_of_dvd g1, Int.neg_ediv_of_dvd g2]
  · rw [if_neg hd, if_neg hd, Int.fdiv_eq_ediv_of_dvd g1, Int.fdiv_eq_ediv_of_dvd g2]
/-- a couple of integers stands at v -/
def Cpl (K : PySem.W.Frag) (H : Hp) (v : V) (n d : Int) : Prop := ∃ a, v = .ref a ∧ SqT K H a [.int n, .int d]
theorem Cpl.same {K : PySem.W.Frag} {H H' : Hp} {v : V} {n d : Int} (h : Cpl K H v n d) (s : Same H H') : Cpl K H' v n d := by
  obtain ⟨a, rfl, r⟩ := h
  exact ⟨a, rfl, s.seqT r⟩
theorem Cpl.mk {K : PySem.W.Frag} {H : Hp} {p : Addr} {n d : Int} (h : H p = some (.tup [.int n, .int d])) : Cpl K H (.ref p) n d := ⟨p, rfl, .inl (.inl h)⟩
/-- a new couple -/
def Res (Q : VK) (H : Hp) (r : Int × Int) : Prop := ∀ p H', Same H H' → H p = none → H' p = some (.tup [.int r.1, .int r.2]) → Q (.ref p) H'
theorem Res.now {Q : VK} {H H' : Hp} {r : Int × Int} {x y : Int} (h : Res Q H r) (s : Same H H') (e : r = (x, y)) : ∀ p, H' p = none → Q (.ref p) (upd H' p (.tup [.int x, .int y])) := fun p np => by
  subst e
  refine h p _ (s.trans (same_upd np)) ?_ upd_same
  cases z : H p with
  | none => rfl
  | some o =>
    rw [s _ _ z] at np
    cases np
theorem redI_neg {x y : Int} (h : y ≠ 0) : redI (-x) (-y) = redI x y := by
  obtain ⟨f, e⟩ := redI_fr (x := x) h
  have z := redI_eq (x := -x) (y := -y) (p := (redI x y).1) (q := (redI x y).2) (by omega) f (by rw [Int.neg_mul, Int.mul_neg, e])
  rw [z]
theorem Fr.flip {n d : Int} (h : Fr n d) (p : 0 < n) : Fr d n := ⟨p, h.cp.symm⟩
theorem Fr.flipN {n d : Int} (h : Fr n d) (p : n < 0) : Fr (-d) (-n) := ⟨by omega, h.cp.neg.symm.neg⟩
theorem Fr.neg {n d : Int} (h : Fr n d) : Fr (-n) d := ⟨h.pos, h.cp.neg⟩
theorem redI_le {x y : Int} (h : y ≠ 0) : (redI x y).1.natAbs ≤ x.natAbs ∧ (redI x y).2.natAbs ≤ y.natAbs := by
  unfold redI
  split
  · refine ⟨?_, ?_⟩
    · have := div_le (a := -x) (c := sh x y)
      rw [Int.natAbs_neg] at this
      exact this
    · have := div_le (a := -y) (c := sh x y)
      rw [Int.natAbs_neg] at this
      exact this
  · exact ⟨div_le, div_le⟩
theorem Cpl.fut {K : PySem.W.Frag} {mu : Addr → Prop} {H H' : Hp} {v : V} {n d : Int} (h : Cpl K H v n d) (f : Fut mu H H') : Cpl K H' v n d := by
  obtain ⟨a, rfl, (r | ⟨o, r⟩) | r⟩ := h
  · exact ⟨a, rfl, .inl (.inl (f _ _ r (.inr (.inl ⟨_, rfl⟩))))⟩
  · exact ⟨a, rfl, .inl (.inr ⟨o, f _ _ r (.inr (.inr ⟨_, _, rfl⟩))⟩)⟩
  · exact ⟨a, rfl, .inr r⟩
theorem Cpl.dt {K : PySem.W.Frag} {mu : Addr → Prop} {H : Hp} {v : V} {n d : Int} (h : Cpl K H v n d) : Dt K mu H v (.tuple [.int n, .int d]) := by
  obtain ⟨a, rfl, (r | ⟨o, r⟩) | r⟩ := h
  · exact .tup (.inl r) (.cons (.int _) (.cons (.int _) .nil))
  · exact .tup (.inr ⟨o, r⟩) (.cons (.int _) (.cons (.int _) .nil))
  · exact .tupK r (.cons (.int _) (.cons (.int _) .nil))
theorem Dt.cpl {K : PySem.W.Frag} {mu : Addr → Prop} {H : Hp} {v : V} {n d : Int} (h : Dt K mu H v (.tuple [.int n, .int d])) : Cpl K H v n d := by
  obtain ⟨a, xs, rfl, r, ha⟩ := h.tupAt
  obtain ⟨x, y, p, q, rfl, e, h1, h2⟩ := ha.two rfl
  cases e
  cases h1
  cases h2
  exact ⟨a, rfl, r⟩
/-- a row of couples -/
def RowF (K : PySem.W.Frag) (H : Hp) : List V → List (Int × Int) → Prop
  | [], [] => True
  | v :: vs, f :: fs => Cpl K H v f.1 f.2 ∧ RowF K H vs fs
  | _, _ => False
theorem RowF.fut {K : PySem.W.Frag} {mu : Addr → Prop} {H H' : Hp} (f : Fut mu H H') : ∀ {vs : List V} {fs : List (Int × Int)}, RowF K H vs fs → RowF K H' vs fs
  | [], [], _ => True.intro
  | v :: vs, g :: fs, h => ⟨h.1.fut f, RowF.fut f h.2⟩
  | [], _ :: _, h => h.elim
  | _ :: _, [], h => h.elim
theorem RowF.same {K : PySem.W.Frag} {H H' : Hp} {vs : List V} {fs : List (Int × Int)} (h : RowF K H vs fs) (s : Same H H') : RowF K H' vs fs := h.fut (mu := fun _ => False) (.of_same s)
theorem RowF.len {K : PySem.W.Frag} {H : Hp} : ∀ {vs : List V} {fs : List (Int × Int)}, RowF K H vs fs → vs.length = fs.length
  | [], [], _ => rfl
  | v :: vs, g :: fs, h => by rw [List.length_cons, List.length_cons, RowF.len h.2]
  | [], _ :: _, h => h.elim
  | _ :: _, [], h => h.elim
theorem RowF.get {K : PySem.W.Frag} {H : Hp} : ∀ {vs : List V} {fs : List (Int × Int)} {i : Nat} {v : V}, RowF K H vs fs → vs[i]? = some v → ∃ f, fs[i]? = some f ∧ Cpl K H v f.1 f.2
  | [], [], _, _, _, e => by simp at e
  | x :: vs, g :: fs, 0, _, h, e => by
    simp at e
    subst e
    exact ⟨g, rfl, h.1⟩
  | x :: vs, g :: fs, i + 1, v, h, e => by
    obtain ⟨f, h1, h2⟩ := RowF.get (i := i) h.2 (by simpa using e)
    exact ⟨f, by simpa using h1, h2⟩
  | [], _ :: _, _, _, h, _ => h.elim
  | _ :: _, [], _, _, h, _ => h.elim
theorem RowF.getD {K : PySem.W.Frag} {H : Hp} {vs : List V} {fs : List (Int × Int)} {i : Nat} {f : Int × Int} (h : RowF K H vs fs) (e : fs[i]? = some f) : ∃ v, vs[i]? = some v ∧ Cpl K H v f.1 f.2 := by
  have hi : i < vs.length := by rw [h.len]; exact (List.getElem?_eq_some_iff.mp e).1
  obtain ⟨g, h1, h2⟩ := h.get (List.getElem?_eq_getElem hi)
  rw [e] at h1
  cases h1
  exact ⟨_, List.getElem?_eq_getElem hi, h2⟩
theorem RowF.ins {K : PySem.W.Frag} {H : Hp} {v : V} {g : Int × Int} (hv : Cpl K H v g.1 g.2) : ∀ {vs : List V} {fs : List (Int × Int)} (i : Nat), RowF K H vs fs → RowF K H (vs.take i ++ v :: vs.drop i) (fs.take i ++ g :: fs.drop i)
  | vs, fs, 0, h => ⟨hv, h⟩
  | [], [], i + 1, _ => ⟨hv, True.intro⟩
  | x :: vs, f :: fs, i + 1, h => ⟨h.1, RowF.ins hv i h.2⟩
  | [], _ :: _, _ + 1, h => h.elim
  | _ :: _, [], _ + 1, h => h.elim
theorem RowF.dt {K : PySem.W.Frag} {mu : Addr → Prop} {H : Hp} : ∀ {vs : List V} {fs : List (Int × Int)}, RowF K H vs fs → DtA K mu H vs (fs.map fun f => .tuple [.int f.1, .int f.2])
  | [], [], _ => .nil
  | v :: vs, g :: fs, h => .cons h.1.dt (RowF.dt h.2)
  | [], _ :: _, h => h.elim
  | _ :: _, [], h => h.elim
theorem fut_at {H : Hp} {a : Addr} {xs : List V} {o' : HO} (ha : H a = some (.lst xs)) : Fut (fun b => b = a) H (upd H a o') := fun c o e z => by
  have nb : c ≠ a := fun q => by
    rcases z with z | ⟨ys, rfl⟩ | ⟨ob, u, rfl⟩
    · exact z q
    · rw [q, ha] at e
      cases e
    · rw [q, ha] at e
      cases e
  rw [upd_ne nb]
  exact e
theorem shaped_cpl (a b : Int) : SeqAt.shaped (.tuple [.int a, .int b]) = true := by
  simp [SeqAt.shaped, PyData.canLay0, PyData.canLayAll0, PyData.depth, PyData.depthAll]
theorem eqv_cpl (a b c d : Int) : PyData.eqv (.tuple [.int a, .int b]) (.tuple [.int c, .int d]) = decide ((a, b) = (c, d)) := by
  simp only [PyData.eqv, PyData.eqvAll, Bool.and_true, Prod.mk.injEq]
  by_cases h1 : a = c <;> by_cases h2 : b = d <;> simp [h1, h2]
/-- what was not there at first may change as it likes -/
theorem Rel.at {b p : Addr} {H H' : Hp} {o : HO} (R : Rel b H H') (hb : BagAt H b) (np : H p = none) : Rel b H (upd H' p o) := by
  obtain ⟨x0, y0, z0, l0, cs0, hb0, hl0, _⟩ := id hb
  have npb : p ≠ b := fun z => by
    rw [z, hb0] at np
    cases np
  refine ⟨fun a u n e => ?_, fun l hL => ?_, ?_⟩
  · rw [upd_ne (ne_of_none e np)]
    exact R.keep a u n e
  · obtain ⟨x, y, z, e⟩ := R.cell l hL
    exact ⟨x, y, z, by rw [upd_ne npb.symm]; exact e⟩
  · obtain ⟨x, y, z, l, cs, q1, q2, q3, q4⟩ := R.bag
    have el : l0 = l := (R.cell l0 ⟨_, _, _, hb0⟩).eq q1
    have e : l ≠ p := fun e => by
      rw [el, e, np] at hl0
      cases hl0
    exact ⟨x, y, z, l, cs, by rw [upd_ne npb.symm]; exact q1, by rw [upd_ne e]; exact q2, q3, q4⟩
theorem RowF.snoc {K : PySem.W.Frag} {H : Hp} {v : V} {g : Int × Int} (hv : Cpl K H v g.1 g.2) : ∀ {vs : List V} {fs : List (Int × Int)}, RowF K H vs fs → RowF K H (vs ++ [v]) (fs ++ [g])
  | [], [], _ => ⟨hv, True.intro⟩
  | x :: vs, f :: fs, h => ⟨h.1, RowF.snoc hv h.2⟩
  | [], _ :: _, h => h.elim
  | _ :: _, [], h => h.elim
end Sw
/-! sep.join(reversed(a list of texts)). -/
namespace Sw
open PySem PySem.Spec PyProof.Rows L2
section
variable {prog : Program} {w : World} {A : Around} {E : Value → Shared → Prop} {s : Shared}
theorem join_rev {x : Str} {t : Tok} {it l : Addr} {items : Array Value} {ys : List Str} {Q : Value → Shared → Prop} (hh : A.handled = none) (hit : s.heap.IsRevIter it l ((items.size : Int) - 1)) (hl : s.heap.IsList l items) (hne : l ≠ it) (hn : items.size ≤ sizeLine)
    (hP : ∀ acc : Array Value, ItemsOf (fun i v => items[items.size - 1 - i]? = some v) acc items.size → StrsAre acc.toList ys) (hok : (ys.map (·.length)).sum + ys.length * x.length ≤ 16777216)
    (hq : ∀ (h' : Heap), (∀ b o, b ≠ it → s.heap.get? b = some o → h'.get? b = some o) → ∀ (t' : Tok) (k : Nat), Q (.str (Txt.join x ys) t') { s with heap := h', toks := k }) :
    wpAny (model prog w) A (call (.builtin "str.join") [.str x t, .ref it]) Q E s := by
  refine wpAny_call (codeAny_call_builtin F.slot_str_join.plain F.entry_str_join (F.slot_str_join.check _ _ _ _ _ _ _ _ (typeIs_str _ _ _) (F.args_str_join_2 _ _) ?_))
  rw [join_tree_other]
  refine wpAny_bind (wpAny_typeOf hit.typeIs ?_)
  show wpAny _ A.in1 ((pyIter (.ref it)).tryCatch _ >>= fun i => collect i >>= fun zs => joinTail x zs) _ _ s
  refine wpAny_bind (wpAny_tryCatch (wpAny_pyIter_revIter hit ?_))
  have hh1 : A.in1.handled = none := hh
  refine wpAny_bind (RT.collect_rev hh1 hit hl hne hn fun h' tk acc hk hacc => ?_)
  obtain ⟨zs, hz, ht⟩ := strsAre_values (hP acc hacc)
  subst ht
  rw [hz]
  have ok2 := joinOk_of hok
  unfold JoinOk at ok2
  rw [Bool.not_eq_true'] at ok2
  have g : Gives (joinTail x (strValues zs)) (joinMade x zs) := by
    rcases zs with _ | ⟨p, _ | ⟨q, r⟩⟩
    all_goals exact gives_joinTail x _ ok2
  exact g prog w A (wants Q E) _ (post_join zs ⟨joinFit_length ok2, hq h' hk⟩)
end
/-- sep.join(reversed(e)) -/
def tJoinRev (K : PySem.W.Frag) (x : Str) (te : TE) : TE := fun σ H Q => te σ H fun v H1 => ∃ (a : Addr) (ys : List Str), v = .ref a ∧ SqL K H1 a (ys.map V.str) ∧ (ys.map (·.length)).sum + ys.length * x.length ≤ 16777216 ∧ Q (.str (Txt.join x ys.reverse)) H1
theorem pe_joinRev {X : Cx} {x : Str} {e : Expr} {te : TE} {u0 : Nat} {pc0 apos pos p2 pos2 : Pos} (hc : X.calm = true) (hg2 : Gl X "reversed") (hm2 : X.mg "reversed" = none) (he : PE X e te)
    (hs : starEach [e] X.env = (false, eval e X.env) :: starEach [] X.env := by rfl)
    (hs2 : starEach [.Call (.Name "reversed" p2) [e] [] pos2] X.env = [(false, eval (.Call (.Name "reversed" p2) [e] [] pos2) X.env)] := by rfl)
    (hbase : attributeBase (.Constant (.str x) u0 pc0) "join" X.env (eval (.Constant (.str x) u0 pc0) X.env) = eval (.Constant (.str x) u0 pc0) X.env := by rfl) (hline : (apos.endLine == pos.line) = true := by rfl) :
    PE X (.Call (.Attribute (.Constant (.str x) u0 pc0) "join" apos) [.Call (.Name "reversed" p2) [e] [] pos2] [] pos) (tJoinRev X.K x te) := by
  refine ⟨fun pins s σ H Q I h => ?_⟩
  refine PySem.Call_method1 hbase hs2 hline (thn (pe_str.run pins s σ H (fun v H1 => v = .str x ∧ H1 = H) I ⟨rfl, rfl⟩) fun v s1 ⟨x1, H1, I1, r1, q1⟩ => ?_)
  obtain ⟨rfl, rfl⟩ := q1
  obtain ⟨t, rfl⟩ := _root_.id r1
  refine ⟨"str", _, F.plainAttrs_str, F.slot_str_join, F.type_str_join, typeIs_str _ _ _, (fun _ e => nomatch e), Calls.callWith_builtin rfl (Calls.evalArgs_plain (Calls.spliced_cons ?_))⟩
  refine Call_ (ld_blt I1 hg2 hm2 PyProof.Rows.boot_reversed (PyProof.Rows.callWith_type1 (args_cons (thn (he.run pins s1 σ H1 _ I1 h) fun u s2 ⟨v, H2, I2, r2, q2⟩ => args_nil ?_) hs) hs rfl))
  obtain ⟨a, ys, rfl, hq, hz, q⟩ := q2
  obtain rfl : u = Value.ref a := r2
  obtain ⟨its, rv, p', hsz⟩ := I2.list hq
  refine call_reversed_list p'.isList ?_
  have k0 : ∀ b o, s2.heap.get? b = some o → (s2.heap.push (revObj a ((its.toArray.size : Int) - 1))).get? b = some o := fun b o e => Heap.get?_push_of_some _ e
  have I3 : Inv X pins σ H2 { s2 with heap := s2.heap.push (revObj a ((its.toArray.size : Int) - 1)) } := I2.kept (t' := s2.toks) k0
  obtain ⟨f0, f1, f2, f3, f4, f5⟩ := I2.fpOk (H' := H2) (b := s2.heap.objs.size) (Nat.le_refl _) (I2.hok.fresh (Nat.le_refl _))
  have hl := p'.isList
  obtain ⟨ol, hol, _⟩ := id hl
  have hne : a ≠ s2.heap.objs.size := Nat.ne_of_lt (Heap.lt_size hol)
  have hn : its.toArray.size ≤ sizeLine := by rw [List.size_toArray, ← rv.length]; exact hsz
  refine Calls.spliced_nil ?_
  refine join_rev (s := { s2 with heap := s2.heap.push (revObj a ((its.toArray.size : Int) - 1)) }) (ys := ys.reverse) (I2.ok.hd hc) ⟨_, Heap.get?_push_size _ rfl, rfl, rfl⟩ (hl.push _) hne hn (fun acc hacc => ?_) ?_ fun h' hk t' k => ?_
  · have z := RT.vals_rev rv hacc
    rw [← List.map_reverse] at z
    exact strs_of_vals z
  · rw [List.map_reverse, List.sum_reverse, List.length_reverse]
    exact hz
  · exact ⟨.str _, H2, I3.turned (t' := k) (fun b o hb e => hk b o hb e) f0 f1 f3 f4 f5, ⟨t', rfl⟩, q⟩
end Sw
/-! Texts of integers, read. -/
namespace Sw
open PySem PySem.Spec PyProof.Rows L2

/-- behind one sign - -/
def stripL : List Nat → List Nat
  | 45 :: r => r
  | l => l
def digL (l : List Nat) : Bool := decide (0 < l.length) && l.all fun c => decide (48 ≤ c) && decide (c ≤ 57)
theorem digL_iff {l : List Nat} : digL l = true ↔ l ≠ [] ∧ NumText.AllDigits l := by
  unfold digL NumText.AllDigits
  rw [Bool.and_eq_true, decide_eq_true_eq, List.all_eq_true]
  refine and_congr ⟨fun h e => (by rw [e] at h; exact absurd h (by decide)), fun h => List.length_pos_iff.mpr h⟩ ⟨fun h c hc => ?_, fun h c hc => ?_⟩
  · have := h c hc
    rw [Bool.and_eq_true, decide_eq_true_eq, decide_eq_true_eq] at this
    exact this
  · rw [Bool.and_eq_true, decide_eq_true_eq, decide_eq_true_eq]
    exact h c hc
theorem dig_tab : ∀ c, c < 128 → Unicode.isDigit c = (decide (48 ≤ c) && decide (c ≤ 57)) := by decide +kernel
theorem dig_eq (l : List Nat) : (Txt.isascii ⟨l.toArray⟩ && Txt.isdigit ⟨l.toArray⟩) = digL l := by
  unfold Txt.isascii Txt.isdigit digL
  show (l.toArray.all _ && (decide (l.toArray.size > 0) && l.toArray.all _)) = _
  rw [List.all_toArray, List.all_toArray, List.size_toArray]
  have key : ∀ l : List Nat, (l.all (fun c => decide (c < 128)) && l.all Unicode.isDigit) = l.all fun c => decide (48 ≤ c) && decide (c ≤ 57) := by
    intro l
    induction l with
    | nil => rfl
    | cons c l ih =>
      rw [List.all_cons, List.all_cons, List.all_cons, ← ih]
      by_cases hc : c < 128
      · rw [dig_tab c hc, decide_eq_true hc]
        cases decide (48 ≤ c) <;> cases decide (c ≤ 57) <;> simp
      · rw [decide_eq_false hc, decide_eq_false (show ¬ c ≤ 57 by omega)]
        simp
  rw [← key l]
  cases decide (l.length > 0) <;> simp
/-- the integer that a text shows, if it is its own text -/
def valL (l : List Nat) : Int := match l with
  | 45 :: r => -((NumText.digitsVal r : Nat) : Int)
  | l => ((NumText.digitsVal l : Nat) : Int)
theorem strip_min (r : List Nat) : stripL (45 :: r) = r ∧ valL (45 :: r) = -((NumText.digitsVal r : Nat) : Int) := ⟨rfl, rfl⟩
theorem strip_no {l : List Nat} (h : ∀ r, l ≠ 45 :: r) : stripL l = l ∧ valL l = ((NumText.digitsVal l : Nat) : Int) := by
  unfold stripL valL
  refine ⟨?_, ?_⟩
  · split
    · rename_i r
      exact absurd rfl (h r)
    · rfl
  · split
    · rename_i r
      exact absurd rfl (h r)
    · rfl
theorem min_or (l : List Nat) : (∃ r, l = 45 :: r) ∨ ∀ r, l ≠ 45 :: r := by
  by_cases h : ∃ r, l = 45 :: r
  · exact .inl h
  · exact .inr fun r e => h ⟨r, e⟩
theorem int_reads {l : List Nat} (h : digL (stripL l) = true) (hl : (stripL l).length ≤ 40) : intText? ⟨l.toArray⟩ = some (valL l) ∧ l.length ≤ 41 := by
  rcases min_or l with ⟨r, rfl⟩ | hn
  · rw [(strip_min r).1] at h hl
    rw [(strip_min r).2]
    obtain ⟨h1, h2⟩ := digL_iff.mp h
    refine ⟨intText_neg (x := ⟨(45 :: r).toArray⟩) (cs := r) (by simp) h2 h1 ?_, by rw [List.length_cons]; omega⟩
    show (45 :: r).toArray.size ≤ 4300
    rw [List.size_toArray, List.length_cons]
    omega
  · rw [(strip_no hn).1] at h hl
    rw [(strip_no hn).2]
    obtain ⟨h1, h2⟩ := digL_iff.mp h
    refine ⟨intText_digits (x := ⟨l.toArray⟩) (by simpa using h2) (by simpa using h1) ?_, by omega⟩
    show l.toArray.size ≤ 4300
    rw [List.size_toArray]
    omega
def intL (l : List Nat) : Option Int := if digL (stripL l) = true ∧ (stripL l).length ≤ 40 ∧ (Str.ofString (toString (valL l))).cps.toList = l then some (valL l) else none
theorem removeprefix_min (l : List Nat) : Txt.removeprefix ⟨l.toArray⟩ "-" = ⟨(stripL l).toArray⟩ := by
  have em : ("-" : Str) = ⟨#[45]⟩ := by decide +kernel
  rw [em, PySem.StrLaws.removeprefix_eq]
  have e1 : (⟨#[45]⟩ : Str).length = 1 := rfl
  have e2 : (⟨l.toArray⟩ : Str).length = l.length := by
    show l.toArray.size = _
    rw [List.size_toArray]
  have e3 : (⟨l.toArray⟩ : Str).cps.toList = l := by simp
  have e4 : Builtin.Str.subAt ⟨l.toArray⟩ ⟨#[45]⟩ 0 = decide (l.take 1 = [45]) := by
    unfold Builtin.Str.subAt
    show (l.toArray.extract 0 (0 + 1) == #[45]) = _
    rw [show l.toArray.extract 0 (0 + 1) = (l.take 1).toArray by simp]
    rw [Bool.eq_iff_iff, beq_iff_eq, decide_eq_true_eq]
    exact ⟨fun h => by simpa using congrArg Array.toList h, fun h => by rw [h]⟩
  rw [e1, e2, e3, e4]
  rcases min_or l with ⟨r, rfl⟩ | hn
  · rw [(strip_min r).1, if_pos (by simp)]
    simp
  · rw [(strip_no hn).1, if_neg]
    rw [Bool.and_eq_true, decide_eq_true_eq, decide_eq_true_eq]
    rintro ⟨_, h⟩
    match l, h, hn with
    | c :: r, h, hn =>
      have : c = 45 := by simpa using h
      subst this
      exact hn r rfl
/-- a text, k times: only its length is told -/
def rRepS : R2 := fun x y H Q => ∃ (z : Str) (k : Int), x = .str z ∧ y = .int k ∧ 2 ≤ k ∧ k ≤ 1000 ∧ 1 ≤ z.length ∧ z.length ≤ 1000 ∧ ∀ r : Str, r.length = z.length * k.toNat → Q (.str r) H
theorem rep_size (c : Array Nat) : ∀ m : Nat, ((List.replicate m c).foldl (· ++ ·) #[]).size = c.size * m := fun m => by
  have key : ∀ (m : Nat) (a : Array Nat), ((List.replicate m c).foldl (· ++ ·) a).size = a.size + c.size * m := by
    intro m
    induction m with
    | zero =>
      intro a
      simp
    | succ m ih =>
      intro a
      rw [List.replicate_succ, List.foldl_cons, ih, Array.size_append, Nat.mul_succ]
      omega
  rw [key m #[]]
  simp
theorem op_repS {X : Cx} : OpR X (binaryOp .Mult) rRepS := by
  intro pins s σ H x y v u Q I rx ry h
  obtain ⟨z, k, rfl, rfl, k2, k1, z1, z2, q⟩ := h
  obtain ⟨t, rfl⟩ := rx
  obtain ⟨t', rfl⟩ := ry
  have hm : z.length * k.toNat ≤ 1000000 := Nat.le_trans (Nat.mul_le_mul z2 (show k.toNat ≤ 1000 by omega)) (by decide)
  have hc : (k == 1 || z.length == 0) = false := by
    rw [Bool.or_eq_false_iff, beq_eq_false_iff_ne, beq_eq_false_iff_ne]
    omega
  refine P.mul_str (by rw [decide_eq_false (by omega), decide_eq_false (by omega)]; rfl) (fun _ _ => ?_) (fun _ _ => ?_) ?_
  · have e : (1000 : Int) ≤ (2 ^ 63 - 1) / k := by
      rw [Int.le_ediv_iff_mul_le (by omega)]
      omega
    omega
  · unfold Builtin.Str.tooLong
    have sl := sizeLine_eq
    first
      | (rw [decide_eq_false]; omega)
      | (simp; omega)
  · rw [if_neg (by omega), if_neg (by rw [hc]; exact Bool.false_ne_true)]
    have hz : (⟨(List.replicate k.toNat z.cps).foldl (· ++ ·) #[]⟩ : Str).length = z.length * k.toNat := rep_size z.cps k.toNat
    refine ⟨?_, ⟨.str _, H, I.tok _, ⟨_, rfl⟩, q _ hz⟩⟩
    have sl := sizeLine_eq
    first
      | (rw [hz]; omega)
      | (show _ ≤ _; rw [hz]; omega)
end Sw
/-! A written text ahead gives a token. -/
namespace Sw
open PySem PySem.Spec PyProof.Rows L2
section
variable {X : Cx} {f e : Expr} {es : List Expr} {tf te : TE} {ta : TA} {c : Str} {j : Nat} {pc0 pos : Pos} {r : R2}
/-- [.., 'c' + f, ..]: behind it a token is out -/
theorem pa_lit (ho : OpR X (binaryOp .Add) r) (hf : PE X f tf) (hr : PAT X es ta) (hs : starEach (.BinOp (.Constant (.str c) j pc0) .Add f pos :: es) X.env = (false, eval (.BinOp (.Constant (.str c) j pc0) .Add f pos) X.env) :: starEach es X.env := by rfl) :
    PA X (.BinOp (.Constant (.str c) j pc0) .Add f pos :: es) (tCons (tOp r (tC (.str c)) tf) ta) := by
  refine ⟨fun pos' pins s σ H Q I h => ?_⟩
  rw [hs]
  show wpAny _ _ (spliced ((false, eval (.BinOp (.Constant (.str c) j pc0) .Add f pos) X.env) :: backTo pos' (starEach es X.env))) _ _ s
  refine Calls.spliced_cons ?_
  refine wpAny_BinOp (Calls.Constant_str ?_)
  refine wpAny_mono (PySem.wpAny_toks (hf.run pins _ σ H _ (I.tok (s.toks + 1)) h)) (fun u s2 q => ?_) fun _ _ z => z.2
  obtain ⟨hk, y, H1, I1, r1, q1⟩ := q
  have hk : s.toks + 1 ≤ s2.toks := hk
  refine wpAny_mono (PySem.wpAny_toks (ho pins s2 σ H1 (.str c) y _ u _ I1 ⟨s.toks, rfl⟩ r1 q1)) (fun v s3 q => ?_) fun _ _ z => z.2
  obtain ⟨hk2, x, H2, I2, r2, q2⟩ := q
  exact thn (hr pos' pins s3 σ H2 _ (by omega) I2 q2) fun us s4 ⟨xs, H3, I3, r3, q3⟩ => ⟨x :: xs, H3, I3, .cons r2 r3, q3⟩
/-- a part of a list behind a written one, which wants no token itself -/
theorem pat_of (he : PE X e te) (hr : PAT X es ta) (hs : starEach (e :: es) X.env = (false, eval e X.env) :: starEach es X.env := by rfl) : PAT X (e :: es) (tCons te ta) := pat_cons (CwR.PET.of he) hr hs
end
end Sw
/-! Lists beside the empty one; rules within a comprehension. -/
namespace Sw
open PySem PySem.Spec PyProof.Rows L2
def rNeNil (K : PySem.W.Frag) : R2 := fun x y H Q => ∃ p q xs, x = .ref p ∧ y = .ref q ∧ SqL K H p xs ∧ SqL K H q [] ∧ Q (.bl (!decide (xs = []))) H
def rEqNil (K : PySem.W.Frag) : R2 := fun x y H Q => ∃ p q xs, x = .ref p ∧ y = .ref q ∧ SqL K H p xs ∧ SqL K H q [] ∧ Q (.bl (decide (xs = []))) H
theorem op_neNil {X : Cx} {K : PySem.W.Frag} (hK : X.K = K) (hu : X.A.units + 64 < cLine) : OpR X (compareOp .NotEq) (rNeNil K) := by
  subst hK
  intro pins s σ H x y v u Q I rx ry h
  obtain ⟨p, q, xs, rfl, rfl, hp, hq, k⟩ := h
  cases rx
  cases ry
  obtain ⟨its, rv, p', hz⟩ := I.list hp
  obtain ⟨its2, rv2, p2, hz2⟩ := I.list hq
  cases rv2
  have hu' : X.A.units < cLine := by omega
  have hl := rv.length
  cases xs with
  | nil =>
    cases rv
    refine PySem.SeqAt.RcNeAt.lists (e := fun _ => true) p'.isList p2.isList rfl hu' (fun j h1 h2 => by simp at h1) X.prog X.w _ _ ⟨.bl _, H, I, rfl, k⟩
  | cons x xs =>
    refine PySem.SeqAt.RcNeAt.lists_lengths p'.isList p2.isList (by cases rv; simp) hu' X.prog X.w _ _ ⟨.bl _, H, I, rfl, ?_⟩
    simpa using k
theorem op_eqNil {X : Cx} {K : PySem.W.Frag} (hK : X.K = K) (hu : X.A.units + 64 < cLine) : OpR X (compareOp .Eq) (rEqNil K) := by
  subst hK
  intro pins s σ H x y v u Q I rx ry h
  obtain ⟨p, q, xs, rfl, rfl, hp, hq, k⟩ := h
  cases rx
  cases ry
  obtain ⟨its, rv, p', hz⟩ := I.list hp
  obtain ⟨its2, rv2, p2, hz2⟩ := I.list hq
  cases rv2
  have hu' : X.A.units < cLine := by omega
  have hl := rv.length
  cases xs with
  | nil =>
    cases rv
    refine PySem.SeqAt.RcAt.lists (e := fun _ => true) p'.isList p2.isList rfl hu' (fun j h1 h2 => by simp at h1) X.prog X.w _ _ ⟨.bl _, H, I, rfl, k⟩
  | cons x xs =>
    refine PySem.SeqAt.RcAt.lists_lengths p'.isList p2.isList (by cases rv; simp) hu' X.prog X.w _ _ ⟨.bl _, H, I, rfl, ?_⟩
    simpa using k
theorem call_lenK {X : Cx} {K : PySem.W.Frag} (hK : X.K = K) : CallR X (.builtin "len") (fun xs H Q => ∃ x n, xs = [x] ∧ LenV K x H n ∧ Q (V.int ((n : Nat) : Int)) H) := by
  subst hK
  exact call_lenA
end Sw
/-! Rules by a named heap of the top, for what stands within a comprehension; lcm; zip of tuples. -/
namespace Sw
open PySem PySem.Spec PyProof.Rows L2 StX RZ
section
variable {X : Cx} {K : PySem.W.Frag}
theorem ix_listK (hK : X.K = K) : IxR X (rIxL K) := by
  subst hK
  exact ix_list
theorem ix_tupK (hK : X.K = K) : IxR X (rIxT K) := by
  subst hK
  exact ix_tup
theorem sl_listK (hK : X.K = K) : SlR X (rSlL K) := by
  subst hK
  exact sl_list
theorem sl_tupAK (hK : X.K = K) : SlR X (rSlA K) := by
  subst hK
  exact sl_tupA
theorem op_catAK (hK : X.K = K) : OpR X (binaryOp .Add) (rCatA K) := by
  subst hK
  exact op_catA
theorem pi_listK {tg l : Expr} {tl : TE} (hK : X.K = K) (hl : PE X l tl) : PI X tg l (iList K tl) := by
  subst hK
  exact pi_list hl
theorem pi_tupK {tg l : Expr} {tl : TE} (hK : X.K = K) (hl : PE X l tl) : PI X tg l (iTup K tl) := by
  subst hK
  exact pi_tup hl
def rTupOf (K : PySem.W.Frag) : List V → Hp → VK → Prop := fun xs H Q => ∃ p ys, xs = [.ref p] ∧ ((SqL K H p ys ∧ ∀ l, H l = none → Q (.ref l) (upd H l (.tup ys))) ∨ (SqT K H p ys ∧ Q (.ref p) H))
theorem call_tupK (hK : X.K = K) : CallR X (.type "tuple") (rTupOf K) := by
  subst hK
  exact call_tuple_of
theorem pa_starK {e : Expr} {es : List Expr} {te : TE} {t : TA} {p : Pos} (hK : X.K = K) (he : PE X e te) (hr : PA X es t) (hs : starEach (.Starred e p :: es) X.env = (true, eval e X.env) :: starEach es X.env := by rfl) : PA X (.Starred e p :: es) (tStar K te t) := by
  subst hK
  exact pa_star he hr hs
def rLcm : List V → Hp → VK → Prop := fun vs H Q => ∃ a b : Int, vs = [.int a, .int b] ∧ 0 < a ∧ 0 < b ∧ a.natAbs < 2 ^ 3000 ∧ b.natAbs < 2 ^ 3000 ∧ Q (.int ((Nat.lcm a.natAbs b.natAbs : Nat) : Int)) H
theorem lcm_le_mul {a b : Nat} (hb : 0 < b) (ha : 0 < a) : Nat.lcm a b ≤ a * b := by
  unfold Nat.lcm
  exact Nat.div_le_self _ _
theorem cr_lcm : CallR X (.builtin "math.lcm") rLcm := by
  intro pins s σ H vs us Q I r h
  obtain ⟨a, b, rfl, ha0, hb0, ha, hb, q⟩ := h
  obtain ⟨t, u, rfl⟩ := Vals.int2 r
  have l1 : (max 1 a.natAbs).log2 < 3000 := PySem.Flt.log2_lt_of (by decide) (by
    rcases Nat.le_total 1 a.natAbs with z | z
    · rw [Nat.max_eq_right z]
      exact ha
    · omega)
  have l2 : (max a.natAbs b.natAbs).log2 < 3000 := PySem.Flt.log2_lt_of (by decide) (by
    rcases Nat.le_total a.natAbs b.natAbs with z | z
    · rw [Nat.max_eq_right z]
      exact hb
    · rw [Nat.max_eq_left z]
      exact ha)
  have e1 : Nat.lcm 1 a.natAbs = a.natAbs := Nat.lcm_one_left _
  have sz : ((((Nat.lcm 1 a.natAbs).lcm b.natAbs : Nat) : Int)).natAbs.log2 < bitsLine := by
    rw [e1, Int.natAbs_natCast]
    have h6 : Nat.lcm a.natAbs b.natAbs < 2 ^ (3000 + 3000) := by
      rw [Nat.pow_add]
      exact Nat.lt_of_le_of_lt (lcm_le_mul (by omega) (by omega)) (Nat.mul_lt_mul'' ha hb)
    exact Nat.lt_of_lt_of_le (PySem.Flt.log2_lt_of (by decide) h6) (by decide)
  have key := PySem.W.mg_run_lcm a t b u (by omega) (by omega) sz
  refine PySem.call_function_meets PySem.W.MGF.kind_lcm PySem.W.MGF.plain_lcm PySem.W.MGF.entry_lcm (PySem.W.MGF.args_lcm _ _) key.meets ?_
  refine ⟨.int _, H, I.tok _, ⟨_, rfl⟩, ?_⟩
  rw [e1]
  exact q
end
section
variable {K : PySem.W.Frag} {a b : Addr} {xs ys : List V}
theorem walk_zipT {n : Nat} (hn : n = min xs.length ys.length) : Walk (ItzT K a b) n (fun H => SqT K H a xs ∧ SqT K H b ys) (YPair (fun i => xs[i]?) (fun i => ys[i]?)) := by
  subst hn
  refine ⟨fun i _ hi q => ?_, fun _ q => ⟨xs, ys, q.1, q.2, by omega⟩, fun i H v H' _ q y => ?_⟩
  · have h1 : i < xs.length := by omega
    have h2 : i < ys.length := by omega
    exact ⟨xs, ys, xs[i], ys[i], q.1, q.2, by simp [h1], by simp [h2]⟩
  · obtain ⟨T, x, z, h1, h2, h3, h4, h5⟩ := y
    exact ⟨T, x, z, h1, h2, h3, h4 xs q.1, h5 ys q.2⟩
end
end Sw
/-! enumerate over a tuple. -/
namespace Sw
open PySem PySem.Spec PyProof.Rows L2
set_option maxHeartbeats 2000000 in
theorem enumB_new {v : Value} {o : Obj} {W : Heap → Prop} (B : Begins v o W) :
    Meets (Builtin.«enumerate.__new__» ⟨[.type "enumerate", v], []⟩) (fun _ R s => W s.heap ∧ R (.ok (.ret (.ref (s.heap.push o).objs.size)))
      { s with heap := (s.heap.push o).push { cls := .type "enumerate", data := .fields #[.none, .bool false, .ref s.heap.objs.size, rawInt 0, .none, .none] } }) := by
  refine .of_wp fun prog w A R s h => ?_
  obtain ⟨hp, gg, dd, tk, os⟩ := s
  obtain ⟨hW, hR⟩ := h
  have isub := sub_enumerate
  have step : ∀ {A2 : Around} {E2 : Value → Shared → Prop} {Q2 : Value → Shared → Prop}, Q2 (.ref hp.objs.size) ⟨hp.push o, gg, dd, tk, os⟩ → wpAny (model prog w) A2 (pyIter v) Q2 E2 ⟨hp, gg, dd, tk, os⟩ := fun z => B.iter prog w _ _ ⟨hp, gg, dd, tk, os⟩ _ hW z
  wp_walk using step
  refine wpAny_stack_any fun stk => wpAny_pure ?_
  split
  · rename_i c1 _ _ _ _ _
    cases (c1 == Value.type "enumerate") <;> (wp_walk using step; exact ⟨_, rfl, hR⟩)
  · wp_walk using step
    exact ⟨_, rfl, hR⟩
theorem call_enumB {prog : Program} {w : World} {A : Around} {E : Value → Shared → Prop} {s : Shared} {v : Value} {o : Obj} {W : Heap → Prop} {Q : Value → Shared → Prop} (B : Begins v o W) (hW : W s.heap)
    (k : ∀ h2, IsEnum h2 (s.heap.objs.size + 1) s.heap.objs.size 0 .none → h2.get? s.heap.objs.size = some o → (∀ b ob, s.heap.get? b = some ob → h2.get? b = some ob) → Q (.ref (s.heap.objs.size + 1)) { s with heap := h2 }) :
    wpAny (model prog w) A (call (.type "enumerate") [v]) Q E s := by
  refine callType_new F.called_enumerate (by decide) (F.typeCall_enumerate_1 _) (F.newCall_enumerate_1 _) (fun ob => F.args_object_init_2 ob _) F.entry_enumerate_new (enumB_new B) ⟨hW, ?_⟩
  have size1 : (s.heap.push o).objs.size = s.heap.objs.size + 1 := Heap.size_push ..
  show _ ∧ _
  rw [size1]
  have isE : IsEnum ((s.heap.push o).push { cls := .type "enumerate", data := .fields #[.none, .bool false, .ref s.heap.objs.size, rawInt 0, .none, .none] }) (s.heap.objs.size + 1) s.heap.objs.size 0 .none := by
    have z := Heap.get?_push_size (s.heap.push o) (o := { cls := .type "enumerate", data := .fields #[.none, .bool false, .ref s.heap.objs.size, rawInt 0, .none, .none] }) rfl
    rw [size1] at z
    exact z
  exact ⟨⟨_, isE, rfl⟩, k _ isE (Heap.get?_push_of_some _ (Heap.get?_push_size _ B.free)) fun b ob z => Heap.get?_push_of_some _ (Heap.get?_push_of_some _ z)⟩
/-- the tuple at a, each item in a new pair -/
def IteT (K : PySem.W.Frag) (a : Addr) : It where
  go i H := ∃ (xs : List V) (x : V), SqT K H a xs ∧ xs[i]? = some x
  yld i H v H' := ∃ T x, v = .ref T ∧ H T = none ∧ H' = upd H T (.tup [.int (i : Nat), x]) ∧ ∀ xs, SqT K H a xs → xs[i]? = some x
  stop i H := ∃ xs : List V, SqT K H a xs ∧ xs.length = i
theorem tup_ne_enum {h : Heap} {e it a : Addr} {i : Int} {old : Value} {its : Array Value} (he : IsEnum h e it i old) (ht : h.IsTuple a its) : a ≠ e := fun z => by
  obtain ⟨ob, e1, c1, _⟩ := ht
  have e2 : h.get? e = some _ := he
  rw [z, e2] at e1
  cases e1
  exact absurd (Value.type.inj c1) (by decide)
theorem tup_ne_iter {h : Heap} {it a t : Addr} {i : Nat} {its : Array Value} (hi : h.IsTupleIter it t i) (ht : h.IsTuple a its) : a ≠ it := fun z => by
  obtain ⟨ob, e1, c1, _⟩ := ht
  obtain ⟨ob2, e2, c2, _⟩ := hi
  rw [z, e2] at e1
  cases e1
  rw [c2] at c1
  exact absurd (Value.type.inj c1) (by decide)
theorem turn_enumT {P : Program} {w : World} {K : PySem.W.Frag} {elts : List Expr} {kk : Nat} {tpos : Pos} (a e it : Addr) :
    Turn P w K (.Tuple elts kk tpos) (IteT K a) [e, it] e (fun i h => (∃ old, IsEnum h e it ((i : Nat) : Int) old) ∧ h.IsTupleIter it a i ∧ e ≠ it) := by
  refine ⟨by simp, ?_, ?_, ?_, ?_, ?_⟩
  · rintro i h ⟨⟨old, he⟩, ⟨o, ho, _, hd⟩, _⟩ b hb
    rcases (show b = e ∨ b = it by simpa using hb) with rfl | rfl
    · exact ⟨_, he, fun v q => nomatch q⟩
    · exact ⟨o, ho, fun v q => by rw [hd] at q; cases q⟩
  · rintro i h h' ⟨⟨old, he⟩, hi, hne⟩ k
    exact ⟨⟨old, k e (by simp) _ he⟩, hi.at fun o q => k it (by simp) o q, hne⟩
  · intro X hP hw hK hc i pins s σ H E I hf st hg
    subst hP hw hK
    obtain ⟨⟨old, he⟩, hit, hne⟩ := st
    obtain ⟨xs, x, hq, hx⟩ := hg
    obtain ⟨its, rv, p, _⟩ := I.tuple hq
    obtain ⟨u, hu, ru⟩ := rv.get hx
    have p2 : s.heap.IsTuple a its.toArray := p
    have ae := tup_ne_enum he p2
    have ai := tup_ne_iter hit p2
    have hel : e < s.heap.objs.size := Heap.lt_size he
    have hu2 : its.toArray[i]? = some u := by simpa using hu
    have hil : i < its.toArray.size := (Array.getElem?_eq_some_iff.mp hu2).1
    have DD := Draws.tuple (prog := X.prog) (w := X.w) (A := X.A.in1) (I.ok.hd hc) it a ai its.toArray
    refine wpAny_pyNext_enum_itemD DD he ⟨hit, p2⟩ hil hne (by simp only [List.mem_cons, List.not_mem_nil, or_false, not_or]; exact ⟨hne, Ne.symm ae⟩) fun y h' tk hy ho hst hT hsz hk => ?_
    have ey : y = u := by
      rw [hu2] at hy
      exact (Option.some.inj hy).symm
    subst ey
    refine ⟨_, rfl, wpAny_letOwnedTupleGo_enum (s := { s with heap := h', toks := tk + 1 }) ho fun h3 he3 sb => ?_⟩
    have hT3 : h3.get? s.heap.objs.size = some { cls := .type "tuple", data := .seq #[.int i tk, y] } := by
      rw [← hT]
      exact sb.2 _ (Nat.ne_of_gt hel)
    have fresh : ObjOk X.prog X.w (upd H s.heap.objs.size (.tup [.int (i : Nat), x])) h3 s.heap.objs.size (.tup [.int (i : Nat), x]) :=
      ⟨by show 2 ≤ sizeLine; decide, [.int i tk, y], .cons ⟨_, rfl⟩ (.cons ru .nil), ⟨_, hT3, rfl, _, rfl⟩⟩
    have stay : ∀ b ob, b ∉ [e, it] → s.heap.get? b = some ob → h3.get? b = some ob := fun b ob hb q => by
      have b1 : b ≠ e := fun z => hb (by simp [z])
      have b2 : b ≠ it := fun z => hb (by simp [z])
      rw [sb.2 b b1]
      exact hk b ob b1 b2 q
    have I1 : Inv X pins σ (upd H s.heap.objs.size (.tup [.int (i : Nat), x])) { s with heap := h3, toks := tk + 1 } := I.turnedNew (ch := [e, it]) stay hf (Nat.le_refl _) fresh
    refine ⟨.ref s.heap.objs.size, _, I1, rfl, ⟨_, x, rfl, I.hok.fresh (Nat.le_refl _), rfl, fun ys hy => by rw [I.tuple_inj hy hq]; exact hx⟩, ⟨⟨y, ?_⟩, hst.1.at fun ob q => (sb.2 it (Ne.symm hne)).trans q, hne⟩, fun b hb => ?_⟩
    · rw [show ((i + 1 : Nat) : Int) = (i : Int) + 1 by omega]
      exact he3
    · have hb2 : b < s.heap.objs.size := by
        rcases (show b = e ∨ b = it by simpa using hb) with rfl | rfl
        · exact hel
        · obtain ⟨ob, q, _⟩ := hit
          exact Heap.lt_size q
      rw [upd_ne (Nat.ne_of_lt hb2)]
      exact (hf b hb).1
  · intro X hP hw hK hc i pins s σ H E I hf st hg
    subst hP hw hK
    obtain ⟨⟨old, he⟩, hit, hne⟩ := st
    obtain ⟨xs, hq, hx⟩ := hg
    obtain ⟨its, rv, p, _⟩ := I.tuple hq
    have p2 : s.heap.IsTuple a its.toArray := p
    obtain ⟨f0, f1, f2, f3, f4, f5⟩ := hf it (by simp)
    have DD := Draws.tuple (prog := X.prog) (w := X.w) (A := X.A.in1) (I.ok.hd hc) it a (tup_ne_iter hit p2) its.toArray
    have en : i = its.toArray.size := by
      have := rv.length
      rw [List.size_toArray]
      omega
    rw [en] at hit
    exact wpAny_pyNext_enum_endD DD he ⟨hit, p2⟩ fun h' eb => ⟨rfl, I.turned (t' := s.toks) (fun b o hb q => eb b o hb q) f0 f1 f3 f4 f5⟩
  · rintro A i s Q E ⟨⟨_, he⟩, _⟩ h
    exact wpAny_pyIter_enum he h
def iEnumT (K : PySem.W.Frag) (ta : TA) : TI := fun σ H R => ta σ H fun vs H1 => ∃ a xs, vs = [.ref a] ∧ SqT K H1 a xs ∧ R (IteT K a) H1
theorem pi_enumT {X : Cx} {e : Expr} {ta : TA} {p pos tpos : Pos} {elts : List Expr} {kk : Nat} (hg : Gl X "enumerate") (hm : X.mg "enumerate" = none) (ha : PA X [e] ta) (hs : starEach [e] X.env = [(false, eval e X.env)] := by rfl) :
    PI X (.Tuple elts kk tpos) (.Call (.Name "enumerate" p) [e] [] pos) (iEnumT X.K ta) := by
  constructor
  intro pins s σ H R I h
  refine Call_ (ld_blt I hg hm boot_enumerate (PyProof.Rows.callWith_type1 (thn (ha.run pos pins s σ H _ I h) fun us s1 ⟨vs, H1, I1, r1, a, xs, ex, hq, q⟩ => ?_) hs rfl))
  subst ex
  obtain ⟨u, rfl, r2⟩ := vals1 r1
  cases r2
  obtain ⟨its, rv, pl, _⟩ := I1.tuple hq
  have p2 : s1.heap.IsTuple a its.toArray := pl
  refine call_enumB (begins_tuple a its.toArray) p2 fun h2 he ho hk => wpAny_pyIter_enum he ?_
  have I2 : Inv X pins σ H1 { s1 with heap := h2 } := I1.kept (t' := s1.toks) hk
  refine ⟨s1.heap.objs.size + 1, [s1.heap.objs.size + 1, s1.heap.objs.size], _, _, H1, rfl, I2, turn_enumT a (s1.heap.objs.size + 1) s1.heap.objs.size, ⟨⟨.none, he⟩, ⟨_, ho, rfl, rfl⟩, Nat.succ_ne_self _⟩, fun b hb => ?_, q⟩
  have le : s1.heap.objs.size ≤ b := by
    rcases (show b = s1.heap.objs.size + 1 ∨ b = s1.heap.objs.size by simpa using hb) with z | z
    · exact z ▸ Nat.le_succ _
    · exact z ▸ Nat.le_refl _
  exact I1.fpOk le (I1.hok.fresh le)
theorem walk_enumT {K : PySem.W.Frag} {a : Addr} {xs : List V} : Walk (IteT K a) xs.length (fun H => SqT K H a xs) (YPair (fun i => some (.int (i : Nat))) (fun i => xs[i]?)) := by
  refine ⟨fun i H hi q => ⟨xs, xs[i], q, by simp [hi]⟩, fun H q => ⟨xs, q, rfl⟩, fun i H v H' hi q y => ?_⟩
  obtain ⟨T, x, h1, h2, h3, h4⟩ := y
  exact ⟨T, .int (i : Nat), x, h1, h2, h3, rfl, h4 xs q⟩
end Sw
/-! Any datum beside a text: ==, not in. -/
namespace Sw
open PySem PySem.Spec PyProof.Rows L2 PySem.SeqAt
open AutoSeq1 (wpAny_loadPart')
theorem dict_eq_declines_str (l : Addr) (c : Value) (es : Array DictEntry) (ep : Nat) (b : Str) (u : Tok) :
    Meets (Builtin.«dict.__eq__» ⟨[.ref l, .str b u], []⟩) (fun _ R s => s.heap.get? l = some { cls := .type "dict", dict := none, data := .dict es ep, slots := #[] } ∧ R (.ok (.ret .notImplemented)) s) :=
  .of_wp fun prog w A R s h => by obtain ⟨hp, g, d, tk, os⟩ := s; obtain ⟨hl, h⟩ := h; have f1 := F.sub_str_dict; wp_walk using wpAny_loadPart' hl, wpAny_load hl; exact ⟨_, rfl, h⟩
theorem str_eq_declines_dict (b : Str) (u : Tok) (l : Addr) (es : Array DictEntry) (ep : Nat) :
    Meets (Builtin.«str.__eq__» ⟨[.str b u, .ref l], []⟩) (fun _ R s => s.heap.get? l = some { cls := .type "dict", dict := none, data := .dict es ep, slots := #[] } ∧ R (.ok (.ret .notImplemented)) s) :=
  .of_wp fun prog w A R s h => by obtain ⟨hp, g, d, tk, os⟩ := s; obtain ⟨hl, h⟩ := h; wp_walk using wpAny_loadPart' hl, wpAny_load hl; exact ⟨_, rfl, h⟩
section
variable {A : Around} {s : Shared}
theorem rcAt_dict_str {l : Addr} {o : Obj} {es : Array DictEntry} {ep : Nat} (b : Str) (u : Tok) (ho : s.heap.get? l = some o) (hx : o.ExactDict) (hd : o.data = .dict es ep) (hu : A.units < cLine) : RcAt A s (.ref l) (.str b u) false := fun prog w E Q h => by
  obtain ⟨cls, dd, data, sl⟩ := o
  obtain ⟨h1, h2, h3⟩ := hx
  simp only at h1 h2 h3 hd
  subst h1 h2 h3 hd
  exact rc_eq_decline_or (k := false) ⟨_, ho, rfl⟩ (typeIs_str s b u) (by decide) F.sub_str_dict F.slot_dict_eq F.slot_str_eq_refl
    (fun _ hq => call_meets F.slot_dict_eq ⟨_, ho, rfl⟩ F.entry_dict_eq (F.args_dict_eq_2 _ _) (dict_eq_declines_str l (.type "dict") es ep b u) ⟨ho, hq⟩)
    (fun _ hq => call_meets F.slot_str_eq_refl (typeIs_str s b u) F.entry_str_eq (F.args_str_eq_2 _ _) (str_eq_declines_dict b u l es ep) ⟨ho, hq⟩)
    (fun _ hq => wpAny_of_eq (rfl : isSame (.ref l) (.str b u) = pure false) hq) (.inr hu) h
theorem rcAt_str_dict {l : Addr} {o : Obj} {es : Array DictEntry} {ep : Nat} (b : Str) (u : Tok) (ho : s.heap.get? l = some o) (hx : o.ExactDict) (hd : o.data = .dict es ep) (hu : A.units < cLine) : RcAt A s (.str b u) (.ref l) false := fun prog w E Q h => by
  obtain ⟨cls, dd, data, sl⟩ := o
  obtain ⟨h1, h2, h3⟩ := hx
  simp only at h1 h2 h3 hd
  subst h1 h2 h3 hd
  exact rc_eq_decline_or (k := false) (typeIs_str s b u) ⟨_, ho, rfl⟩ (by decide) F.sub_dict_str F.slot_str_eq F.slot_dict_eq_refl
    (fun _ hq => call_meets F.slot_str_eq (typeIs_str s b u) F.entry_str_eq (F.args_str_eq_2 _ _) (str_eq_declines_dict b u l es ep) ⟨ho, hq⟩)
    (fun _ hq => call_meets F.slot_dict_eq_refl ⟨_, ho, rfl⟩ F.entry_dict_eq (F.args_dict_eq_2 _ _) (dict_eq_declines_str l (.type "dict") es ep b u) ⟨ho, hq⟩)
    (fun _ hq => wpAny_of_eq (rfl : isSame (.str b u) (.ref l) = pure false) hq) (.inr hu) h
theorem eqAt_str_dict {l : Addr} {o : Obj} {es : Array DictEntry} {ep : Nat} (b : Str) (u : Tok) (ho : s.heap.get? l = some o) (hx : o.ExactDict) (hd : o.data = .dict es ep) (hu : A.units < cLine) : EqAt A s (.str b u) (.ref l) false := fun prog w E Q h => by
  unfold eqBool
  refine wpAny_holding ?_
  refine wpAny_ite_split (fun hab => absurd (eq_of_beq hab) nofun) (fun _ => ?_)
  exact wpAny_bind (rcAt_str_dict b u ho hx hd hu prog w E _ (wpAny_truthy_bool h))
end
/-- the datum is this text -/
def isS (z : Str) : PyData → Bool
  | .str x => decide (x = z)
  | _ => false
def isSin (zs : List Str) : PyData → Bool
  | .str x => decide (x ∈ zs)
  | _ => false
def rEqS (K : PySem.W.Frag) : R2 := fun x y H Q => ∃ mu d z, Dt K mu H x d ∧ y = .str z ∧ Q (.bl (isS z d)) H
def rNotInS (K : PySem.W.Frag) : R2 := fun x y H Q => ∃ mu d zs p, Dt K mu H x d ∧ y = .ref p ∧ SqT K H p (zs.map V.str) ∧ Q (.bl (!isSin zs d)) H
section
variable {X : Cx} {K : PySem.W.Frag}
theorem op_eqS (hK : X.K = K) (hu : X.A.units + 64 < cLine) : OpR X (compareOp .Eq) (rEqS K) := by
  subst hK
  intro pins s σ H x y v u Q I rx ry h
  obtain ⟨mu, d, z, hd, rfl, q⟩ := h
  have hu' : X.A.units < cLine := by omega
  have sc := fun (a : scal x (.str z) = true) (b : Q (.bl (decide (x = V.str z))) H) => op_eq pins s σ H x (.str z) v u Q I rx ry ⟨a, b⟩
  cases hd with
  | non => exact sc rfl q
  | bl b => exact sc rfl q
  | int i => exact sc rfl q
  | str w =>
    refine sc rfl ?_
    rw [show decide (V.str w = V.str z) = decide (w = z) by rw [Bool.eq_iff_iff]; simp]
    exact q
  | lst _ rd _ =>
    cases rx
    obtain ⟨t, rfl⟩ := ry
    obtain ⟨its, rv, p, _⟩ := I.list (Rd.sqL rd)
    exact RcAt.list_str z t p.isList hu' X.prog X.w _ _ ⟨.bl _, H, I, rfl, q⟩
  | tup rd _ =>
    cases rx
    obtain ⟨t, rfl⟩ := ry
    obtain ⟨its, rv, p, _⟩ := I.tuple (Rd.sqT rd)
    exact RcAt.tuple_str z t p hu' X.prog X.w _ _ ⟨.bl _, H, I, rfl, q⟩
  | tupK rd _ =>
    cases rx
    obtain ⟨t, rfl⟩ := ry
    obtain ⟨its, rv, p, _⟩ := I.tuple (KTup.sqT rd)
    exact RcAt.tuple_str z t p hu' X.prog X.w _ _ ⟨.bl _, H, I, rfl, q⟩
  | @dct a kvs _ _ rd _ =>
    cases rx
    obtain ⟨t, rfl⟩ := ry
    have zo : ObjOk X.prog X.w H s.heap a (.dK kvs) := rd.ok I.hok
    obtain ⟨_, _, vs, rel, o, es, ep, ho, hx, hdd, _⟩ := zo
    exact rcAt_dict_str z t ho hx hdd hu' X.prog X.w _ _ ⟨.bl _, H, I, rfl, q⟩
/-- which of the texts -/
def eqS (d : PyData) : Value → Bool
  | .str z _ => isS z d
  | _ => false
theorem op_notInT (hK : X.K = K) (hu : X.A.units + 64 < cLine) : OpR X (compareOp .NotIn) (rNotInS K) := by
  subst hK
  intro pins s σ H x y v u Q I rx ry h
  obtain ⟨mu, d, zs, p, hd, rfl, hp, q⟩ := h
  cases ry
  obtain ⟨its, rv, pl, hz⟩ := I.tuple hp
  have hu' : X.A.in1.units < cLine := by
    have : X.A.in1.units = X.A.units + 1 := rfl
    omega
  have it : ∀ y ∈ its, ∃ z t, y = Value.str z t := by
    intro y hy
    obtain ⟨i, hi, e⟩ := List.getElem_of_mem hy
    have hl := rv.length
    obtain ⟨y2, e2, r2⟩ := rv.get (show (zs.map V.str)[i]? = some (V.str (zs[i]'(by rw [List.length_map] at hl; omega))) by
      rw [List.getElem?_map, List.getElem?_eq_getElem (by rw [List.length_map] at hl; omega)]
      rfl)
    rw [List.getElem?_eq_getElem hi, e] at e2
    cases e2
    obtain ⟨t, rfl⟩ := r2
    exact ⟨_, t, rfl⟩
  have an : its.any (eqS d) = isSin zs d := by
    have key : ∀ {zs : List Str} {us : List Value}, Vals (zs.map V.str) us → us.any (eqS d) = isSin zs d := by
      intro zs
      induction zs with
      | nil =>
        intro us r
        cases r
        cases d <;> rfl
      | cons z zs ih =>
        intro us r
        cases r with
        | cons r1 r2 =>
          obtain ⟨t, rfl⟩ := r1
          rw [List.any_cons, ih r2]
          show (isS z d || isSin zs d) = isSin (z :: zs) d
          cases d with
          | str w =>
            show (decide (w = z) || decide (w ∈ zs)) = decide (w ∈ z :: zs)
            rw [Bool.eq_iff_iff]
            simp
          | _ => rfl
    exact key rv
  refine notIn_tupleAt (eqS d) pl (fun y hy => ?_) ⟨.bl _, H, I, rfl, ?_⟩
  · obtain ⟨z, t, rfl⟩ := it y (by simpa using hy)
    show EqAt X.A.in1 s (.str z t) v (isS z d)
    cases hd with
    | non =>
      cases rx
      exact EqAt.str_none z t
    | bl b =>
      cases rx
      exact EqAt.str_bool z t b
    | int i =>
      obtain ⟨t2, rfl⟩ := rx
      exact EqAt.str_int z t i t2
    | str w =>
      obtain ⟨t2, rfl⟩ := rx
      have e := EqAt.str_str (A := X.A.in1) (s := s) z t w t2
      have e2 : isS z (.str w) = (z == w) := by
        show decide (w = z) = (z == w)
        rw [Bool.eq_iff_iff, decide_eq_true_eq, beq_iff_eq]
        exact ⟨Eq.symm, Eq.symm⟩
      rw [e2]
      exact e
    | lst _ rd _ =>
      cases rx
      obtain ⟨its, rv, p, _⟩ := I.list (Rd.sqL rd)
      exact EqAt.str_list z t p.isList hu'
    | tup rd _ =>
      cases rx
      obtain ⟨its, rv, p, _⟩ := I.tuple (Rd.sqT rd)
      exact EqAt.str_tuple z t p hu'
    | tupK rd _ =>
      cases rx
      obtain ⟨its, rv, p, _⟩ := I.tuple (KTup.sqT rd)
      exact EqAt.str_tuple z t p hu'
    | @dct a kvs _ _ rd _ =>
      cases rx
      have zo : ObjOk X.prog X.w H s.heap a (.dK kvs) := rd.ok I.hok
      obtain ⟨_, _, vs, rel, o, es, ep, ho, hx, hdd, _⟩ := zo
      exact eqAt_str_dict z t ho hx hdd hu'
  · rw [List.any_toArray, an]
    exact q
end
end Sw
/-! A tuple beside the empty one. -/
namespace Sw
open PySem PySem.Spec PyProof.Rows L2
def rNeNilT (K : PySem.W.Frag) : R2 := fun x y H Q => ∃ p q xs, x = .ref p ∧ y = .ref q ∧ SqT K H p xs ∧ SqT K H q [] ∧ Q (.bl (!decide (xs = []))) H
def rEqNilT (K : PySem.W.Frag) : R2 := fun x y H Q => ∃ p q xs, x = .ref p ∧ y = .ref q ∧ SqT K H p xs ∧ SqT K H q [] ∧ Q (.bl (decide (xs = []))) H
theorem nil_len {xs : List V} {its : List Value} (rv : Vals xs its) : (its.toArray.size == (#[] : Array Value).size) = decide (xs = []) := by
  have := rv.length
  rw [List.size_toArray, Bool.eq_iff_iff, beq_iff_eq, decide_eq_true_eq]
  show its.length = 0 ↔ _
  rw [← this]
  exact List.length_eq_zero_iff
theorem op_neNilT {X : Cx} {K : PySem.W.Frag} (hK : X.K = K) (hu : X.A.units + 64 < cLine) : OpR X (compareOp .NotEq) (rNeNilT K) := by
  subst hK
  intro pins s σ H x y v u Q I rx ry h
  obtain ⟨p, q, xs, rfl, rfl, hp, hq, k⟩ := h
  cases rx
  cases ry
  obtain ⟨its, rv, p', hz⟩ := I.tuple hp
  obtain ⟨its2, rv2, p2, hz2⟩ := I.tuple hq
  cases rv2
  have hu' : X.A.units < cLine := by omega
  refine PySem.SeqAt.RcNeAt.tuples (e := fun _ => true) p' p2 hu' (fun j h1 h2 => absurd h2 (by simp)) X.prog X.w _ _ ⟨.bl _, H, I, rfl, ?_⟩
  rw [nil_len rv]
  simpa using k
theorem op_eqNilT {X : Cx} {K : PySem.W.Frag} (hK : X.K = K) (hu : X.A.units + 64 < cLine) : OpR X (compareOp .Eq) (rEqNilT K) := by
  subst hK
  intro pins s σ H x y v u Q I rx ry h
  obtain ⟨p, q, xs, rfl, rfl, hp, hq, k⟩ := h
  cases rx
  cases ry
  obtain ⟨its, rv, p', hz⟩ := I.tuple hp
  obtain ⟨its2, rv2, p2, hz2⟩ := I.tuple hq
  cases rv2
  have hu' : X.A.units < cLine := by omega
  refine PySem.SeqAt.RcAt.tuples (e := fun _ => true) p' p2 hu' (fun j h1 h2 => absurd h2 (by simp)) X.prog X.w _ _ ⟨.bl _, H, I, rfl, ?_⟩
  rw [nil_len rv]
  simpa using k
theorem extend_tup (l : Addr) (items : Array Value) (n : Nat) (b : Addr) (items2 : Array Value) (n2 : Nat) (dd : Option Addr) (sl : Array (Option Value)) (hs0 : ¬(!items.isEmpty && Builtin.List.listTooLong (items.size + items2.size)) = true) (hs1 : items.size ≤ sizeLine) (hs2 : items.size + items2.size ≤ sizeLine + 1) :
    Meets (Builtin.«list.extend» ⟨[.ref l, .ref b], []⟩) (fun _ R s => s.heap.get? l = some { cls := .type "list", dict := none, data := .seq items n, slots := #[] } ∧ s.heap.get? b = some { cls := .type "tuple", dict := dd, data := .seq items2 n2, slots := sl } ∧ R (.ok (.ret Value.none)) { s with heap := s.heap.update l (Obj.mapSeq fun x => x ++ items2), toks := s.toks }) :=
  .of_wp fun prog w A R s h => by
    obtain ⟨hp, g, d, tk, os⟩ := s; obtain ⟨hl, hb, h⟩ := h; have f1 := AutoSeq1.idx_int; have f2 := AutoSeq1.sub_tuple_tuple; have f3 := AutoSeq1.sub_list_list; have f4 := AutoSeq1.sub_tuple_list; have f5 := AutoSeq1.sub_list_tuple;
    have hz' : (items ++ items2).size ≤ sizeLine + 1 := by rw [Array.size_append]; exact hs2
    wp_walk using (wpAny_updateSeq hl rfl (hz := hs1) (_hz' := hz')), AutoSeq1.wpAny_loadPart' hl, AutoSeq1.wpAny_loadPart' hb; exact ⟨_, rfl, h⟩
def rExtT (K : PySem.W.Frag) : V → List V → Hp → VK → Prop := fun x vs H Q => ∃ l b xs zs, x = .ref l ∧ vs = [.ref b] ∧ H l = some (.lst xs) ∧ SqT K H b zs ∧ xs.length + zs.length ≤ sizeLine ∧ Q .non (upd H l (.lst (xs ++ zs)))
theorem mt_extendT {X : Cx} {K : PySem.W.Frag} (hK : X.K = K) : MtM X "list.extend" (rExtT K) := by
  subst hK
  intro pins s σ H x vs v us Q I rx rv h
  obtain ⟨l, b, xs, zs, rfl, rfl, hH, hB, hz, q⟩ := h
  cases rx
  obtain ⟨u, rfl, ru⟩ := rv.one
  cases ru
  obtain ⟨z, its, n, r, hl, e⟩ := I.lstM hH
  obtain ⟨its2, r2, ⟨⟨cls, dd, data, sl⟩, e2, hc, n2, hd⟩, _⟩ := I.tuple hB
  simp only at hc hd
  subst hc hd
  have hl2 := r2.length
  have hsz : its.toArray.size + its2.toArray.size ≤ sizeLine := by rw [List.size_toArray, List.size_toArray]; omega
  have hlong : ¬ (!its.toArray.isEmpty && Builtin.List.listTooLong (its.toArray.size + its2.toArray.size)) = true := by
    rw [notLongL hsz, Bool.and_false]
    exact Bool.false_ne_true
  refine call_meets F.slot_list_extend ⟨_, e, rfl⟩ F.entry_list_extend (F.args_list_extend_2 _ _)
    (extend_tup l its.toArray n b its2.toArray n2 dd sl hlong (by rw [List.size_toArray]; omega) (by omega)) ⟨e, e2, ?_⟩
  refine ⟨.non, _, I.lset (its' := its ++ its2) hH e (by simp) (r.append r2) ?_, rfl, q⟩
  rw [List.length_append]
  omega
theorem mt_extT {X : Cx} : MtR X "list.extend" (rExtT X.K) := mt_extendT rfl
end Sw
/-! zip of a text and a tuple; dict.update. -/
namespace Sw
open PySem PySem.Spec PyProof.Rows L2
def ItST (K : PySem.W.Frag) (x : Str) (b : Addr) : It where
  go i H := ∃ (ys : List V) (c : Nat) (y : V), SqT K H b ys ∧ x.cps[i]? = some c ∧ ys[i]? = some y
  yld i H v H' := ∃ T c y, v = .ref T ∧ H T = none ∧ H' = upd H T (.tup [.str ⟨#[c]⟩, y]) ∧ x.cps[i]? = some c ∧ ∀ ys, SqT K H b ys → ys[i]? = some y
  stop i H := ∃ ys : List V, SqT K H b ys ∧ (i = x.cps.size ∨ i = ys.length) ∧ i ≤ x.cps.size ∧ i ≤ ys.length
theorem turn_zipST {P : Program} {w : World} {K : PySem.W.Frag} {elts : List Expr} {kk : Nat} {tpos : Pos} {x : Str} {t : Tok} {b z TI TO i1 i2 : Addr} (D : ZipSep2 z TI TO i1 i2 [i1] [i2, b]) (hb : b ≠ i2) :
    Turn P w K (.Tuple elts kk tpos) (ItST K x b) [z, TI, TO, i1, i2] z (fun i h => IsZip h z TI TO .none ∧ IsTupOf2 h TI (.ref i1) (.ref i2) ∧ (∃ a1 a2, IsTupOf2 h TO a1 a2) ∧ h.IsStrIter i1 (strIterType x) x t i ∧ h.IsTupleIter i2 b i) where
  mem := by simp
  obj := fun i h st c hc => by
    obtain ⟨hz, hTI, ⟨x, y, hTO⟩, ⟨o1, e1, _, d1⟩, ⟨o2, e2, _, d2⟩⟩ := st
    have e' : c = z ∨ c = TI ∨ c = TO ∨ c = i1 ∨ c = i2 := by simpa using hc
    rcases e' with q | q | q | q | q
    · rw [q]; exact ⟨_, hz, fun v q => nomatch q⟩
    · rw [q]; exact ⟨_, hTI, fun v q => nomatch q⟩
    · rw [q]; exact ⟨_, hTO, fun v q => nomatch q⟩
    · rw [q]; exact ⟨o1, e1, fun v q => by rw [d1] at q; cases q⟩
    · rw [q]; exact ⟨o2, e2, fun v q => by rw [d2] at q; cases q⟩
  keep := fun i h h' st k => by
    obtain ⟨hz, hTI, ⟨x, y, hTO⟩, h1, h2⟩ := st
    exact ⟨k z (by simp) _ hz, k TI (by simp) _ hTI, ⟨x, y, k TO (by simp) _ hTO⟩, (let ⟨o, e, c, d⟩ := h1; ⟨o, k i1 (by simp) o e, c, d⟩), h2.at fun o q => k i2 (by simp) o q⟩
  item := by
    intro X hP hw hK hc i pins s σ H E I hf st hg
    subst hP hw hK
    obtain ⟨hz, hTI, ⟨x0, y0, hTO⟩, h1, h2⟩ := st
    obtain ⟨ys, c, y, hqy, hx, hy⟩ := hg
    obtain ⟨its2, rv2, p2, _⟩ := I.tuple hqy
    have p3 : s.heap.IsTuple b its2.toArray := p2
    obtain ⟨u2, hu2, ru2⟩ := rv2.get hy
    have hu3 : its2.toArray[i]? = some u2 := by simpa using hu2
    have hzl : z < s.heap.objs.size := Heap.lt_size hz
    have D1 := Draws.text (prog := X.prog) (w := X.w) (A := X.A.in1) (I.ok.hd hc) i1 x t
    have D2 := Draws.tuple (prog := X.prog) (w := X.w) (A := X.A.in1) (I.ok.hd hc) i2 b hb its2.toArray
    refine wpAny_pyNext_zipD2_item D D1 D2 hz hTI hTO h1 ⟨h2, p3⟩ (Array.getElem?_eq_some_iff.mp hx).1 (Array.getElem?_eq_some_iff.mp hu3).1 fun x1 x2 h' tk y1 y2 z' TO' h1' h2' hT hsz hk => ?_
    obtain ⟨c', u1, hc', rfl⟩ := y1
    rw [hx] at hc'
    cases hc'
    have y2 : its2.toArray[i]? = some x2 := y2
    rw [hu3] at y2
    cases y2
    obtain ⟨h2', _⟩ := h2'
    refine ⟨_, rfl, wpAny_letOwnedTupleGo_zip (s := { s with heap := h', toks := tk }) z' fun h'' z'' sb => ?_⟩
    have hT2 : h''.get? s.heap.objs.size = some { cls := .type "tuple", data := .seq #[.str ⟨#[c]⟩ u1, u2] } := (sb.2 _ (Nat.ne_of_gt hzl)).trans hT
    have new : ObjOk X.prog X.w (upd H s.heap.objs.size (.tup [.str ⟨#[c]⟩, y])) h'' s.heap.objs.size (.tup [.str ⟨#[c]⟩, y]) :=
      ⟨by show 2 ≤ sizeLine; decide, [.str ⟨#[c]⟩ u1, u2], .cons ⟨_, rfl⟩ (.cons ru2 .nil), ⟨_, hT2, rfl, _, rfl⟩⟩
    have I1 : Inv X pins σ (upd H s.heap.objs.size (.tup [.str ⟨#[c]⟩, y])) { s with heap := h'', toks := tk } :=
      I.turnedNew (t' := tk) (ch := [z, TI, TO, i1, i2]) (fun c o hb q => (sb.2 c (fun q' => hb (by simp [q']))).trans (hk c o (fun q' => hb (by simp [q'])) (fun q' => hb (by simp [q'])) (fun q' => hb (by simp [q'])) (fun q' => hb (by simp [q'])) q)) hf (Nat.le_refl _) new
    refine ⟨.ref s.heap.objs.size, _, I1, rfl, ⟨_, c, y, rfl, I.hok.fresh (Nat.le_refl _), rfl, hx, fun l hl => by rw [I.tuple_inj hl hqy]; exact hy⟩, ⟨z'', ?_, ⟨.str ⟨#[c]⟩ u1, u2, ?_⟩, ?_, ?_⟩, fun c hcm => ?_⟩
    · exact (sb.2 _ D.TIz).trans (hk _ _ D.TIz D.TITO D.TIi1 D.TIi2 hTI)
    · exact (sb.2 _ D.TOz).trans TO'
    · obtain ⟨o, e, c1, d1⟩ := h1'
      exact ⟨o, (sb.2 _ D.zi1.symm).trans e, c1, d1⟩
    · exact h2'.at fun o q => (sb.2 _ D.zi2.symm).trans q
    · have hlt : c < s.heap.objs.size := by
        have e' : c = z ∨ c = TI ∨ c = TO ∨ c = i1 ∨ c = i2 := by simpa using hcm
        rcases e' with q | q | q | q | q
        · rw [q]; exact hzl
        · rw [q]; exact Heap.lt_size hTI
        · rw [q]; exact Heap.lt_size hTO
        · rw [q]; obtain ⟨_, e1, _⟩ := h1; exact Heap.lt_size e1
        · rw [q]; obtain ⟨_, e2, _⟩ := h2; exact Heap.lt_size e2
      rw [upd_ne (Nat.ne_of_lt hlt)]
      exact (hf c hcm).1
  done := by
    intro X hP hw hK hc i pins s σ H E I hf st hg
    subst hP hw hK
    obtain ⟨hz, hTI, ⟨x0, y0, hTO⟩, h1, h2⟩ := st
    obtain ⟨ys, hqy, hend, l1, l2⟩ := hg
    obtain ⟨its2, rv2, p2, _⟩ := I.tuple hqy
    have p3 : s.heap.IsTuple b its2.toArray := p2
    have ll := rv2.length
    have D1 := Draws.text (prog := X.prog) (w := X.w) (A := X.A.in1) (I.ok.hd hc) i1 x t
    have D2 := Draws.tuple (prog := X.prog) (w := X.w) (A := X.A.in1) (I.ok.hd hc) i2 b hb its2.toArray
    have sz : its2.toArray.size = ys.length := by rw [List.size_toArray, ll]
    exact wpAny_pyNext_zipD2_end D D1 D2 hz hTI hTO h1 ⟨h2, p3⟩ l1 (by rw [sz]; exact l2) (by rw [sz]; exact hend) fun h' tk hk => ⟨rfl, I.turnedL (t' := tk) (ch := [z, TI, TO, i1, i2]) (fun c o hb q =>
      hk c o (fun q' => hb (by simp [q'])) (fun q' => hb (by simp [q'])) (fun q' => hb (by simp [q'])) (fun q' => hb (by simp [q'])) q) hf⟩
  self := fun A i s Q E st h => wpAny_pyIter_zip st.1 h
theorem sepN (n b : Nat) (h : b < n) : ZipSep2 (n + 4) (n + 2) (n + 3) n (n + 1) [n] [n + 1, b] := by
  have two : ∀ c : Nat, c ≠ n + 1 → c ≠ b → ¬ List.Mem c [n + 1, b] := fun c h1 h2 e => by
    have e2 : c ∈ [n + 1, b] := e
    simp only [List.mem_cons, List.not_mem_nil, or_false] at e2
    omega
  have one : ∀ c : Nat, c ≠ n → ¬ List.Mem c [n] := fun c h1 e => by
    have e2 : c ∈ [n] := e
    simp only [List.mem_cons, List.not_mem_nil, or_false] at e2
    omega
  exact { TIz := by show ¬ ((n + 2 : Nat) = n + 4); omega
          TOz := by show ¬ ((n + 3 : Nat) = n + 4); omega
          TITO := by show ¬ ((n + 2 : Nat) = n + 3); omega
          TIi1 := by show ¬ ((n + 2 : Nat) = n); omega
          mem1 := List.mem_cons_self
          zf1 := one _ (by omega)
          Tf1 := one _ (by omega)
          TIi2 := by show ¬ ((n + 2 : Nat) = n + 1); omega
          mem2 := List.mem_cons_self
          zf2 := two _ (by omega) (by omega)
          Tf2 := two _ (by omega) (by omega)
          sep1_2 := two _ (by omega) (by omega)
          sep2_1 := one _ (by omega) }
theorem le5 (n c : Nat) (h : c ∈ [n + 4, n + 2, n + 3, n, n + 1]) : n ≤ c := by
  simp only [List.mem_cons, List.not_mem_nil, or_false] at h
  omega
def iZipST (K : PySem.W.Frag) (ta : TA) : TI := fun σ H R => ta σ H fun vs H1 => ∃ x b ys, vs = [.str x, .ref b] ∧ SqT K H1 b ys ∧ R (ItST K x b) H1
theorem pi_zipST {X : Cx} {e e2 : Expr} {ta : TA} {p pos tpos : Pos} {elts : List Expr} {kk : Nat} (hg : Gl X "zip") (hm : X.mg "zip" = none) (ha : PA X [e, e2] ta)
    (hs : starEach [e, e2] X.env = (false, eval e X.env) :: starEach [e2] X.env := by rfl) (hpl : (backTo pos (starEach [e2] X.env)).any (·.1) = false := by rfl) :
    PI X (.Tuple elts kk tpos) (.Call (.Name "zip" p) [e, e2] [] pos) (iZipST X.K ta) := by
  refine ⟨fun pins s σ H R I h => ?_⟩
  refine Call_ (ld_blt I hg hm PyProof.Rows.boot_zip (PyProof.Rows.callWith_type1 (thn (ha.run pos pins s σ H _ I h) fun us s1 ⟨vs, H1, I1, r1, q1⟩ => ?_) hs hpl))
  obtain ⟨x, b, ys, ex, hqy, q⟩ := q1
  subst ex
  cases r1 with
  | @cons _ u1 _ us1 r1 r2 =>
  obtain ⟨t, rfl⟩ := r1
  cases r2 with
  | @cons _ u2 _ us2 r3 r4 =>
  cases r4
  cases r3
  obtain ⟨its2, rv2, p2, _⟩ := I1.tuple hqy
  have p3 : s1.heap.IsTuple b its2.toArray := p2
  have bl : b < s1.heap.objs.size := by
    obtain ⟨ob, e1, _⟩ := id p3
    exact Heap.lt_size e1
  refine zip_begins2 (begins_text x t) (begins_tuple b its2.toArray) trivial p3 fun h2 hz hTI hTO ho1 ho2 hsz hk => wpAny_pyIter_zip hz ?_
  have I2 : Inv X pins σ H1 { s1 with heap := h2 } := I1.kept (t' := s1.toks) hk
  have D : ZipSep2 (s1.heap.objs.size + 4) (s1.heap.objs.size + 2) (s1.heap.objs.size + 3) s1.heap.objs.size (s1.heap.objs.size + 1) [s1.heap.objs.size] [s1.heap.objs.size + 1, b] := sepN _ _ bl
  refine ⟨s1.heap.objs.size + 4, [s1.heap.objs.size + 4, s1.heap.objs.size + 2, s1.heap.objs.size + 3, s1.heap.objs.size, s1.heap.objs.size + 1], _, _, H1, rfl, I2, turn_zipST (t := t) D (Nat.ne_of_lt (Nat.lt_succ_of_lt bl)), ⟨hz, hTI, ⟨_, _, hTO⟩, ⟨_, ho1, rfl, rfl⟩, ⟨_, ho2, rfl, rfl⟩⟩, fun c hc => ?_, q⟩
  have le : s1.heap.objs.size ≤ c := le5 _ _ hc
  exact I1.fpOk le (I1.hok.fresh le)
theorem walk_zipST {K : PySem.W.Frag} {x : Str} {b : Addr} {ys : List V} {n : Nat} (h1 : n = x.cps.size) (h2 : n = ys.length) : Walk (ItST K x b) n (fun H => SqT K H b ys) (YPair (fun i => (x.cps[i]?).map fun c => V.str ⟨#[c]⟩) (fun i => ys[i]?)) := by
  refine ⟨fun i H hi q => ⟨ys, x.cps[i], ys[i], q, Array.getElem?_eq_getElem (by omega), List.getElem?_eq_getElem (by omega)⟩, fun H q => ⟨ys, q, .inl h1, by omega, by omega⟩, fun i H v H' hi q y => ?_⟩
  obtain ⟨T, c, y0, e1, e2, e3, e4, e5⟩ := y
  exact ⟨T, _, y0, e1, e2, e3, by show (x.cps[i]?).map _ = _; rw [e4]; rfl, e5 ys q⟩
def rUpd : V → List V → Hp → VK → Prop := fun x vs H Q => ∃ d b kvs more, x = .ref d ∧ vs = [.ref b] ∧ H d = some (.dK kvs) ∧ H b = some (.dK more) ∧ d ≠ b ∧ kvs.length + more.length ≤ sizeLine ∧ Q .non (upd H d (.dK (mergeK kvs more)))
theorem mt_update {X : Cx} : MtR X "dict.update" rUpd := by
  intro pins s σ H x vs v us Q I rx rv h
  obtain ⟨d, b, kvs, more, rfl, rfl, hd, hb, ne, hsz, q⟩ := h
  cases rx
  obtain ⟨u, rfl, ru⟩ := rv.one
  cases ru
  obtain ⟨z1, m1, vs1, r1, D1⟩ := dk_of I.hok hd
  obtain ⟨z2, m2, vs2, r2, D2⟩ := dk_of I.hok hb
  refine call_meetsIn PySem.F.slot_dict_update D1.typeIs PySem.F.entry_dict_update (PySem.F.args_dict_update_2 _ _) (meets_dict_update (mixKind X.prog X.w) d b ne m2)
    ⟨vs1, vs2, D1, D2, (by rw [← r1.length, ← r2.length]; exact hsz), fun h' hmm _ hs => ?_⟩
  have hz : (mergeK kvs more).length ≤ sizeLine := Nat.le_trans (length_mergeK more kvs) hsz
  have he : ∃ q, h'.get? d = some q := let ⟨q, _, _, hq, _⟩ := hmm; ⟨q, hq⟩
  exact ⟨.non, _, d_write I (t' := s.toks) (by rw [hd]; exact True.intro) hs he (dk_new hz m1 (r2.merge r1) hmm), rfl, q⟩
end Sw
/-! A tuple, turned about; a text, some times over. -/
namespace Sw
open PySem PySem.Spec PyProof.Rows L2 HT
section
variable {prog : Program} {w : World} {A : Around} {E : Value → Shared → Prop} {s : Shared}
theorem adjust_rev (n : Nat) : Builtin.Slice.sliceAdjust none none (-1) (n : Int) = ((n : Int) - 1, -1) := by
  unfold Builtin.Slice.sliceAdjust
  have h1 : ((-1 : Int) < 0) := by decide
  simp only [h1, if_true]
theorem places_rev (n : Nat) : Builtin.Slice.slicePlaces ((n : Int) - 1) (-1) (-1) = n := by
  unfold Builtin.Slice.slicePlaces
  have h1 : ¬ ((-1 : Int) > 0) := by decide
  simp only [h1, if_false]
  split
  · simp
  · omega
theorem fm_congr {α β : Type} {f g : α → Option β} : ∀ {l : List α}, (∀ x ∈ l, f x = g x) → l.filterMap f = l.filterMap g
  | [], _ => rfl
  | x :: l, h => by
    rw [List.filterMap_cons, List.filterMap_cons, h x List.mem_cons_self, fm_congr fun y hy => h y (List.mem_cons_of_mem _ hy)]
theorem pick_rev (xs : Array Value) : ((List.range xs.size).filterMap fun (m : Nat) => xs[(((xs.size : Int) - 1) + (m : Int) * (-1)).toNat]?).toArray = xs.toList.reverse.toArray := by
  congr 1
  have key : ∀ m : Nat, m < xs.size → xs[(((xs.size : Int) - 1) + (m : Int) * (-1)).toNat]? = xs.toList.reverse[m]? := fun m hm => by
    rw [show (((xs.size : Int) - 1) + (m : Int) * (-1)).toNat = xs.size - 1 - m by omega, List.getElem?_reverse (by rw [Array.length_toList]; exact hm), Array.getElem?_toList, Array.length_toList]
  have e : (List.range xs.size).filterMap (fun (m : Nat) => xs[(((xs.size : Int) - 1) + (m : Int) * (-1)).toNat]?) = (List.range xs.size).filterMap (fun m => xs.toList.reverse[m]?) := fm_congr fun m hm => key m (List.mem_range.mp hm)
  rw [e]
  have e2 : ∀ l : List Value, (List.range l.length).filterMap (fun m => l[m]?) = l := by
    intro l
    induction l with
    | nil => rfl
    | cons x l ih =>
      rw [List.length_cons, List.range_succ_eq_map, List.filterMap_cons]
      show x :: List.filterMap _ (List.map Nat.succ (List.range l.length)) = x :: l
      rw [List.filterMap_map]
      congr 1
  have e3 := e2 xs.toList.reverse
  rw [List.length_reverse, Array.length_toList] at e3
  rw [e3]
theorem getItem_tuple_rev {t sl : Addr} {items : Array Value} {vs : Value} {Q : Value → Shared → Prop} (ht : IsTup s.heap t items) (hs : s.heap.IsSliceOf sl .none .none vs) (ps : IsPart vs (some (-1)))
    (h : Q (.ref s.heap.objs.size) { s with heap := s.heap.push { cls := .type "tuple", data := .seq items.toList.reverse.toArray } })
    (hsz : items.size ≤ sizeLine) : wpAny (model prog w) A (getItem (.ref t) (.ref sl)) Q E s := by
  have hok : sizeOk (.seq items.toList.reverse.toArray) := by
    show items.toList.reverse.toArray.size ≤ sizeLine
    rw [List.size_toArray, List.length_reverse, Array.length_toList]
    exact hsz
  obtain ⟨os, hos, hcs, hds⟩ := id hs
  have hTs : s.TypeIs (.ref sl) "slice" := ⟨os, hos, hcs⟩
  unfold getItem
  try with_reducible refine wpAny_holding ?_
  first | refine wpAny_bind (wpAny_pure ?_) | skip
  refine wpAny_bind (wpAny_sequenceKey ht.typeIs (by decide) ?_)
  refine wpAny_bind (wpAny_callSpecial?_slot (name := Str.ofString "__getitem__") ht.typeIs PyProof.Rows.slot_tuple_getitem
    (wpAny_call_entry PyProof.Rows.slot_tuple_getitem ht.typeIs entry_tuple_getitem ?_ (args_tuple_getitem _ _)))
  show wpAny _ _ (Builtin.Tuple.tupleItemsOf (.ref t) >>= _) _ _ s
  refine wpAny_bind (tupleItemsOf_ ht ?_)
  refine wpAny_bind (wpAny_typeOf hTs ?_)
  rw [if_pos (by decide)]
  have applied : ∀ {Q' : Int × Int × Nat → Shared → Prop} {A' : Around} {E' : Value → Shared → Prop}, Q' ((items.size : Int) - 1, -1, items.size) s → wpAny (model prog w) A' (Builtin.Slice.sliceApplied (.ref sl) (pure (items.size : Int))) Q' E' s := fun {Q' A' E'} q => by
    unfold Builtin.Slice.sliceApplied Builtin.Slice.sliceFields
    refine wpAny_bind (wpAny_bind (wpAny_field hos hds (x := .none) rfl (wpAny_bind (wpAny_field hos hds (x := .none) rfl (wpAny_bind (wpAny_field hos hds (x := vs) rfl (wpAny_pure ?_)))))))
    refine wpAny_bind (slicePart_ ps ?_)
    show wpAny _ _ (if ((-1 : Int) == 0) = true then _ else _) _ _ s
    rw [if_neg (by decide)]
    refine wpAny_bind (slicePart_none (wpAny_bind (slicePart_none (wpAny_bind (wpAny_pure ?_)))))
    show wpAny _ _ (match Builtin.Slice.sliceAdjust none none (-1) (items.size : Int) with | (lo, hi) => pure (lo, (-1 : Int), Builtin.Slice.slicePlaces lo hi (-1))) _ _ s
    rw [adjust_rev]
    show wpAny _ _ (pure ((items.size : Int) - 1, (-1 : Int), Builtin.Slice.slicePlaces ((items.size : Int) - 1) (-1) (-1))) _ _ s
    rw [places_rev]
    exact wpAny_pure q
  refine wpAny_bind (applied ?_)
  have hno : ¬ ((((items.size : Int) - 1) == 0 && (-1 : Int) == 1 && items.size == items.size) = true) := by
    intro q
    rw [Bool.and_eq_true, Bool.and_eq_true] at q
    exact absurd (eq_of_beq q.1.2) (by decide)
  show wpAny _ _ (if (((items.size : Int) - 1) == 0 && (-1 : Int) == 1 && items.size == items.size) = true then _ else _) _ _ s
  rw [if_neg hno, pick_rev]
  first
    | exact wpAny_bind (m := Builtin.Tuple.tupleExact _) (wpAny_newObj_type (wpAny_pure ⟨_, rfl, wpAny_pure h⟩) hok)
    | exact wpAny_bind (m := Builtin.Tuple.tupleExact _) (wpAny_newObj_type (wpAny_bind (wpAny_pure (wpAny_pure ⟨_, rfl, wpAny_pure h⟩))) hok)
    | exact wpAny_bind (wpAny_bind (m := Builtin.Tuple.tupleExact _) (wpAny_newObj_type (wpAny_pure (wpAny_pure ⟨_, rfl, wpAny_pure h⟩)) hok))
    | exact wpAny_bind (wpAny_bind (m := Builtin.Tuple.tupleExact _) (wpAny_newObj_type (wpAny_pure ⟨_, rfl, wpAny_pure h⟩) hok))
end
def tRevT (K : PySem.W.Frag) (te : TE) : TE := fun σ H Q => te σ H fun x H1 => ∃ a xs, x = .ref a ∧ SqT K H1 a xs ∧ ∀ p, H1 p = none → Q (.ref p) (upd H1 p (.tup xs.reverse))
theorem pe_revT {X : Cx} {e : Expr} {te : TE} {k : Nat} {p1 p2 p3 pos : Pos} (he : PE X e te) : PE X (.Subscript e (.Slice none none (some (.UnaryOp .USub (.Constant (.int 1) k p1) p2)) p3) pos) (tRevT X.K te) := by
  refine ⟨fun pins s σ H Q I h => Subscript_ (thn (he.run pins s σ H _ I h) fun v s1 ⟨x, H1, I1, r1, a, xs, ex, hx, q⟩ => ?_)⟩
  subst ex
  cases r1
  have hst : PO X (some (.UnaryOp .USub (.Constant (.int 1) k p1) p2)) (tPart (tUn (rU fun i => .int (-i)) (tC (.int 1)))) := po_some (pe_un un_neg pe_int)
  refine wpAny_Slice (thn (po_none.run pins s1 σ H1 (fun o H2 => o = none ∧ H2 = H1) I1 ⟨rfl, rfl⟩) fun vl s2 ⟨l, H2, I2, pl, el, e2⟩ => ?_)
  subst el e2
  cases pl
  refine thn (po_none.run pins s2 σ H2 (fun o H3 => o = none ∧ H3 = H2) I2 ⟨rfl, rfl⟩) fun vu s3 ⟨u, H3, I3, pu, eu, e3⟩ => ?_
  subst eu e3
  cases pu
  refine thn (hst.run pins s3 σ H3 (fun o H4 => o = some (-1) ∧ H4 = H3) I3 ⟨1, rfl, -1, rfl, rfl, rfl⟩) fun vs s4 ⟨o, H4, I4, ps, eo, e4⟩ => ?_
  subst eo e4
  have I5 : Inv X pins σ H4 { s4 with heap := s4.heap.push { cls := .type "slice", data := .fields #[.none, .none, vs] } } := I4.kept (t' := s4.toks) fun b ob q => Heap.get?_push_of_some _ q
  obtain ⟨its, r, ht, hz⟩ := I5.tuple hx
  have hlen := r.length
  show wpAny (model X.prog X.w) X.A (subscriptTail e (.Slice none none (some (.UnaryOp .USub (.Constant (.int 1) k p1) p2)) p3) (.ref a) (.ref s4.heap.objs.size)) (EP X pins σ Q) X.xe { s4 with heap := s4.heap.push { cls := .type "slice", data := .fields #[.none, .none, vs] } }
  refine tail_any (ops := [.ref a, .ref s4.heap.objs.size]) ht.typeIs (PyProof.Rows.slot_tuple_getitem.lookup) ?_ (by with_unfolding_all rfl)
  refine getItem_tuple_rev ht (Heap.IsSliceOf.new _ .none .none vs) ps ?_ (by rw [List.size_toArray]; omega)
  refine ⟨.ref _, _, I5.laid (t' := s4.toks) (o := .tup xs.reverse) (fun b ob q => Heap.get?_push_of_some _ q) (Nat.le_refl _) ?_, rfl, q _ (I5.hok.fresh (Nat.le_refl _))⟩
  refine ⟨by rw [List.length_reverse]; exact hz, its.reverse, r.reverse, ⟨_, Heap.get?_push_size _ rfl, rfl, 0, ?_⟩⟩
  simp
/-- a text, k times: its length, its letters -/
def rRepQ : R2 := fun x y H Q => ∃ (z : Str) (k : Int), x = .str z ∧ y = .int k ∧ 2 ≤ k ∧ k ≤ 1000 ∧ 1 ≤ z.length ∧ z.length ≤ 1000 ∧ ∀ r : Str, r.length = z.length * k.toNat → (PyData.strOk z = true → PyData.strOk r = true) → Q (.str r) H
theorem rep_all (c : Array Nat) (p : Nat → Bool) (h : c.all p = true) : ∀ m : Nat, ((List.replicate m c).foldl (· ++ ·) #[]).all p = true := fun m => by
  have key : ∀ (m : Nat) (a : Array Nat), a.all p = true → ((List.replicate m c).foldl (· ++ ·) a).all p = true := by
    intro m
    induction m with
    | zero =>
      intro a ha
      simpa using ha
    | succ m ih =>
      intro a ha
      rw [List.replicate_succ, List.foldl_cons]
      exact ih _ (by rw [Array.all_append, ha, h]; rfl)
  exact key m #[] (by simp)
theorem op_repQ {X : Cx} : OpR X (binaryOp .Mult) rRepQ := by
  intro pins s σ H x y v u Q I rx ry h
  obtain ⟨z, k, rfl, rfl, k2, k1, z1, z2, q⟩ := h
  obtain ⟨t, rfl⟩ := rx
  obtain ⟨t', rfl⟩ := ry
  have hm : z.length * k.toNat ≤ 1000000 := Nat.le_trans (Nat.mul_le_mul z2 (show k.toNat ≤ 1000 by omega)) (by decide)
  have hc : (k == 1 || z.length == 0) = false := by
    rw [Bool.or_eq_false_iff, beq_eq_false_iff_ne, beq_eq_false_iff_ne]
    omega
  refine P.mul_str (by rw [decide_eq_false (by omega), decide_eq_false (by omega)]; rfl) (fun _ _ => ?_) (fun _ _ => ?_) ?_
  · have e : (1000 : Int) ≤ (2 ^ 63 - 1) / k := by
      rw [Int.le_ediv_iff_mul_le (by omega)]
      omega
    omega
  · unfold Builtin.Str.tooLong
    have sl := sizeLine_eq
    first
      | (rw [decide_eq_false]; omega)
      | (simp; omega)
  · rw [if_neg (by omega), if_neg (by rw [hc]; exact Bool.false_ne_true)]
    have hz : (⟨(List.replicate k.toNat z.cps).foldl (· ++ ·) #[]⟩ : Str).length = z.length * k.toNat := rep_size z.cps k.toNat
    refine ⟨?_, ⟨.str _, H, I.tok _, ⟨_, rfl⟩, q _ hz fun ho => rep_all z.cps _ ho k.toNat⟩⟩
    have sl := sizeLine_eq
    first
      | (rw [hz]; omega)
      | (show _ ≤ _; rw [hz]; omega)
end Sw
namespace Sw
open PySem PySem.Spec PyProof.Rows L2
/-- entries whose keys are these texts, in order -/
def KeyL : List DictEntry → List Str → Prop
  | [], [] => True
  | e :: r, k :: ks => (∃ t, e.key = .str k t) ∧ KeyL r ks
  | _, _ => False
theorem keyL_find {z : Str} : ∀ {l : List DictEntry} {ks : List Str}, KeyL l ks → (l.find? (·.key.isStr z)).map (·.val) = (ks.zip (l.map (·.val))).lookup z ∧ l.any (·.refKey) = false
  | [], [], _ => ⟨rfl, rfl⟩
  | e :: r, k :: ks, ⟨⟨t, h⟩, q⟩ => by
    obtain ⟨i1, i2⟩ := keyL_find (z := z) q
    have e1 : e.key.isStr z = (k == z) := by rw [h]; rfl
    have e2 : e.refKey = false := by unfold DictEntry.refKey; rw [h]
    refine ⟨?_, ?_⟩
    · rw [List.find?_cons, e1, List.map_cons, List.zip_cons_cons, List.lookup_cons]
      by_cases c : k = z
      · subst c
        rw [beq_self_eq_true]
        rfl
      · have c1 : (k == z) = false := by rw [beq_eq_false_iff_ne]; exact c
        have c2 : (z == k) = false := by rw [beq_eq_false_iff_ne]; exact fun y => c y.symm
        rw [c1, c2]
        exact i1
    · rw [List.any_cons, e2, i2]
      rfl
  | [], _ :: _, h => h.elim
  | _ :: _, [], h => h.elim
theorem nsIn_tab {K : PySem.W.Frag} {d0 : Addr} {c : Value} {od : Option Addr} {es : Array DictEntry} {n : Nat} {sl : Array (Option Value)} {ks : List Str} (l : K.lookup d0 = some ⟨c, od, .dict es n, sl⟩) (h : KeyL es.toList ks) (z : Str) :
    PySem.W.nsIn K d0 z = some ((ks.zip (es.toList.map (·.val))).lookup z) := by
  obtain ⟨i1, i2⟩ := keyL_find (z := z) h
  unfold PySem.W.nsIn
  rw [l]
  show (match es.toList.find? (·.key.isStr z) with
      | some e => some (some e.val)
      | none => if es.toList.any (·.refKey) then none else some none) = _
  rw [← i1, i2]
  cases es.toList.find? (·.key.isStr z) <;> rfl
/-- the values are tuples of texts -/
inductive TabV (K : PySem.W.Frag) : List (Str × List Str) → List Value → Prop
  | nil : TabV K [] []
  | cons {z : Str} {ks : List Str} {a : Addr} {r : List (Str × List Str)} {vs : List Value} : KTup K a (ks.map V.str) → TabV K r vs → TabV K ((z, ks) :: r) (.ref a :: vs)
theorem TabV.get {K : PySem.W.Frag} {z : Str} : ∀ {T : List (Str × List Str)} {vs : List Value}, TabV K T vs → (T.lookup z = none → ((T.map (·.1)).zip vs).lookup z = none) ∧ ∀ ks, T.lookup z = some ks → ∃ a, ((T.map (·.1)).zip vs).lookup z = some (.ref a) ∧ KTup K a (ks.map V.str)
  | [], _, .nil => ⟨fun _ => rfl, fun _ h => nomatch h⟩
  | (k, ks0) :: r, _, .cons (a := a) (vs := vs) h t => by
    obtain ⟨i1, i2⟩ := t.get (z := z)
    rw [List.lookup_cons, List.map_cons, List.zip_cons_cons, List.lookup_cons]
    show ((match z == k with | true => some ks0 | false => r.lookup z) = none → (match z == k with | true => some (Value.ref a) | false => ((r.map (·.1)).zip vs).lookup z) = none) ∧ ∀ ks, (match z == k with | true => some ks0 | false => r.lookup z) = some ks → ∃ a', (match z == k with | true => some (Value.ref a) | false => ((r.map (·.1)).zip vs).lookup z) = some (.ref a') ∧ KTup K a' (ks.map V.str)
    cases z == k with
    | true =>
      refine ⟨fun e => (nomatch e), fun ks e => ?_⟩
      cases e
      exact ⟨a, rfl, h⟩
    | false => exact ⟨i1, i2⟩
theorem kt1 {K : PySem.W.Frag} {a : Addr} {od : Option Addr} {x0 : Str} {t0 : Tok} {k : Nat} {osl : Array (Option Value)} (l : K.lookup a = some ⟨.type "tuple", od, .seq #[.str x0 t0] k, osl⟩) : KTup K a [.str x0] :=
  ⟨_, _, _, l, rfl, rfl, (show 1 ≤ sizeLine by decide), (.cons ⟨_, rfl⟩ .nil)⟩
theorem kt2 {K : PySem.W.Frag} {a : Addr} {od : Option Addr} {x0 x1 : Str} {t0 t1 : Tok} {k : Nat} {osl : Array (Option Value)} (l : K.lookup a = some ⟨.type "tuple", od, .seq #[.str x0 t0, .str x1 t1] k, osl⟩) : KTup K a [.str x0, .str x1] :=
  ⟨_, _, _, l, rfl, rfl, (show 2 ≤ sizeLine by decide), (.cons ⟨_, rfl⟩ (.cons ⟨_, rfl⟩ .nil))⟩
theorem kt3 {K : PySem.W.Frag} {a : Addr} {od : Option Addr} {x0 x1 x2 : Str} {t0 t1 t2 : Tok} {k : Nat} {osl : Array (Option Value)} (l : K.lookup a = some ⟨.type "tuple", od, .seq #[.str x0 t0, .str x1 t1, .str x2 t2] k, osl⟩) : KTup K a [.str x0, .str x1, .str x2] :=
  ⟨_, _, _, l, rfl, rfl, (show 3 ≤ sizeLine by decide), (.cons ⟨_, rfl⟩ (.cons ⟨_, rfl⟩ (.cons ⟨_, rfl⟩ .nil)))⟩
theorem kt4 {K : PySem.W.Frag} {a : Addr} {od : Option Addr} {x0 x1 x2 x3 : Str} {t0 t1 t2 t3 : Tok} {k : Nat} {osl : Array (Option Value)} (l : K.lookup a = some ⟨.type "tuple", od, .seq #[.str x0 t0, .str x1 t1, .str x2 t2, .str x3 t3] k, osl⟩) : KTup K a [.str x0, .str x1, .str x2, .str x3] :=
  ⟨_, _, _, l, rfl, rfl, (show 4 ≤ sizeLine by decide), (.cons ⟨_, rfl⟩ (.cons ⟨_, rfl⟩ (.cons ⟨_, rfl⟩ (.cons ⟨_, rfl⟩ .nil))))⟩
theorem kt5 {K : PySem.W.Frag} {a : Addr} {od : Option Addr} {x0 x1 x2 x3 x4 : Str} {t0 t1 t2 t3 t4 : Tok} {k : Nat} {osl : Array (Option Value)} (l : K.lookup a = some ⟨.type "tuple", od, .seq #[.str x0 t0, .str x1 t1, .str x2 t2, .str x3 t3, .str x4 t4] k, osl⟩) : KTup K a [.str x0, .str x1, .str x2, .str x3, .str x4] :=
  ⟨_, _, _, l, rfl, rfl, (show 5 ≤ sizeLine by decide), (.cons ⟨_, rfl⟩ (.cons ⟨_, rfl⟩ (.cons ⟨_, rfl⟩ (.cons ⟨_, rfl⟩ (.cons ⟨_, rfl⟩ .nil)))))⟩
theorem kt6 {K : PySem.W.Frag} {a : Addr} {od : Option Addr} {x0 x1 x2 x3 x4 x5 : Str} {t0 t1 t2 t3 t4 t5 : Tok} {k : Nat} {osl : Array (Option Value)} (l : K.lookup a = some ⟨.type "tuple", od, .seq #[.str x0 t0, .str x1 t1, .str x2 t2, .str x3 t3, .str x4 t4, .str x5 t5] k, osl⟩) : KTup K a [.str x0, .str x1, .str x2, .str x3, .str x4, .str x5] :=
  ⟨_, _, _, l, rfl, rfl, (show 6 ≤ sizeLine by decide), (.cons ⟨_, rfl⟩ (.cons ⟨_, rfl⟩ (.cons ⟨_, rfl⟩ (.cons ⟨_, rfl⟩ (.cons ⟨_, rfl⟩ (.cons ⟨_, rfl⟩ .nil))))))⟩
end Sw
namespace K49
open PySem PySem.Spec PyProof.Rows L2 Sw
def topS (i : Nat) : Stmt := PySem.Challenge.pw_soldwhole_k49_worths_of_rounds.main.body.getD i (.Pass ⟨0, 0, 0, 0⟩)
/-- the module's own names -/
structure Tx (mg : Str → Option Value) : Prop where
  gcd : mg "gcd" = some (.builtin "math.gcd")
/-- a drawn FRACTION above 0, its lower number small -/
def NumQ (n m : Int) : Prop := 1 ≤ n ∧ n ≤ 1000000000000 ∧ 1 ≤ m ∧ m ≤ 1000 ∧ gI n m = 1
def NumE (d : PyData) : Prop := ∃ n m, d = .tuple [.int n, .int m] ∧ NumQ n m
def spNumE (K : PySem.W.Frag) : Sp := fun vs H Q E => ∃ most : Int, 0 < most ∧ most ≤ 100000000 ∧ spG K [.int most] NumE vs H Q E
theorem numE {n m : Int} (h : NumQ n m) : NumE (.tuple [.int n, .int m]) := ⟨n, m, rfl, h⟩
theorem NumE.not {H : Hp} {v : V} {d : PyData} (h : NumE d) : Own H v d := by
  obtain ⟨n, m, rfl, _⟩ := h
  exact own_not fun _ z => nomatch z
def isInt (d : PyData) : Bool := isT "int" d && !isT "bool" d
def isFrac : PyData → Bool
  | .tuple [.int n, .int d] => decide (1 ≤ d) && decide (gI n d = 1)
  | _ => false
def isAmt : PyData → Bool
  | .tuple [.int n, .int d] => isFrac (.tuple [.int n, .int d]) && decide (0 ≤ n)
  | _ => false
def isAb : PyData → Bool
  | .tuple [.int n, .int d] => isFrac (.tuple [.int n, .int d]) && decide (0 < n)
  | _ => false
theorem isFrac_eq (n d : Int) : isFrac (.tuple [.int n, .int d]) = (decide (1 ≤ d) && decide (gI n d = 1)) := rfl
theorem isAmt_eq (n d : Int) : isAmt (.tuple [.int n, .int d]) = (isFrac (.tuple [.int n, .int d]) && decide (0 ≤ n)) := rfl
theorem isAb_eq (n d : Int) : isAb (.tuple [.int n, .int d]) = (isFrac (.tuple [.int n, .int d]) && decide (0 < n)) := rfl
def spP (K : PySem.W.Frag) (p : PyData → Bool) : Sp := fun vs H Q _ => ∃ (v : V) (mu : Addr → Prop) (d : PyData), vs = [v] ∧ Dt K mu H v d ∧ Ok d ∧ ∀ H', Same H H' → Q (.bl (p d)) H'
theorem spP_len {K : PySem.W.Frag} {p : PyData → Bool} {x : Str} : ∀ vs H Q E, spP K p vs H Q E → vs.length = [x].length := fun vs H Q E h => by
  obtain ⟨v, mu, d, rfl, _⟩ := h
  rfl
section
variable {P : Program} {w : World} {K : PySem.W.Frag} {mg : Str → Option Value} {base : Heap}
/-- the common divisor of two integers' sizes -/
def spCommon : Sp := fun vs H Q _ => ∃ a b : Int, vs = [.int a, .int b] ∧ Q (.int (gI a b)) H
abbrev s_law_common : Stmt := topS 40
theorem sc__law_common : FnScope ["one", "other"] ["one", "other"] (defScope s_law_common) := ⟨rfl, rfl, rfl, by decide +kernel, rfl, by decide +kernel, by decide +kernel⟩
theorem ok__law_common {f : Addr} {fd : FuncData} (F : Fun K "_law_common" "_law_common" s_law_common f fd) (B : Bt mg) : FnG P w K mg base 1 f fd ["one", "other"] spCommon := by
  refine Fun.okG F sc__law_common (fun vs H Q E h => ?_) (fun cdv A outer s H vs Q E hg hr h => ?_)
  · obtain ⟨a, b, rfl, _⟩ := h
    rfl
  obtain ⟨a, b, rfl, k⟩ := h
  refine ⟨_, (pss_cons (ps_par (i := 0) (j := 1) rfl sc__law_common.nd rfl rfl (by decide) rfl rfl (pa_cons (pe_callB call_abs (by rfl) B.abs bb_abs (pa_cons (pv 0) pa_nil)) (pa_cons (pe_callB call_abs (by rfl) B.abs bb_abs (pa_cons (pv 1) pa_nil)) pa_nil)) (by rfl))
    (pss_cons (ps_while PassesOwn.never (pt_cmpR op_gt (pv 1) pe_int (nomark _))
      (pss_one (ps_par (i := 0) (j := 1) rfl sc__law_common.nd rfl rfl (by decide) rfl rfl (pa_cons (pv 1) (pa_cons (pe_op op_mod (pe_callTy call_int1 (by rfl) B.int bb_int (pa_cons (pv 0) pa_nil)) (pv 1)) pa_nil)) (by rfl))))
    (pss_one (ps_ret (pv 0))))), ?_⟩
  have ab : ∀ i : Int, (if i < 0 then -i else i) = (i.natAbs : Int) := fun i => by split <;> omega
  refine ⟨_, rfl, a, rfl, _, rfl, b, rfl, _, _, rfl, ?_⟩
  rw [ab a, ab b]
  refine while_by (fun σ H1 => ∃ x y : Nat, σ = [some (.int x), some (.int y)] ∧ Nat.gcd x y = Nat.gcd a.natAbs b.natAbs ∧ H1 = H) (fun σ _ => match σ with | [_, some (.int j)] => j.toNat | _ => 0) ⟨a.natAbs, b.natAbs, rfl, rfl, rfl⟩ ?_ ?_
  · rintro σ H1 ⟨x, y, rfl, e, rfl⟩
    refine ⟨_, rfl, _, _, rfl, rfl, _, rfl, iteP (fun h => ?_) fun h => ?_⟩
    · refine ⟨_, rfl, _, rfl, .inl ⟨_, rfl, _, rfl, _, _, rfl, rfl, h, _, _, rfl, ?_⟩⟩
      refine ⟨⟨y, x % y, ?_, (gcd_step x y).trans e, rfl⟩, ?_⟩
      · show [some (V.int (y : Int)), some (V.int ((x : Int) % (y : Int)))] = _
        rw [← Int.natCast_emod]
      · show ((x : Int) % (y : Int)).toNat < ((y : Nat) : Int).toNat
        have := Int.emod_lt_of_pos (x : Int) h
        have := Int.emod_nonneg (x : Int) (show (y : Int) ≠ 0 by omega)
        omega
    · have hy : y = 0 := by omega
      subst hy
      rw [Nat.gcd_zero_right] at e
      rw [e] 
      exact ⟨_, rfl, k⟩
  · rintro σ H1 R R' hh ⟨v, e1, i, j, e2, e3, c, e4, q⟩
    exact ⟨v, e1, i, j, e2, e3, c, e4, hh _ _ q⟩
abbrev s_law_take : Stmt := topS 35
theorem sc__law_take : FnScope ["bag", "many", "cell", "stirred", "value", "begin", "second"] ["bag", "many"] (defScope s_law_take) := ⟨rfl, rfl, rfl, by decide +kernel, rfl, by decide +kernel, by decide +kernel⟩
theorem ok__law_take {f : Addr} {fd : FuncData} (F : Fun K "_law_take" "_law_take" s_law_take f fd) (B : Bt mg) : FnG P w K mg base 1 f fd ["bag", "many"] spTake := by
  refine Fun.okG F sc__law_take (fun vs H Q E h => ?_) (fun cdv A outer s H vs Q E hg hr h => ?_)
  · obtain ⟨b, m, rfl, _⟩ := h
    rfl
  obtain ⟨b, many, rfl, hb, hm0, hm1, k⟩ := h
  refine ⟨_, (C8.pss_cut (ps_if (pt_cmpR op_eq (pe_ix ix_list (pv 0) pe_int (fun _ _ => rfl)) pe_int (nomark _))
      (pss_cons (ps_set (i := 2) sc__law_take.nd rfl (Or.inl rfl) (pe_ix ix_list (pe_op op_cat (pe_slice sl_list (pe_ix ix_list (pv 0) pe_int (fun _ _ => rfl)) (po_some (pe_ix ix_list (pv 0) pe_int (fun _ _ => rfl))) po_none) (pe_lst (pa_cons pe_int pa_nil))) pe_int (fun _ _ => rfl)))
      (pss_cons (ps_augS (pv 0) pe_int get_list pe_int ip_add set_list)
      (C8.pss_cut (ps_if (pt_cmpR op_ge (pv 2) (pe_op op_pow pe_int pe_int) (nomark _))
        (pss_one (ps_asg (pv 2) (pg_sub (pv 0) pe_int set_list)))
        pss_nil)
      (pss_cons (ps_set (i := 3) sc__law_take.nd rfl (Or.inl rfl) (pe_op op_add (pe_op op_add (pe_op op_mul (pe_ix ix_list (pv 0) pe_int (fun _ _ => rfl)) pe_int) (pe_op op_mod (pe_callTy call_int1 (by rfl) B.int bb_int (pa_cons (pv 2) pa_nil)) pe_int)) (pe_op op_mul pe_int (pe_ix ix_list (pv 0) pe_int (fun _ _ => rfl)))))
      (pss_one (ps_asg (pe_op op_mod (pe_callTy call_int1 (by rfl) B.int bb_int (pa_cons (pv 3) pa_nil)) pe_int) (pg_sub (pv 0) pe_int set_list)))))))
      pss_nil)
    (pss_cons (ps_if (pt_cmpR op_gt (pe_ix ix_list (pv 0) pe_int (fun _ _ => rfl)) pe_int (nomark _))
      (pss_cons (ps_set (i := 4) sc__law_take.nd rfl (Or.inl rfl) (pe_op op_mod (pe_callTy call_int1 (by rfl) B.int bb_int (pa_cons (pe_ix ix_list (pv 0) pe_int (fun _ _ => rfl)) pa_nil)) (pv 1)))
      (pss_cons (ps_asg (pe_op op_fdiv (pe_callTy call_int1 (by rfl) B.int bb_int (pa_cons (pe_ix ix_list (pv 0) pe_int (fun _ _ => rfl)) pa_nil)) (pv 1)) (pg_sub (pv 0) pe_int set_list))
      (pss_one (ps_ret (pv 4)))))
      pss_nil)
    (pss_cons (ps_set (i := 5) sc__law_take.nd rfl (Or.inl rfl) (pe_op op_mod (pe_callTy call_int1 (by rfl) B.int bb_int (pa_cons (pe_op op_mul (pe_op op_add (pe_ix ix_list (pv 0) pe_int (fun _ _ => rfl)) pe_int) pe_int) pa_nil)) pe_int))
    (pss_cons (ps_set (i := 6) sc__law_take.nd rfl (Or.inl rfl) (pe_op op_mod (pe_callTy call_int1 (by rfl) B.int bb_int (pa_cons (pe_op op_mul (pe_op op_mod (pe_callTy call_int1 (by rfl) B.int bb_int (pa_cons (pe_op op_mul (pv 5) (pv 5)) pa_nil)) pe_int) pe_int) pa_nil)) pe_int))
    (pss_one (ps_ret (pe_op op_mod (pe_callTy call_int1 (by rfl) B.int bb_int (pa_cons (pe_op op_fdiv (pv 6) pe_int) pa_nil)) (pv 1)))))))), ?_⟩
  obtain ⟨x, y, z, l, cs, h1, h2, hlb, hx, hy0, hy1, hz, hcl, hc⟩ := hb
  refine ⟨fun σ H' => ∃ v2 v3, σ = [some (.ref b), some (.int many), v2, v3, none, none, none] ∧ Rel b H H', ?_, ?_⟩
  · refine ⟨_, rfl, b, _, 0, .int x, rfl, rfl, .of h1, atI_nat (j := 0) rfl, rfl, _, rfl, iteEq (fun e => ?_) fun e => ?_⟩
    · -- cell = (bag[3][bag[2]:] + [0])[0]
      refine ⟨_, rfl, b, _, 3, .ref l, rfl, rfl, .of h1, atI_nat (j := 3) rfl, _, rfl, b, _, 2, .int z, rfl, rfl, .of h1, atI_nat (j := 2) rfl, z, rfl, l, _, rfl, .of h2, fun p1 n1 => ?_⟩
      refine ⟨by show 1 ≤ sizeLine; decide, fun p2 n2 => ?_⟩
      have s1 := same_upd (o := .lst (cutV (cs.map V.int) (some z) none)) n1
      have s2 := same_upd (o := .lst [.int 0]) n2
      have hle : (cutV (cs.map V.int) (some z) none).length ≤ 63 := Nat.le_trans (cut_len _ _ _) (by rw [List.length_map]; exact hcl)
      refine ⟨p1, p2, _, _, rfl, rfl, s2 _ _ upd_same, upd_same, Nat.le_of_lt (small1000 (by show _ + 1 ≤ 1000; omega)), fun p3 n3 => ?_⟩
      have s3 := same_upd (o := .lst (cutV (cs.map V.int) (some z) none ++ [.int 0])) n3
      obtain ⟨c, hc0, hcv⟩ := head_cell hc (some z) none
      refine ⟨p3, _, 0, .int c, rfl, rfl, .of upd_same, atI_nat (j := 0) hcv, ?_⟩
      have s13 := (s1.trans s2).trans s3
      clear s1 s2 s3 n1 n2 n3 hle hcv
      revert s13
      generalize upd (upd (upd H p1 (.lst (cutV (cs.map V.int) (some z) none))) p2 (.lst [.int 0])) p3 (.lst (cutV (cs.map V.int) (some z) none ++ [.int 0])) = H3
      intro s13
      have g1 := s13 _ _ h1
      have g2 := s13 _ _ h2
      -- bag[2] += 1
      refine ⟨_, rfl, b, _, 2, .int z, rfl, rfl, .of g1, rfl, z, 1, rfl, rfl, b, _, 2, 2, rfl, rfl, g1, rfl, ?_⟩
      have r1 : Rel b H (upd H3 b (.lst [.int x, .int y, .int (z + 1), .ref l])) := ⟨fun a o n e => by rw [upd_ne n]; exact s13 a o e, fun k z => by rw [z.eq h1]; exact ⟨_, _, _, upd_same⟩, x, y, z + 1, l, cs, upd_same, by rw [upd_ne hlb]; exact g2, hlb, hx, hy0, hy1, by omega, hcl, hc⟩
      -- if cell >= 10 ** 18: bag[0] = cell
      refine ⟨fun σ H' => ∃ x', σ = [some (.ref b), some (.int many), some (.int c), none, none, none, none] ∧ Rel b H H' ∧ H' b = some (.lst [.int x', .int y, .int (z + 1), .ref l]) ∧ 0 ≤ x', ?_, ?_⟩
      · refine ⟨_, rfl, _, _, rfl, rfl, ⟨by decide, by decide, by decide⟩, _, _, rfl, rfl, _, rfl, iteP (fun h => ?_) fun h => ?_⟩
        · refine ⟨_, rfl, _, rfl, b, _, 0, 0, rfl, rfl, upd_same, rfl, c, rfl, ⟨fun a o n e => by rw [upd_ne n]; exact r1.keep a o n e, fun k z => by rw [z.eq h1]; exact ⟨_, _, _, upd_same⟩, c, y, z + 1, l, cs, upd_same, by rw [upd_ne hlb, upd_ne hlb]; exact g2, hlb, hc0, hy0, hy1, by omega, hcl, hc⟩, upd_same, hc0⟩
        · exact ⟨x, rfl, r1, upd_same, hx⟩
      · rintro σ H' ⟨x', rfl, R, hB, hx'⟩
        have e1 : l ≠ b := hlb
        have g3 : H' l = some (.lst (cs.map V.int)) := R.keep _ _ hlb h2
        refine ⟨_, rfl, b, _, 1, .int y, rfl, rfl, .of hB, atI_nat (j := 1) rfl, _, _, rfl, rfl, .inl ⟨by omega, by omega⟩, _, rfl, .inl ⟨_, rfl, _, _, rfl, rfl, (by show (0 : Int) < _; decide), _, _, rfl, rfl, _, rfl, b, _, 2, .int (z + 1), rfl, rfl, .of hB, atI_nat (j := 2) rfl, _, _, rfl, rfl, .inl ⟨by decide, by decide⟩, _, _, rfl, rfl, ?_⟩⟩
        refine ⟨_, rfl, .inl ⟨_, rfl, _, _, rfl, rfl, (by show (0 : Int) < _; decide), _, rfl, b, _, 1, 1, rfl, rfl, hB, rfl, _, _, rfl, ?_⟩⟩
        exact ⟨fun a o n e => by rw [upd_ne n]; exact R.keep a o n e, fun k z => by rw [z.eq h1]; exact ⟨_, _, _, upd_same⟩, x', _, z + 1, l, cs, upd_same, by rw [upd_ne hlb]; exact g3, hlb, hx', Int.emod_nonneg _ (by decide), Int.emod_lt_of_pos _ (by decide), by omega, hcl, hc⟩
    · exact ⟨_, _, rfl, .refl ⟨x, y, z, l, cs, h1, h2, hlb, hx, hy0, hy1, hz, hcl, hc⟩⟩
  · rintro σ H' ⟨v2, v3, rfl, R⟩
    obtain ⟨x, y, z, l, cs, h1, h2, hlb, hx, hy0, hy1, hz, hcl, hc⟩ := id R.bag
    refine ⟨_, rfl, b, _, 0, .int x, rfl, rfl, .of h1, atI_nat (j := 0) rfl, _, _, rfl, rfl, _, rfl, iteP (fun h => ?_) fun h => ?_⟩
    · refine ⟨_, rfl, b, _, 0, .int x, rfl, rfl, .of h1, atI_nat (j := 0) rfl, .inl ⟨_, rfl, _, rfl, _, _, rfl, rfl, hm0, ?_⟩⟩
      refine ⟨_, rfl, b, _, 0, .int x, rfl, rfl, .of h1, atI_nat (j := 0) rfl, .inl ⟨_, rfl, _, rfl, _, _, rfl, rfl, ⟨hm0, hm1⟩, _, rfl, b, _, 0, 0, rfl, rfl, h1, rfl, ?_⟩⟩
      refine ⟨_, rfl, k _ _ (Int.emod_nonneg _ (by omega)) (Int.emod_lt_of_pos _ hm0) ⟨fun a o n e => by rw [upd_ne n]; exact R.keep a o n e, fun k z => by rw [(R.cell k z).eq h1]; exact ⟨_, _, _, upd_same⟩, _, y, z, l, cs, upd_same, by rw [upd_ne hlb]; exact h2, hlb, Int.ediv_nonneg hx (by omega), hy0, hy1, hz, hcl, hc⟩⟩
    · have f1 := Int.emod_nonneg ((y + 1) * 39373) (show (1000000007 : Int) ≠ 0 by decide)
      have f2 := Int.emod_lt_of_pos ((y + 1) * 39373) (show (0 : Int) < 1000000007 by decide)
      refine ⟨_, rfl, b, _, 1, .int y, rfl, rfl, .of h1, atI_nat (j := 1) rfl, _, _, rfl, rfl, _, _, rfl, rfl, .inl ⟨by omega, by omega⟩, .inl ⟨_, rfl, _, _, rfl, rfl, (by show (0 : Int) < _; decide), ?_⟩⟩
      refine ⟨_, rfl, _, rfl, _, _, rfl, rfl, .inl ⟨by omega, by omega⟩, .inl ⟨_, rfl, _, _, rfl, rfl, (by show (0 : Int) < _; decide), _, _, rfl, rfl, .inr ⟨by decide, by decide⟩, .inl ⟨_, rfl, _, _, rfl, rfl, (by show (0 : Int) < _; decide), ?_⟩⟩⟩
      refine ⟨_, rfl, _, _, rfl, rfl, ⟨by decide, by decide⟩, .inl ⟨_, rfl, _, rfl, _, _, rfl, rfl, hm0, k _ _ (Int.emod_nonneg _ (by omega)) (Int.emod_lt_of_pos _ hm0) R⟩⟩
abbrev s_law_some : Stmt := topS 36
theorem sc__law_some : FnScope ["bag", "things"] ["bag", "things"] (defScope s_law_some) := ⟨rfl, rfl, rfl, by decide +kernel, rfl, by decide +kernel, by decide +kernel⟩
theorem ok__law_some {f : Addr} {fd : FuncData} (F : Fun K "_law_some" "_law_some" s_law_some f fd) (B : Bt mg) (c__law_take : CalG P w K mg base 1 "_law_take" spTake) : FnG P w K mg base 2 f fd ["bag", "things"] spSome := by
  refine Fun.okG F sc__law_some (fun vs H Q E h => ?_) (fun cdv A outer s H vs Q E hg hr h => ?_)
  · obtain ⟨b, t, xs, rfl, _⟩ := h
    rfl
  obtain ⟨b, t, xs, rfl, hb, ht, h1, h2, h3, k⟩ := h
  refine ⟨_, (pss_one (ps_ret (pe_ix ix_list (pv 1) (pc c__law_take hg hr (by decide) (by rfl) (pa_cons (pv 0) (pa_cons (pe_callB call_lenA (by rfl) B.len boot_len (pa_cons (pv 1) pa_nil)) pa_nil))) (fun _ _ => rfl)))), ?_⟩
  refine ⟨_, rfl, _, rfl, _, rfl, _, xs.length, rfl, .inl ⟨xs, .of h1, rfl⟩, b, _, rfl, hb, by omega, by omega, fun v H' v0 v1 R => ?_⟩
  obtain ⟨i, rfl⟩ : ∃ i : Nat, v = (i : Int) := ⟨v.toNat, by omega⟩
  have hi : i < xs.length := by omega
  exact ⟨t, xs, i, xs[i], rfl, rfl, .of (R.keep _ _ ht h1), atI_nat (List.getElem?_eq_getElem hi), k i _ H' (List.getElem?_eq_getElem hi) R⟩
/-- the FRACTION n / d -/
def spRed : Sp := fun vs H Q _ => ∃ n d : Int, vs = [.int n, .int d] ∧ d ≠ 0 ∧ d.natAbs < 2 ^ 8000 ∧ ∀ p, H p = none → Q (.ref p) (upd H p (.tup [.int (redI n d).1, .int (redI n d).2]))
abbrev s_law_reduced : Stmt := topS 41
theorem sc__law_reduced : FnScope ["n", "d", "shared"] ["n", "d"] (defScope s_law_reduced) := ⟨rfl, rfl, rfl, by decide +kernel, rfl, by decide +kernel, by decide +kernel⟩
theorem ok__law_reduced {f : Addr} {fd : FuncData} (F : Fun K "_law_reduced" "_law_reduced" s_law_reduced f fd) (B : Bt mg) (c__law_common : CalG P w K mg base 1 "_law_common" spCommon) : FnG P w K mg base 2 f fd ["n", "d"] spRed := by
  refine Fun.okG F sc__law_reduced (fun vs H Q E h => ?_) (fun cdv A outer s H vs Q E hg hr h => ?_)
  · obtain ⟨n, d, rfl, _⟩ := h
    rfl
  obtain ⟨n, d, rfl, h0, h1, k⟩ := h
  refine ⟨_, (pss_cons (ps_set (i := 2) sc__law_reduced.nd rfl (Or.inl rfl) (pe_callB (call_max2 rfl) (by rfl) B.max bb_max (pa_cons pe_int (pa_cons (pc c__law_common hg hr (by decide) (by rfl) (pa_cons (pv 0) (pa_cons (pv 1) pa_nil))) pa_nil))))
    (pss_cons (ps_if (pt_cmpR op_lt (pv 1) pe_int (nomark _))
      (pss_one (ps_ret (pe_tup (pa_cons (pe_op op_fdivW (pe_un un_neg (pv 0)) (pv 2)) (pa_cons (pe_op op_fdivW (pe_un un_neg (pv 1)) (pv 2)) pa_nil)))))
      pss_nil)
    (pss_one (ps_ret (pe_tup (pa_cons (pe_op op_fdivW (pv 0) (pv 2)) (pa_cons (pe_op op_fdivW (pv 1) (pv 2)) pa_nil))))))), ?_⟩
  have hw : CDivW 0 (sh n d) := wide_div (sh_pos n d) (Nat.lt_of_le_of_lt (sh_le h0) h1) (by decide) (by decide)
  have e1 : (if gI n d > 1 then gI n d else 1) = sh n d := rfl
  refine ⟨_, rfl, _, rfl, n, d, rfl, _, _, rfl, ?_⟩
  rw [e1]
  refine ⟨_, rfl, _, _, rfl, rfl, _, rfl, iteP (fun h => ?_) fun h => ?_⟩
  · have e2 : redI n d = ((-n) / sh n d, (-d) / sh n d) := if_pos h
    rw [e2] at k
    refine ⟨_, rfl, _, rfl, _, rfl, _, _, rfl, rfl, hw, _, rfl, _, rfl, _, rfl, _, _, rfl, rfl, hw, by show 2 ≤ sizeLine; decide, fun p np => k p np⟩
  · have e2 : redI n d = (n / sh n d, d / sh n d) := if_neg h
    rw [e2] at k
    refine ⟨_, rfl, _, rfl, _, _, rfl, rfl, hw, _, rfl, _, rfl, _, _, rfl, rfl, hw, by show 2 ≤ sizeLine; decide, fun p np => k p np⟩
abbrev s_law_number : Stmt := topS 50
theorem sc__law_number : FnScope ["bag", "most", "way"] ["bag", "most"] (defScope s_law_number) := ⟨rfl, rfl, rfl, by decide +kernel, rfl, by decide +kernel, by decide +kernel⟩
theorem ok__law_number {f : Addr} {fd : FuncData} (F : Fun K "_law_number" "_law_number" s_law_number f fd) (B : Bt mg) (c__law_take : CalG P w K mg base 1 "_law_take" spTake) (c__law_some : CalG P w K mg base 2 "_law_some" spSome) (c__law_reduced : CalG P w K mg base 2 "_law_reduced" spRed) :
    FnG P w K mg base 3 f fd ["bag", "most"] (spNumE K) := by
  refine Fun.okG F sc__law_number (fun vs H Q E h => ?_) (fun cdv A outer s H vs Q E hg hr h => ?_)
  · obtain ⟨most, _, _, b, mu, rfl, _⟩ := h
    rfl
  obtain ⟨most, hm0, hm1, b, mu, rfl, hmu, hb, hM, k⟩ := h
  refine ⟨_, (pss_cons (ps_set (i := 2) sc__law_number.nd rfl (Or.inl rfl) (pc c__law_take hg hr (by decide) (by rfl) (pa_cons (pv 0) (pa_cons pe_int pa_nil))))
    (pss_cons (ps_if (pt_cmpR op_eq (pv 2) pe_int (nomark _))
      (pss_one (ps_ret (pc c__law_reduced hg hr (by decide) (by rfl) (pa_cons (pe_op op_add pe_int (pc c__law_take hg hr (by decide) (by rfl) (pa_cons (pv 0) (pa_cons (pe_op op_mul pe_int (pv 1)) pa_nil)))) (pa_cons (pc c__law_some hg hr (by decide) (by rfl) (pa_cons (pv 0) (pa_cons (pe_lst (pa_cons pe_int (pa_cons pe_int (pa_cons pe_int pa_nil)))) pa_nil))) pa_nil)))))
      pss_nil)
    (pss_cons (ps_if (pt_cmpR op_eq (pv 2) pe_int (nomark _))
      (pss_one (ps_ret (pc c__law_some hg hr (by decide) (by rfl) (pa_cons (pv 0) (pa_cons (pe_lst (pa_cons (pe_tup (pa_cons pe_int (pa_cons pe_int pa_nil))) (pa_cons (pe_tup (pa_cons pe_int (pa_cons pe_int pa_nil))) (pa_cons (pe_tup (pa_cons pe_int (pa_cons pe_int pa_nil))) (pa_cons (pe_tup (pa_cons pe_int (pa_cons pe_int pa_nil))) (pa_cons (pe_tup (pa_cons pe_int (pa_cons pe_int pa_nil))) pa_nil)))))) pa_nil)))))
      pss_nil)
    (pss_one (ps_ret (pe_tup (pa_cons (pe_op op_add pe_int (pc c__law_take hg hr (by decide) (by rfl) (pa_cons (pv 0) (pa_cons (pv 1) pa_nil)))) (pa_cons pe_int pa_nil)))))))), ?_⟩
  -- way = _law_take(bag, 12)
  refine ⟨_, rfl, b, _, rfl, hb, by decide, by decide, fun way H1 w0 w1 R1 => ?_⟩
  have M1 := hM.rel R1
  refine ⟨_, rfl, rfl, _, rfl, iteEq (fun e => ?_) fun e => ?_⟩
  · -- _law_reduced(1 + _law_take(bag, 3 * most), _law_some(bag, [2, 3, 7]))
    refine ⟨_, rfl, _, rfl, _, _, rfl, rfl, .inl ⟨by decide, by decide⟩, b, _, rfl, R1.bag, by omega, by omega, fun t H2 t0 t1 R2 => ⟨_, _, rfl, rfl, ?_⟩⟩
    have M2 := M1.rel R2
    refine gv_some (K := K) (mu := mu) (D := fun d => ∃ j : Int, d = .int j ∧ 2 ≤ j ∧ j ≤ 7) (n := 3) hmu rfl (gvA_cons hmu (ge_int.gv ⟨2, rfl, by decide, by decide⟩) (gvA_cons hmu (ge_int.gv ⟨3, rfl, by decide, by decide⟩) (gvA_cons hmu (ge_int.gv ⟨7, rfl, by decide, by decide⟩) gvA_nil))) (by decide) (by decide) H2 (.refl R2.bag) M2 _ fun v H3 d hd R3 hv _ => ?_
    obtain ⟨j, rfl, j0, j1⟩ := hd
    cases hv
    have hp : (7 : Nat) < 2 ^ 8000 := by decide +kernel
    refine ⟨_, _, rfl, by omega, Nat.lt_of_le_of_lt (show j.natAbs ≤ 7 by omega) hp, fun p np => ?_⟩
    have R := (R1.trans R2).trans R3
    obtain ⟨q1, q2, q3, q4, q5⟩ := redI_pos (show 0 < 1 + t by omega) (show 0 < j by omega)
    exact k (.ref p) _ _ ⟨_, _, rfl, q1, by omega, q3, by omega, q5⟩ (R.same (same_upd np)) (.tup (.inl upd_same) (.cons (.int _) (.cons (.int _) .nil))) (own_not fun _ z => nomatch z)
  · refine ⟨_, rfl, rfl, _, rfl, iteEq (fun e1 => ?_) fun e1 => ?_⟩
    · have g : ∀ {σ : L2.St} {H0 : Hp} {n m : Int}, NumQ n m → Gv K b mu σ H0 (tTup (tCons (tC (.int n)) (tCons (tC (.int m)) tNil))) NumE := fun {σ H0 n m} h => (ge_tup hmu (geA_cons hmu ge_int (geA_cons hmu ge_int geA_nil)) (show 2 ≤ 1000 by decide)).gv (numE h)
      refine gv_some (K := K) (mu := mu) (D := NumE) (n := 5) hmu rfl (gvA_cons hmu (g ⟨by decide, by decide, by decide, by decide, by decide⟩) (gvA_cons hmu (g ⟨by decide, by decide, by decide, by decide, by decide⟩) (gvA_cons hmu (g ⟨by decide, by decide, by decide, by decide, by decide⟩) (gvA_cons hmu (g ⟨by decide, by decide, by decide, by decide, by decide⟩) (gvA_cons hmu (g ⟨by decide, by decide, by decide, by decide, by decide⟩) gvA_nil))))) (by decide) (by decide) H1 (.refl R1.bag) M1 _ fun v H3 d hd R3 hv _ => ?_
      exact k v H3 d hd (R1.trans R3) hv hd.not
    · refine ⟨_, rfl, _, rfl, b, _, rfl, R1.bag, by omega, by omega, fun t H2 t0 t1 R2 => ⟨_, _, rfl, rfl, by show 2 ≤ sizeLine; decide, fun p np => ?_⟩⟩
      refine k (.ref p) _ _ ⟨_, _, rfl, by omega, by omega, by decide, by decide, ?_⟩ ((R1.trans R2).same (same_upd np)) (.tup (.inl upd_same) (.cons (.int _) (.cons (.int _) .nil))) (own_not fun _ z => nomatch z)
      unfold gI
      simp
/-- a thing that is the same as itself by == -/
def Selfs (K : PySem.W.Frag) (H : Hp) (x y : V) : Prop := ∃ n, n ≤ 60 ∧ EqR K H (EqV K H n) x y
def spAlike (K : PySem.W.Frag) : Sp := fun vs H Q _ => ∃ (x y : V) (mu : Addr → Prop) (d : PyData), vs = [x, y] ∧ Dt K mu H x d ∧ Dt K mu H y d ∧ Ok d ∧ (d.hasDict = false ∨ (mu sysModules ∧ Selfs K H x y)) ∧ Q (.bl true) H
abbrev s_law_alike : Stmt := topS 38
theorem sc__law_alike : FnScope ["found", "due"] ["found", "due"] (defScope s_law_alike) := ⟨rfl, rfl, rfl, by decide +kernel, rfl, by decide +kernel, by decide +kernel⟩
theorem ok__law_alike {f : Addr} {fd : FuncData} (F : Fun K "_law_alike" "_law_alike" s_law_alike f fd) (B : Bt mg) : FnG P w K mg base 1 f fd ["found", "due"] (spAlike K) := by
  refine Fun.okG F sc__law_alike (fun vs H Q E h => ?_) (fun cdv A outer s H vs Q E hg hr h => ?_)
  · obtain ⟨x, y, mu, d, rfl, _⟩ := h
    rfl
  obtain ⟨x, y, mu, d, rfl, hx, hy, ho, hn, k⟩ := h
  have hu := Room.u64 hr
  refine ⟨_, (pss_one (ps_ret (pe_and (pe_cmpR (op_eqA hu) (pv 0) (pv 1) (nomark _)) (pe_one (pe_cmpR op_eq (pe_callB (call_repr hg hu) (by rfl) B.repr bb_repr (pa_cons (pv 0) pa_nil)) (pe_callB (call_repr hg hu) (by rfl) B.repr bb_repr (pa_cons (pv 1) pa_nil)) (nomark _)))))), ?_⟩
  have key : ∀ Q' : VK, Q' (.bl true) H → rEqA K x y H Q' := fun Q' q => by
    rcases hn with n | ⟨_, n, h1, h2⟩
    · refine .inl ⟨mu, d, d, hx, hy, ho.shaped n, ho.shaped n, ?_⟩
      rw [eqv_same (ok_lay d ho.ok n)]
      exact q
    · exact .inr (.inl ⟨n, h1, h2, q⟩)
  have hm : d.hasDict = false ∨ mu sysModules := hn.imp id And.left
  refine ⟨_, rfl, _, rfl, key _ ?_⟩
  refine ⟨_, rfl, iteT ⟨_, rfl, ?_⟩⟩
  refine ⟨x, mu, d, rfl, hx, ho.show, hm, by have := ho.dp; omega, ho.fits, ?_⟩
  refine ⟨_, rfl, ?_⟩
  refine ⟨y, mu, d, rfl, hy, ho.show, hm, by have := ho.dp; omega, ho.fits, ?_⟩
  have e : decide (V.str d.shown = V.str d.shown) = true := decide_eq_true rfl
  first
    | (show Q (.bl (decide (V.str d.shown = V.str d.shown))) H; rw [e]; exact k)
    | (refine ⟨rfl, ?_⟩; rw [e]; exact k)
    | (refine ⟨rfl, rfl, ?_⟩; rw [e]; exact k)
def spBag (K : PySem.W.Frag) : Sp := fun vs H Q _ => ∃ (a : Addr) (ns : List Int), vs = [.ref a] ∧ SqL K H a (ns.map V.int) ∧ ns.length ≤ 63 ∧ ∀ b H', Same H H' → H b = none → BagAt H' b → Q (.ref b) H'
abbrev s_law_bag : Stmt := topS 34
theorem sc__law_bag : FnScope ["script", "cell"] ["script"] (defScope s_law_bag) := ⟨rfl, rfl, rfl, by decide +kernel, rfl, by decide +kernel, by decide +kernel⟩
theorem ok__law_bag {f : Addr} {fd : FuncData} (F : Fun K "_law_bag" "_law_bag" s_law_bag f fd) (B : Bt mg) : FnG P w K mg base 1 f fd ["script"] (spBag K) := by
  refine Fun.okG F sc__law_bag (fun vs H Q E h => ?_) (fun cdv A outer s H vs Q E hg hr h => ?_)
  · obtain ⟨a, ns, rfl, _⟩ := h
    rfl
  obtain ⟨a, ns, rfl, hS, hl, k⟩ := h
  refine ⟨_, (pss_one (ps_ret (pe_lst (pa_cons pe_int (pa_cons pe_int (pa_cons pe_int (pa_cons (pe_lc (own := [("cell", 1)]) rfl sc__law_bag.nd (pi_list (pe_slice sl_list (pv 0) po_none (po_some pe_int))) (blkOk_by (own := [("cell", 1)]) (N := ["script", "cell"]) (sc := (defScope s_law_bag)) (by decide +kernel)) (fun _ _ _ _ _ => (pg_name (i := 1) sc__law_bag.nd rfl (Or.inl rfl))) (fun _ _ _ _ _ => pts_nil) (fun _ _ _ _ _ => (pe_callB call_abs (by rfl) B.abs bb_abs (pa_cons (pv 1) pa_nil)))) pa_nil))))))), ?_⟩
  refine ⟨_, rfl, 63, rfl, a, _, rfl, hS, fun p np => ?_⟩
  have sp := same_upd (o := .lst (cutV (ns.map V.int) none (some 63))) np
  obtain ⟨ms, em, hms⟩ : ∃ ms : List Int, cutV (ns.map V.int) none (some 63) = ms.map V.int ∧ ms.length ≤ 63 := by
    refine ⟨(ns.drop (HT.sIx ns.length 0 none)).take (HT.sIx ns.length ns.length (some 63) - HT.sIx ns.length 0 none), ?_, ?_⟩
    · unfold cutV
      rw [List.map_take, List.map_drop, List.length_map]
    · rw [List.length_take, List.length_drop]
      omega
  rw [em] at sp ⊢
  refine ⟨p, rfl, ⟨_, .inl (.inl upd_same)⟩, fun D nD => ?_⟩
  have sD := same_upd (o := .lst []) nD
  have nDp : p ≠ D := fun z => by
    rw [← z, upd_same] at nD
    cases nD
  refine lc_it (walk_list (xs := ms.map V.int) (a := p)) (fun i H' => Same H H' ∧ H' p = some (.lst (ms.map V.int)) ∧ H' D = some (.lst (((ms.take i).map fun c => if c < 0 then -c else c).map V.int))) ⟨sp.trans sD, sD _ _ upd_same, by rw [upd_same]; rfl⟩ (fun i H' _ h => .inl (.inl h.2.1)) (fun i x H2 H3 hi h y => ?_) fun H2 h => ?_
  · obtain ⟨h1, h2, h3⟩ := h
    obtain ⟨rfl, hx⟩ := y
    rw [List.getElem?_map] at hx
    have hi' : i < ms.length := by simpa using hi
    rw [List.getElem?_eq_getElem hi'] at hx
    cases hx
    refine ⟨rfl, _, rfl, _, rfl, _, h3, Nat.lt_of_le_of_lt (by rw [List.length_map, List.length_map, List.length_take]; exact Nat.min_le_left _ _) (small1000 (show i ≤ 1000 by omega)), fun q o e => ?_, ?_, ?_⟩
    · have nq : q ≠ D := fun z => by
        have e2 := sp _ _ e
        rw [z, nD] at e2
        cases e2
      rw [upd_ne nq]
      exact h1 q o e
    · rw [upd_ne nDp]
      exact h2
    · rw [upd_same, List.take_add_one, List.getElem?_eq_getElem hi', List.map_append, List.map_append]
      rfl
  · obtain ⟨h1, h2, h3⟩ := h
    rw [show List.take (ms.map V.int).length ms = ms from List.take_of_length_le (by rw [List.length_map]; exact Nat.le_refl _)] at h3
    refine ⟨by show 4 ≤ sizeLine; decide, fun b nb => ?_⟩
    have s3 := same_upd (o := .lst [.int 0, .int 1234567891, .int 0, .ref D]) nb
    have nbD : D ≠ b := fun z => by
      rw [z, nb] at h3
      cases h3
    have hb0 : H b = none := by
      cases e : H b with
      | none => rfl
      | some o =>
        rw [h1 _ _ e] at nb
        cases nb
    refine k b _ (h1.trans s3) hb0 ⟨0, 1234567891, 0, D, ms.map fun c => if c < 0 then -c else c, upd_same, s3 _ _ h3, nbD, by decide, by decide, by decide, by decide, by rw [List.length_map]; exact hms, fun c hc => ?_⟩
    obtain ⟨z, _, rfl⟩ := List.mem_map.mp hc
    split <;> omega
abbrev sis_integer : Stmt := topS 16
theorem sc_is_integer : FnScope ["thing"] ["thing"] (defScope sis_integer) := ⟨rfl, rfl, rfl, by decide +kernel, rfl, by decide +kernel, by decide +kernel⟩
theorem ok_is_integer {f : Addr} {fd : FuncData} (F : Fun K "is_integer" "is_integer" sis_integer f fd) (B : Bt mg) : FnG P w K mg base 1 f fd ["thing"] (spP K isInt) := by
  refine Fun.okG F sc_is_integer spP_len (fun cdv A outer s H vs Q E hg hr h => ?_)
  obtain ⟨v, mu, d, rfl, hd, ho, k⟩ := h
  refine ⟨_, (pss_one (ps_ret (pe_and (pe_callB call_isD (by rfl) B.isin bb_isin (pa_cons (pv 0) (pa_cons (pe_bltn (v := .ty "int") rfl B.int bb_int rfl) pa_nil))) (pe_one (pe_not (pe_callB call_isD (by rfl) B.isin bb_isin (pa_cons (pv 0) (pa_cons (pe_bltn (v := .ty "bool") rfl B.bool bb_bool rfl) pa_nil)))))))), ?_⟩
  refine ⟨_, rfl, _, "int", mu, d, rfl, by decide, hd, _, rfl, ?_⟩
  have k := k H (Same.refl H)
  unfold isInt at k
  cases h1 : isT "int" d with
  | false =>
    rw [h1] at k
    exact iteF k
  | true =>
    rw [h1] at k
    exact iteT ⟨_, rfl, _, "bool", mu, d, rfl, by decide, hd, _, rfl, k⟩
abbrev sis_fraction : Stmt := topS 17
theorem sc_is_fraction : FnScope ["thing", "n", "d"] ["thing"] (defScope sis_fraction) := ⟨rfl, rfl, rfl, by decide +kernel, rfl, by decide +kernel, by decide +kernel⟩
theorem ok_is_fraction {f : Addr} {fd : FuncData} (F : Fun K "is_fraction" "is_fraction" sis_fraction f fd) (B : Bt mg) (T : Tx mg) (c_is_integer : CalG P w K mg base 1 "is_integer" (spP K isInt)) : FnG P w K mg base 2 f fd ["thing"] (spP K isFrac) := by
  refine Fun.okG F sc_is_fraction spP_len (fun cdv A outer s H vs Q E hg hr h => ?_)
  obtain ⟨v, mu, d, rfl, hd, ho, k⟩ := h
  refine ⟨_, (pss_cons (ps_if (PW.pt (pw_or (pt_not (pt_val (pe_callB call_isD (by rfl) B.isin bb_isin (pa_cons (pv 0) (pa_cons (pe_bltn (v := .ty "tuple") rfl B.tuple bb_tuple rfl) pa_nil))))) (pw_or1 (pt_cmpR op_ne (pe_callB call_lenA (by rfl) B.len boot_len (pa_cons (pv 0) pa_nil)) pe_int (nomark _)))))
      (pss_one (ps_ret pe_bl))
      pss_nil)
    (pss_cons (ps_asg (pv 0) (pg_tup (n := 2) rfl (pgs_cons (pg_name (i := 1) sc_is_fraction.nd rfl (Or.inl rfl)) (pgs_cons (pg_name (i := 2) sc_is_fraction.nd rfl (Or.inl rfl)) pgs_nil))))
    (pss_one (ps_ret (pe_and (pc c_is_integer hg hr (by decide) (by rfl) (pa_cons (pv 1) pa_nil)) (pe_and (pc c_is_integer hg hr (by decide) (by rfl) (pa_cons (pv 2) pa_nil)) (pe_and (pe_cmpR op_ge (pv 2) pe_int (nomark _)) (pe_one (pe_cmpR op_eq (pe_callBfun cr_gcd (by rfl) T.gcd (pa_cons (pv 1) (pa_cons (pv 2) pa_nil))) pe_int (nomark _)))))))))), ?_⟩
  refine ⟨_, rfl, _, "tuple", mu, d, rfl, by decide, hd, _, rfl, ?_⟩
  have k0 := k H (Same.refl H)
  refine iteN (fun ht => ?_) fun ht => ?_
  · have e : isFrac d = false := by
      cases d <;> first | rfl | (simp [isT, tyName] at ht)
    rw [e] at k0
    exact iteT k0
  · obtain ⟨ds, rfl⟩ := (isTup d).mp ht
    obtain ⟨a, xs, rfl, hS, hA⟩ := hd.tupAt
    have el := hA.length
    refine ⟨_, rfl, _, xs.length, rfl, .inr ⟨_, hS, rfl⟩, rfl, _, rfl, iteNe (fun hn => ?_) fun hn => ?_⟩
    · have e : isFrac (.tuple ds) = false := by
        unfold isFrac
        split
        · rename_i z
          injection z with z
          rw [z] at el
          simp at el
          omega
        · rfl
      rw [e] at k0
      exact k0
    · obtain ⟨x, y, d1, d2, rfl, rfl, r1, r2⟩ := hA.two (by omega)
      · have o1 : Ok d1 := ho.inT (by simp)
        have o2 : Ok d2 := ho.inT (by simp)
        refine ⟨_, rfl, a, [x, y], rfl, hS, rfl, x, [y], rfl, y, [], rfl, rfl, ?_⟩
        have no : (∀ n m, d1 = .int n → d2 = .int m → False) → isFrac (.tuple [d1, d2]) = false := fun z => by
          unfold isFrac
          split
          · rename_i q
            injection q with q
            injection q with q1 q
            injection q with q2 _
            exact (z _ _ q1 q2).elim
          · rfl
        refine ⟨x, rfl, x, mu, d1, rfl, r1, o1, fun H1 s1 => ⟨_, rfl, iteB (fun h1 => ?_) fun h1 => ?_⟩⟩
        · refine ⟨y, rfl, y, mu, d2, rfl, r2.fut (.of_same s1), o2, fun H2 s2 => ⟨_, rfl, iteB (fun h2 => ?_) fun h2 => ?_⟩⟩
          · obtain ⟨n, rfl⟩ := (isIntD d1).mp h1
            obtain ⟨m, rfl⟩ := (isIntD d2).mp h2
            cases r1
            cases r2
            have kk := k H2 (s1.trans s2)
            rw [isFrac_eq] at kk
            refine ⟨_, rfl, _, _, rfl, rfl, _, rfl, iteP (fun h3 => ?_) fun h3 => ?_⟩
            · rw [decide_eq_true h3, Bool.true_and] at kk
              refine ⟨_, rfl, _, rfl, _, _, rfl, rfl, ?_⟩
              show Q (.bl (decide (V.int (gI n m) = V.int 1))) H2
              rw [Sw.dec_int]
              exact kk
            · rw [decide_eq_false h3, Bool.false_and] at kk
              exact kk
          · have kk := k H2 (s1.trans s2)
            rw [no fun n m e1 e2 => by rw [e2] at h2; cases h2] at kk
            exact kk
        · have kk := k H1 s1
          rw [no fun n m e1 e2 => by rw [e1] at h1; cases h1] at kk
          exact kk
abbrev sis_amount : Stmt := topS 18
theorem sc_is_amount : FnScope ["thing"] ["thing"] (defScope sis_amount) := ⟨rfl, rfl, rfl, by decide +kernel, rfl, by decide +kernel, by decide +kernel⟩
theorem ok_is_amount {f : Addr} {fd : FuncData} (F : Fun K "is_amount" "is_amount" sis_amount f fd) (B : Bt mg) (c_is_fraction : CalG P w K mg base 2 "is_fraction" (spP K isFrac)) : FnG P w K mg base 3 f fd ["thing"] (spP K isAmt) := by
  refine Fun.okG F sc_is_amount spP_len (fun cdv A outer s H vs Q E hg hr h => ?_)
  obtain ⟨v, mu, d, rfl, hd, ho, k⟩ := h
  refine ⟨_, (pss_one (ps_ret (pe_and (pc c_is_fraction hg hr (by decide) (by rfl) (pa_cons (pv 0) pa_nil)) (pe_one (pe_cmpR op_ge (pe_ix ix_tup (pv 0) pe_int (fun _ _ => rfl)) pe_int (nomark _)))))), ?_⟩
  refine ⟨v, rfl, v, mu, d, rfl, hd, ho, fun H1 s1 => ⟨_, rfl, iteB (fun h1 => ?_) fun h1 => ?_⟩⟩
  · have k1 := k H1 s1
    obtain ⟨n, m, rfl⟩ : ∃ n m, d = .tuple [.int n, .int m] := by
      unfold isFrac at h1
      split at h1
      · exact ⟨_, _, rfl⟩
      · cases h1
    · obtain ⟨a, xs, rfl, hS, hA⟩ := (hd.fut (.of_same s1)).tupAt
      obtain ⟨x, y, d1, d2, rfl, e2, r1, r2⟩ := hA.two rfl
      injection e2 with e3 e4
      injection e4 with e4 _
      subst e3 e4
      cases r1
      refine ⟨_, rfl, a, _, 0, .int n, rfl, rfl, hS, atI_nat (j := 0) rfl, _, _, rfl, rfl, ?_⟩
      rw [isAmt_eq, h1, Bool.true_and] at k1
      exact k1
  · have k1 := k H1 s1
    have e : isAmt d = false := by
      unfold isAmt
      split
      · rw [h1, Bool.false_and]
      · rfl
    rw [e] at k1
    exact k1
abbrev sis_above_zero : Stmt := topS 19
theorem sc_is_above_zero : FnScope ["thing"] ["thing"] (defScope sis_above_zero) := ⟨rfl, rfl, rfl, by decide +kernel, rfl, by decide +kernel, by decide +kernel⟩
theorem ok_is_above_zero {f : Addr} {fd : FuncData} (F : Fun K "is_above_zero" "is_above_zero" sis_above_zero f fd) (B : Bt mg) (c_is_fraction : CalG P w K mg base 2 "is_fraction" (spP K isFrac)) : FnG P w K mg base 3 f fd ["thing"] (spP K isAb) := by
  refine Fun.okG F sc_is_above_zero spP_len (fun cdv A outer s H vs Q E hg hr h => ?_)
  obtain ⟨v, mu, d, rfl, hd, ho, k⟩ := h
  refine ⟨_, (pss_one (ps_ret (pe_and (pc c_is_fraction hg hr (by decide) (by rfl) (pa_cons (pv 0) pa_nil)) (pe_one (pe_cmpR op_gt (pe_ix ix_tup (pv 0) pe_int (fun _ _ => rfl)) pe_int (nomark _)))))), ?_⟩
  refine ⟨v, rfl, v, mu, d, rfl, hd, ho, fun H1 s1 => ⟨_, rfl, iteB (fun h1 => ?_) fun h1 => ?_⟩⟩
  · have k1 := k H1 s1
    obtain ⟨n, m, rfl⟩ : ∃ n m, d = .tuple [.int n, .int m] := by
      unfold isFrac at h1
      split at h1
      · exact ⟨_, _, rfl⟩
      · cases h1
    · obtain ⟨a, xs, rfl, hS, hA⟩ := (hd.fut (.of_same s1)).tupAt
      obtain ⟨x, y, d1, d2, rfl, e2, r1, r2⟩ := hA.two rfl
      injection e2 with e3 e4
      injection e4 with e4 _
      subst e3 e4
      cases r1
      refine ⟨_, rfl, a, _, 0, .int n, rfl, rfl, hS, atI_nat (j := 0) rfl, _, _, rfl, rfl, ?_⟩
      have e : isAb (.tuple [.int n, .int m]) = (isFrac (.tuple [.int n, .int m]) && decide (0 < n)) := rfl
      rw [e, h1, Bool.true_and] at k1
      exact k1
  · have k1 := k H1 s1
    have e : isAb d = false := by
      unfold isAb
      split
      · rw [h1, Bool.false_and]
      · rfl
    rw [e] at k1
    exact k1
abbrev s_law_is_int : Stmt := topS 39
theorem sc__law_is_int : FnScope ["thing"] ["thing"] (defScope s_law_is_int) := ⟨rfl, rfl, rfl, by decide +kernel, rfl, by decide +kernel, by decide +kernel⟩
theorem ok__law_is_int {f : Addr} {fd : FuncData} (F : Fun K "_law_is_int" "_law_is_int" s_law_is_int f fd) (B : Bt mg) : FnG P w K mg base 1 f fd ["thing"] (spP K isInt) := by
  refine Fun.okG F sc__law_is_int spP_len (fun cdv A outer s H vs Q E hg hr h => ?_)
  obtain ⟨v, mu, d, rfl, hd, ho, k⟩ := h
  refine ⟨_, (pss_one (ps_ret (pe_and (pe_callB call_isD (by rfl) B.isin bb_isin (pa_cons (pv 0) (pa_cons (pe_bltn (v := .ty "int") rfl B.int bb_int rfl) pa_nil))) (pe_one (pe_not (pe_callB call_isD (by rfl) B.isin bb_isin (pa_cons (pv 0) (pa_cons (pe_bltn (v := .ty "bool") rfl B.bool bb_bool rfl) pa_nil)))))))), ?_⟩
  refine ⟨_, rfl, _, "int", mu, d, rfl, by decide, hd, _, rfl, ?_⟩
  have k := k H (Same.refl H)
  unfold isInt at k
  cases h1 : isT "int" d with
  | false =>
    rw [h1] at k
    exact iteF k
  | true =>
    rw [h1] at k
    exact iteT ⟨_, rfl, _, "bool", mu, d, rfl, by decide, hd, _, rfl, k⟩
abbrev s_law_is_fraction : Stmt := topS 57
theorem sc__law_is_fraction : FnScope ["thing"] ["thing"] (defScope s_law_is_fraction) := ⟨rfl, rfl, rfl, by decide +kernel, rfl, by decide +kernel, by decide +kernel⟩
theorem ok__law_is_fraction {f : Addr} {fd : FuncData} (F : Fun K "_law_is_fraction" "_law_is_fraction" s_law_is_fraction f fd) (B : Bt mg) (c__law_is_int : CalG P w K mg base 1 "_law_is_int" (spP K isInt)) (c__law_common : CalG P w K mg base 1 "_law_common" spCommon) : FnG P w K mg base 2 f fd ["thing"] (spP K isFrac) := by
  refine Fun.okG F sc__law_is_fraction spP_len (fun cdv A outer s H vs Q E hg hr h => ?_)
  obtain ⟨v, mu, d, rfl, hd, ho, k⟩ := h
  refine ⟨_, (pss_cons (ps_if (PW.pt (pw_or (pt_not (pt_val (pe_callB call_isD (by rfl) B.isin bb_isin (pa_cons (pv 0) (pa_cons (pe_bltn (v := .ty "tuple") rfl B.tuple bb_tuple rfl) pa_nil))))) (pw_or (pt_cmpR op_ne (pe_callB call_lenA (by rfl) B.len boot_len (pa_cons (pv 0) pa_nil)) pe_int (nomark _)) (pw_or (pt_not (pt_val (pc c__law_is_int hg hr (by decide) (by rfl) (pa_cons (pe_ix ix_tup (pv 0) pe_int (fun _ _ => rfl)) pa_nil)))) (pw_or1 (pt_not (pt_val (pc c__law_is_int hg hr (by decide) (by rfl) (pa_cons (pe_ix ix_tup (pv 0) pe_int (fun _ _ => rfl)) pa_nil)))))))))
      (pss_one (ps_ret pe_bl))
      pss_nil)
    (pss_one (ps_ret (pe_and (pe_cmpR op_gt (pe_ix ix_tup (pv 0) pe_int (fun _ _ => rfl)) pe_int (nomark _)) (pe_one (pe_cmpR op_eq (pc c__law_common hg hr (by decide) (by rfl) (pa_cons (pe_ix ix_tup (pv 0) pe_int (fun _ _ => rfl)) (pa_cons (pe_ix ix_tup (pv 0) pe_int (fun _ _ => rfl)) pa_nil))) pe_int (nomark _))))))), ?_⟩
  refine ⟨_, rfl, _, "tuple", mu, d, rfl, by decide, hd, _, rfl, ?_⟩
  have k0 := k H (Same.refl H)
  refine iteN (fun ht => ?_) fun ht => ?_
  · have e : isFrac d = false := by
      cases d <;> first | rfl | (simp [isT, tyName] at ht)
    rw [e] at k0
    exact k0
  · obtain ⟨ds, rfl⟩ := (isTup d).mp ht
    obtain ⟨a, xs, rfl, hS, hA⟩ := hd.tupAt
    have el := hA.length
    refine ⟨_, rfl, _, xs.length, rfl, .inr ⟨_, hS, rfl⟩, rfl, _, rfl, iteNe (fun hn => ?_) fun hn => ?_⟩
    · have e : isFrac (.tuple ds) = false := by
        unfold isFrac
        split
        · rename_i z
          injection z with z
          rw [z] at el
          simp at el
          omega
        · rfl
      rw [e] at k0
      exact k0
    · obtain ⟨x, y, d1, d2, rfl, rfl, r1, r2⟩ := hA.two (by omega)
      have o1 : Ok d1 := ho.inT (by simp)
      have o2 : Ok d2 := ho.inT (by simp)
      have no : (∀ n m, d1 = .int n → d2 = .int m → False) → isFrac (.tuple [d1, d2]) = false := fun z => by
        unfold isFrac
        split
        · rename_i q
          injection q with q
          injection q with q1 q
          injection q with q2 _
          exact (z _ _ q1 q2).elim
        · rfl
      refine ⟨_, rfl, a, _, 0, x, rfl, rfl, hS, atI_nat (j := 0) rfl, x, mu, d1, rfl, r1, o1, fun H1 s1 => ⟨_, rfl, iteN (fun h1 => ?_) fun h1 => ?_⟩⟩
      · have kk := k H1 s1
        rw [no fun n m e1 e2 => by rw [e1] at h1; cases h1] at kk
        exact kk
      · have hS1 : SqT K H1 a [x, y] := s1.seqT hS
        refine ⟨_, rfl, a, _, 1, y, rfl, rfl, hS1, atI_nat (j := 1) rfl, y, mu, d2, rfl, r2.fut (.of_same s1), o2, fun H2 s2 => ⟨_, rfl, iteN (fun h2 => ?_) fun h2 => ?_⟩⟩
        · have kk := k H2 (s1.trans s2)
          rw [no fun n m e1 e2 => by rw [e2] at h2; cases h2] at kk
          exact kk
        · obtain ⟨n, rfl⟩ := (isIntD d1).mp h1
          obtain ⟨m, rfl⟩ := (isIntD d2).mp h2
          cases r1
          cases r2
          have hS2 := s2.seqT hS1
          have kk := k H2 (s1.trans s2)
          rw [isFrac_eq] at kk
          refine ⟨_, rfl, a, _, 1, .int m, rfl, rfl, hS2, atI_nat (j := 1) rfl, _, _, rfl, rfl, _, rfl, iteP (fun h3 => ?_) fun h3 => ?_⟩
          · rw [decide_eq_true (show 1 ≤ m by omega), Bool.true_and] at kk
            refine ⟨_, rfl, a, _, 0, .int n, rfl, rfl, hS2, atI_nat (j := 0) rfl, _, rfl, a, _, 1, .int m, rfl, rfl, hS2, atI_nat (j := 1) rfl, n, m, rfl, rfl, ?_⟩
            show Q (.bl (decide (V.int (gI n m) = V.int 1))) H2
            rw [Sw.dec_int]
            exact kk
          · rw [decide_eq_false (show ¬ 1 ≤ m by omega), Bool.false_and] at kk
            exact kk
end
end K49
namespace K49
open PySem PySem.Spec PyProof.Rows L2 Sw
/-- not too great -/
def Bg (n : Int) : Prop := n.natAbs < 2 ^ 3000
theorem Bg.w {n : Int} (h : Bg n) : n.natAbs < 2 ^ 8000 := Nat.lt_of_lt_of_le h (Nat.pow_le_pow_right (by decide) (by decide))
theorem Bg.div {n c : Int} (h : Bg n) : Bg (n / c) := Nat.lt_of_le_of_lt div_le h
theorem Bg.gcd {n c : Int} (h : Bg c) (h0 : c ≠ 0) : Bg (gI n c) := Nat.lt_of_le_of_lt (gI_le h0) h
theorem Bg.neg {n : Int} (h : Bg n) : Bg (-n) := by
  unfold Bg
  rw [Int.natAbs_neg]
  exact h
section
variable {P : Program} {w : World} {K : PySem.W.Frag} {mg : Str → Option Value} {base : Heap}
/-- two FRACTIONS -/
def spTwo (K : PySem.W.Frag) (r : Int → Int → Int → Int → Int × Int) : Sp := fun vs H Q _ => ∃ (x y : V) (n d m e : Int), vs = [x, y] ∧ Cpl K H x n d ∧ Cpl K H y m e ∧ Fr n d ∧ Fr m e ∧ Bg n ∧ Bg d ∧ Bg m ∧ Bg e ∧ Res Q H (r n d m e)
def addF (n d m e : Int) : Int × Int := redI (n * e + m * d) (d * e)
def subF (n d m e : Int) : Int × Int := redI (n * e - m * d) (d * e)
def mulF (n d m e : Int) : Int × Int := redI (n * m) (d * e)
abbrev sadded : Stmt := topS 6
theorem sc_added : FnScope ["one", "other", "n", "d", "m", "e", "common", "part", "left"] ["one", "other"] (defScope sadded) := ⟨rfl, rfl, rfl, by decide +kernel, rfl, by decide +kernel, by decide +kernel⟩
theorem ok_added {f : Addr} {fd : FuncData} (F : Fun K "added" "added" sadded f fd) (B : Bt mg) (T : Tx mg) : FnG P w K mg base 1 f fd ["one", "other"] (spTwo K addF) := by
  refine Fun.okG F sc_added (fun vs H Q E h => ?_) (fun cdv A outer s H vs Q E hg hr h => ?_)
  · obtain ⟨x, y, _, _, _, _, rfl, _⟩ := h
    rfl
  obtain ⟨x, y, n, d, m, e, rfl, ⟨a, rfl, ha⟩, ⟨b, rfl, hb⟩, f1, f2, bn, bd, bm, be, k⟩ := h
  refine ⟨_, (pss_cons (ps_asg (pe_tup (pa_cons (pv 0) (pa_cons (pv 1) pa_nil))) (pg_tup (n := 2) rfl (pgs_cons (pg_tup (n := 2) rfl (pgs_cons (pg_name (i := 2) sc_added.nd rfl (Or.inl rfl)) (pgs_cons (pg_name (i := 3) sc_added.nd rfl (Or.inl rfl)) pgs_nil))) (pgs_cons (pg_tup (n := 2) rfl (pgs_cons (pg_name (i := 4) sc_added.nd rfl (Or.inl rfl)) (pgs_cons (pg_name (i := 5) sc_added.nd rfl (Or.inl rfl)) pgs_nil))) pgs_nil))))
    (pss_cons (ps_set (i := 6) sc_added.nd rfl (Or.inl rfl) (pe_callBfun cr_gcd (by rfl) T.gcd (pa_cons (pv 3) (pa_cons (pv 5) pa_nil))))
    (pss_cons (ps_set (i := 7) sc_added.nd rfl (Or.inl rfl) (pe_op op_add (pe_op op_mulW (pv 2) (pe_op op_fdivW (pv 5) (pv 6))) (pe_op op_mulW (pv 4) (pe_op op_fdivW (pv 3) (pv 6)))))
    (pss_cons (ps_set (i := 8) sc_added.nd rfl (Or.inl rfl) (pe_callBfun cr_gcd (by rfl) T.gcd (pa_cons (pv 7) (pa_cons (pv 6) pa_nil))))
    (pss_one (ps_ret (pe_tup (pa_cons (pe_op op_fdivW (pv 7) (pv 8)) (pa_cons (pe_op op_mulW (pe_op op_fdivW (pv 3) (pv 6)) (pe_op op_fdivW (pv 5) (pv 8))) pa_nil))))))))), ?_⟩
  refine ⟨_, rfl, _, rfl, by show 2 ≤ sizeLine; decide, fun p np => ?_⟩
  have s1 := same_upd (o := .tup [.ref a, .ref b]) np
  refine ⟨p, _, rfl, .inl (.inl upd_same), rfl, _, _, rfl, a, _, rfl, s1.seqT ha, rfl, _, _, rfl, _, _, rfl, rfl, _, _, rfl, b, _, rfl, s1.seqT hb, rfl, _, _, rfl, _, _, rfl, rfl, rfl, ?_⟩
  have he : e ≠ 0 := by have := f2.pos; omega
  have gp := gI_pos (a := d) he
  have bg := be.gcd (n := d) he
  have k' := k.now s1 (add_red f1 f2)
  refine ⟨_, rfl, _, rfl, d, e, rfl, ?_⟩
  have hl := gI_pos (a := n * (e / gI d e) + m * (d / gI d e)) (b := gI d e) (by omega)
  have bl := bg.gcd (n := n * (e / gI d e) + m * (d / gI d e)) (by omega)
  refine ⟨_, rfl, _, rfl, _, rfl, _, _, rfl, rfl, divW gp bg.w, _, _, rfl, rfl, mulW bn.w be.div.w, _, rfl, _, rfl, _, rfl, _, _, rfl, rfl, divW gp bg.w, _, _, rfl, rfl, mulW bm.w bd.div.w, _, _, rfl, rfl, ?_⟩
  refine ⟨_, rfl, _, rfl, _, _, rfl, ?_⟩
  refine ⟨_, rfl, _, rfl, _, _, rfl, rfl, divW hl bl.w, _, rfl, _, rfl, _, _, rfl, rfl, divW gp bg.w, _, rfl, _, rfl, _, _, rfl, rfl, divW hl bl.w, _, _, rfl, rfl, mulW bd.div.w be.div.w, by show 2 ≤ sizeLine; decide, k'⟩
theorem Bg.mul {n m : Int} (h : Bg n) (k : Bg m) : (n * m).natAbs < 2 ^ 6000 := natAbs_lt_mul h k
theorem w6 {n : Int} (h : n.natAbs < 2 ^ 6000) : n.natAbs < 2 ^ 8000 := Nat.lt_of_lt_of_le h (Nat.pow_le_pow_right (by decide) (by decide))
def divF (n d m e : Int) : Int × Int := redI (n * e) (d * m)
def cmpF (n d m e : Int) : Int := if n * e < m * d then -1 else if n * e > m * d then 1 else 0
theorem subF_add (n d m e : Int) : addF n d (-m) e = subF n d m e := by
  unfold addF subF
  rw [Int.neg_mul, ← Int.sub_eq_add_neg]
theorem spTwo_len {K : PySem.W.Frag} {r : Int → Int → Int → Int → Int × Int} {a b : Str} : ∀ vs H Q E, spTwo K r vs H Q E → vs.length = [a, b].length := fun vs H Q E h => by
  obtain ⟨x, y, _, _, _, _, rfl, _⟩ := h
  rfl
abbrev slessened : Stmt := topS 7
theorem sc_lessened : FnScope ["one", "other"] ["one", "other"] (defScope slessened) := ⟨rfl, rfl, rfl, by decide +kernel, rfl, by decide +kernel, by decide +kernel⟩
theorem ok_lessened {f : Addr} {fd : FuncData} (F : Fun K "lessened" "lessened" slessened f fd) (B : Bt mg) (c_added : CalG P w K mg base 1 "added" (spTwo K addF)) : FnG P w K mg base 2 f fd ["one", "other"] (spTwo K subF) := by
  refine Fun.okG F sc_lessened spTwo_len (fun cdv A outer s H vs Q E hg hr h => ?_)
  obtain ⟨x, y, n, d, m, e, rfl, hx, ⟨b, rfl, hb⟩, f1, f2, bn, bd, bm, be, k⟩ := h
  refine ⟨_, (pss_one (ps_ret (pc c_added hg hr (by decide) (by rfl) (pa_cons (pv 0) (pa_cons (pe_tup (pa_cons (pe_un un_neg (pe_ix ix_tup (pv 1) pe_int (fun _ _ => rfl))) (pa_cons (pe_ix ix_tup (pv 1) pe_int (fun _ _ => rfl)) pa_nil))) pa_nil))))), ?_⟩
  refine ⟨_, rfl, _, rfl, b, _, 0, _, rfl, rfl, hb, atI_nat (j := 0) rfl, _, rfl, _, rfl, b, _, 1, _, rfl, rfl, hb, atI_nat (j := 1) rfl, by show 2 ≤ sizeLine; decide, fun p np => ?_⟩
  have s1 := same_upd (o := .tup [.int (-m), .int e]) np
  refine ⟨x, .ref p, n, d, -m, e, rfl, hx.same s1, .mk upd_same, f1, f2.neg, bn, bd, bm.neg, be, ?_⟩
  rw [subF_add]
  exact fun q H' s hq he => k q H' (s1.trans s) (by
    cases z : H q with
    | none => rfl
    | some o =>
      rw [s1 _ _ z] at hq
      cases hq) he
abbrev stimes : Stmt := topS 8
theorem sc_times : FnScope ["one", "other", "n", "d", "m", "e", "left", "right"] ["one", "other"] (defScope stimes) := ⟨rfl, rfl, rfl, by decide +kernel, rfl, by decide +kernel, by decide +kernel⟩
theorem ok_times {f : Addr} {fd : FuncData} (F : Fun K "times" "times" stimes f fd) (B : Bt mg) (T : Tx mg) : FnG P w K mg base 1 f fd ["one", "other"] (spTwo K mulF) := by
  refine Fun.okG F sc_times spTwo_len (fun cdv A outer s H vs Q E hg hr h => ?_)
  obtain ⟨x, y, n, d, m, e, rfl, ⟨a, rfl, ha⟩, ⟨b, rfl, hb⟩, f1, f2, bn, bd, bm, be, k⟩ := h
  refine ⟨_, (pss_cons (ps_asg (pe_tup (pa_cons (pv 0) (pa_cons (pv 1) pa_nil))) (pg_tup (n := 2) rfl (pgs_cons (pg_tup (n := 2) rfl (pgs_cons (pg_name (i := 2) sc_times.nd rfl (Or.inl rfl)) (pgs_cons (pg_name (i := 3) sc_times.nd rfl (Or.inl rfl)) pgs_nil))) (pgs_cons (pg_tup (n := 2) rfl (pgs_cons (pg_name (i := 4) sc_times.nd rfl (Or.inl rfl)) (pgs_cons (pg_name (i := 5) sc_times.nd rfl (Or.inl rfl)) pgs_nil))) pgs_nil))))
    (pss_cons (ps_par (i := 6) (j := 7) rfl sc_times.nd rfl rfl (by decide) rfl rfl (pa_cons (pe_callBfun cr_gcd (by rfl) T.gcd (pa_cons (pv 2) (pa_cons (pv 5) pa_nil))) (pa_cons (pe_callBfun cr_gcd (by rfl) T.gcd (pa_cons (pv 4) (pa_cons (pv 3) pa_nil))) pa_nil)) (by rfl))
    (pss_one (ps_ret (pe_tup (pa_cons (pe_op op_mulW (pe_op op_fdivW (pv 2) (pv 6)) (pe_op op_fdivW (pv 4) (pv 7))) (pa_cons (pe_op op_mulW (pe_op op_fdivW (pv 3) (pv 7)) (pe_op op_fdivW (pv 5) (pv 6))) pa_nil))))))), ?_⟩
  refine ⟨_, rfl, _, rfl, by show 2 ≤ sizeLine; decide, fun p np => ?_⟩
  have s1 := same_upd (o := .tup [.ref a, .ref b]) np
  refine ⟨p, _, rfl, .inl (.inl upd_same), rfl, _, _, rfl, a, _, rfl, s1.seqT ha, rfl, _, _, rfl, _, _, rfl, rfl, _, _, rfl, b, _, rfl, s1.seqT hb, rfl, _, _, rfl, _, _, rfl, rfl, rfl, ?_⟩
  have he : e ≠ 0 := by have := f2.pos; omega
  have hd : d ≠ 0 := by have := f1.pos; omega
  have g1 := gI_pos (a := n) he
  have g2 := gI_pos (a := m) hd
  have b1 := be.gcd (n := n) he
  have b2 := bd.gcd (n := m) hd
  have k' := k.now s1 (mul_red f1 f2)
  refine ⟨_, rfl, _, rfl, n, e, rfl, _, rfl, _, rfl, m, d, rfl, _, _, rfl, ?_⟩
  refine ⟨_, rfl, _, rfl, _, _, rfl, rfl, divW g1 b1.w, _, rfl, _, rfl, _, _, rfl, rfl, divW g2 b2.w, _, _, rfl, rfl, mulW bn.div.w bm.div.w, ?_⟩
  exact ⟨_, rfl, _, rfl, _, _, rfl, rfl, divW g2 b2.w, _, rfl, _, rfl, _, _, rfl, rfl, divW g1 b1.w, _, _, rfl, rfl, mulW bd.div.w be.div.w, by show 2 ≤ sizeLine; decide, k'⟩
/-- .. the second not 0 -/
def spDiv (K : PySem.W.Frag) : Sp := fun vs H Q _ => ∃ (x y : V) (n d m e : Int), vs = [x, y] ∧ Cpl K H x n d ∧ Cpl K H y m e ∧ Fr n d ∧ Fr m e ∧ Bg n ∧ Bg d ∧ Bg m ∧ Bg e ∧ m ≠ 0 ∧ Res Q H (divF n d m e)
theorem spDiv_len {K : PySem.W.Frag} {a b : Str} : ∀ vs H Q E, spDiv K vs H Q E → vs.length = [a, b].length := fun vs H Q E h => by
  obtain ⟨x, y, _, _, _, _, rfl, _⟩ := h
  rfl
abbrev sover : Stmt := topS 9
theorem sc_over : FnScope ["one", "other", "n", "d"] ["one", "other"] (defScope sover) := ⟨rfl, rfl, rfl, by decide +kernel, rfl, by decide +kernel, by decide +kernel⟩
theorem ok_over {f : Addr} {fd : FuncData} (F : Fun K "over" "over" sover f fd) (B : Bt mg) (c_times : CalG P w K mg base 1 "times" (spTwo K mulF)) : FnG P w K mg base 2 f fd ["one", "other"] (spDiv K) := by
  refine Fun.okG F sc_over spDiv_len (fun cdv A outer s H vs Q E hg hr h => ?_)
  obtain ⟨x, y, n, d, m, e, rfl, hx, ⟨b, rfl, hb⟩, f1, f2, bn, bd, bm, be, hm, k⟩ := h
  refine ⟨_, (pss_cons (ps_asg (pv 1) (pg_tup (n := 2) rfl (pgs_cons (pg_name (i := 2) sc_over.nd rfl (Or.inl rfl)) (pgs_cons (pg_name (i := 3) sc_over.nd rfl (Or.inl rfl)) pgs_nil))))
    (pss_one (ps_ret (pc c_times hg hr (by decide) (by rfl) (pa_cons (pv 0) (pa_cons (pe_ifExp (pt_cmpR op_gt (pv 2) pe_int (nomark _)) (pe_tup (pa_cons (pv 3) (pa_cons (pv 2) pa_nil))) (pe_tup (pa_cons (pe_un un_neg (pv 3)) (pa_cons (pe_un un_neg (pv 2)) pa_nil)))) pa_nil)))))), ?_⟩
  refine ⟨_, rfl, b, _, rfl, hb, rfl, _, _, rfl, _, _, rfl, rfl, ?_⟩
  have res : ∀ {H1 : Hp} {r : Int × Int}, Same H H1 → r = divF n d m e → Res Q H1 r := fun {H1 r} s1 er q H' s hq he => by
    subst er
    exact k q H' (s1.trans s) (by
      cases z : H q with
      | none => rfl
      | some o =>
        rw [s1 _ _ z] at hq
        cases hq) he
  refine ⟨_, rfl, _, rfl, _, _, rfl, rfl, _, rfl, iteP (fun h => ?_) fun h => ?_⟩
  · refine ⟨_, rfl, _, rfl, by show 2 ≤ sizeLine; decide, fun p np => ?_⟩
    have s1 := same_upd (o := .tup [.int e, .int m]) np
    exact ⟨x, .ref p, n, d, e, m, rfl, hx.same s1, .mk upd_same, f1, f2.flip (by omega), bn, bd, be, bm, res s1 rfl⟩
  · refine ⟨_, rfl, _, rfl, _, rfl, _, rfl, by show 2 ≤ sizeLine; decide, fun p np => ?_⟩
    have s1 := same_upd (o := .tup [.int (-e), .int (-m)]) np
    refine ⟨x, .ref p, n, d, -e, -m, rfl, hx.same s1, .mk upd_same, f1, f2.flipN (by omega), bn, bd, be.neg, bm.neg, res s1 ?_⟩
    unfold mulF divF
    rw [Int.mul_neg, Int.mul_neg, redI_neg (Int.mul_ne_zero (by have := f1.pos; omega) hm)]
/-- so many bits are cut off -/
def cutB (d : Int) : Nat := PySem.Builtin.Int.intBits d - 128
def roughF (n d m e : Int) : Int :=
  if (n / 2 ^ cutB d + 1) * (e / 2 ^ cutB e + 1) < m / 2 ^ cutB e * (d / 2 ^ cutB d) then -1
  else if n / 2 ^ cutB d * (e / 2 ^ cutB e) > (m / 2 ^ cutB e + 1) * (d / 2 ^ cutB d + 1) then 1 else 0
theorem rough1 {n d m e N D M E X Y : Int} (hX : 0 < X) (hY : 0 < Y) (n1 : n < (N + 1) * X) (e1 : e < (E + 1) * Y) (n0 : 0 < n) (e0 : 0 < e) (m1 : M * Y ≤ m) (d1 : D * X ≤ d) (M0 : 0 ≤ M) (D0 : 0 ≤ D) (h : (N + 1) * (E + 1) < M * D) : n * e < m * d := by
  have a : n * e < ((N + 1) * X) * ((E + 1) * Y) := Int.mul_lt_mul n1 (Int.le_of_lt e1) e0 (by omega)
  have my : 0 ≤ M * Y := Int.mul_nonneg M0 (Int.le_of_lt hY)
  have b : (M * Y) * (D * X) ≤ m * d := Int.mul_le_mul m1 d1 (Int.mul_nonneg D0 (Int.le_of_lt hX)) (by omega)
  have c : ((N + 1) * (E + 1)) * (X * Y) ≤ (M * D) * (X * Y) := Int.mul_le_mul_of_nonneg_right (Int.le_of_lt h) (Int.mul_nonneg (Int.le_of_lt hX) (Int.le_of_lt hY))
  have q1 : ((N + 1) * X) * ((E + 1) * Y) = ((N + 1) * (E + 1)) * (X * Y) := by grind
  have q2 : (M * Y) * (D * X) = (M * D) * (X * Y) := by grind
  rw [q1] at a
  rw [q2] at b
  exact Int.lt_of_lt_of_le a (Int.le_trans c b)
theorem two_pos (k : Nat) : (0 : Int) < 2 ^ k := Int.pow_pos (by decide)
theorem rough_ok {n d m e : Int} (n0 : 0 < n) (d0 : 0 < d) (m0 : 0 < m) (e0 : 0 < e) (h : roughF n d m e ≠ 0) : roughF n d m e = cmpF n d m e := by
  have hX := two_pos (cutB d)
  have hY := two_pos (cutB e)
  have up : ∀ (a : Int) {x : Int}, 0 < x → a < (a / x + 1) * x := fun a x hx => Int.lt_ediv_add_one_mul_self a hx
  have lo : ∀ (a : Int) {x : Int}, 0 < x → a / x * x ≤ a := fun a x hx => Int.ediv_mul_le a (by omega)
  have nn : ∀ {a x : Int}, 0 < a → 0 < x → 0 ≤ a / x := fun ha hx => Int.ediv_nonneg (Int.le_of_lt ha) (Int.le_of_lt hx)
  unfold roughF at h ⊢
  unfold cmpF
  by_cases h1 : (n / 2 ^ cutB d + 1) * (e / 2 ^ cutB e + 1) < m / 2 ^ cutB e * (d / 2 ^ cutB d)
  · rw [if_pos h1, if_pos (rough1 hX hY (up n hX) (up e hY) n0 e0 (lo m hY) (lo d hX) (nn m0 hY) (nn d0 hX) h1)]
  · rw [if_neg h1] at h ⊢
    by_cases h2 : n / 2 ^ cutB d * (e / 2 ^ cutB e) > (m / 2 ^ cutB e + 1) * (d / 2 ^ cutB d + 1)
    · rw [if_pos h2]
      have l := rough1 (n := m) (d := e) (m := n) (e := d) hY hX (up m hY) (up d hX) m0 d0 (lo n hX) (lo e hY) (nn n0 hX) (nn e0 hY) h2
      rw [if_neg (by omega), if_pos l]
    · rw [if_neg h2] at h
      exact absurd rfl h
def spFirst (K : PySem.W.Frag) : Sp := fun vs H Q _ => ∃ (x : V) (n d : Int), vs = [x] ∧ Cpl K H x n d ∧ Res Q H (n / 2 ^ cutB d, d / 2 ^ cutB d)
abbrev sfirst_bits : Stmt := topS 12
theorem sc_first_bits : FnScope ["one", "n", "d", "cut"] ["one"] (defScope sfirst_bits) := ⟨rfl, rfl, rfl, by decide +kernel, rfl, by decide +kernel, by decide +kernel⟩
theorem ok_first_bits {f : Addr} {fd : FuncData} (F : Fun K "first_bits" "first_bits" sfirst_bits f fd) (B : Bt mg) (TR : ∃ u, mg "ROUGH_BITS" = some u ∧ RelV (.int 128) u) : FnG P w K mg base 1 f fd ["one"] (spFirst K) := by
  refine Fun.okG F sc_first_bits (fun vs H Q E h => ?_) (fun cdv A outer s H vs Q E hg hr h => ?_)
  · obtain ⟨x, _, _, rfl, _⟩ := h
    rfl
  obtain ⟨x, n, d, rfl, ⟨a, rfl, ha⟩, k⟩ := h
  refine ⟨_, (pss_cons (ps_asg (pv 0) (pg_tup (n := 2) rfl (pgs_cons (pg_name (i := 1) sc_first_bits.nd rfl (Or.inl rfl)) (pgs_cons (pg_name (i := 2) sc_first_bits.nd rfl (Or.inl rfl)) pgs_nil))))
    (pss_cons (ps_set (i := 3) sc_first_bits.nd rfl (Or.inl rfl) (pe_callB (call_max2 rfl) (by rfl) B.max bb_max (pa_cons pe_int (pa_cons (pe_op op_sub (pe_bits (pv 2)) (C8.pe_gc rfl TR)) pa_nil))))
    (pss_one (ps_ret (pe_tup (pa_cons (pe_op op_shrN (pv 1) (pv 3)) (pa_cons (pe_op op_shrN (pv 2) (pv 3)) pa_nil))))))), ?_⟩
  refine ⟨_, rfl, a, _, rfl, ha, rfl, _, _, rfl, _, _, rfl, rfl, ?_⟩
  refine ⟨_, rfl, _, rfl, _, _, rfl, rfl, _, _, rfl, ?_⟩
  have e : (if ((PySem.Builtin.Int.intBits d : Nat) : Int) - 128 > 0 then ((PySem.Builtin.Int.intBits d : Nat) : Int) - 128 else 0) = ((cutB d : Nat) : Int) := by
    unfold cutB
    split <;> omega
  rw [e]
  exact ⟨_, rfl, _, rfl, _, _, rfl, rfl, _, rfl, _, rfl, _, _, rfl, rfl, by show 2 ≤ sizeLine; decide, k.now (.refl H) rfl⟩
theorem bg_cut {n : Int} {k : Nat} (h : Bg n) : (n / 2 ^ k).natAbs < 2 ^ 8000 ∧ (n / 2 ^ k + 1).natAbs < 2 ^ 8000 := by
  have h1 : (n / 2 ^ k).natAbs < 2 ^ 3000 := Nat.lt_of_le_of_lt div_le h
  have h2 : (n / 2 ^ k + 1).natAbs ≤ (n / 2 ^ k).natAbs + 1 := by omega
  have h3 : (2 : Nat) ^ 3000 < 2 ^ 8000 := Nat.pow_lt_pow_right (by decide) (by decide)
  generalize (2 : Nat) ^ 3000 = X at *
  generalize (2 : Nat) ^ 8000 = Y at *
  omega
def spRough (K : PySem.W.Frag) : Sp := fun vs H Q _ => ∃ (x y : V) (n d m e : Int), vs = [x, y] ∧ Cpl K H x n d ∧ Cpl K H y m e ∧ Bg n ∧ Bg d ∧ Bg m ∧ Bg e ∧ ∀ H', Same H H' → Q (.int (roughF n d m e)) H'
abbrev scompared_roughly : Stmt := topS 11
theorem sc_compared_roughly : FnScope ["one", "other", "n", "d", "m", "e"] ["one", "other"] (defScope scompared_roughly) := ⟨rfl, rfl, rfl, by decide +kernel, rfl, by decide +kernel, by decide +kernel⟩
theorem ok_compared_roughly {f : Addr} {fd : FuncData} (F : Fun K "compared_roughly" "compared_roughly" scompared_roughly f fd) (B : Bt mg) (c_first_bits : CalG P w K mg base 1 "first_bits" (spFirst K)) : FnG P w K mg base 2 f fd ["one", "other"] (spRough K) := by
  refine Fun.okG F sc_compared_roughly (fun vs H Q E h => ?_) (fun cdv A outer s H vs Q E hg hr h => ?_)
  · obtain ⟨x, y, _, _, _, _, rfl, _⟩ := h
    rfl
  obtain ⟨x, y, n, d, m, e, rfl, hx, hy, bn, bd, bm, be, k⟩ := h
  refine ⟨_, (pss_cons (ps_asg (pe_tup (pa_cons (pc c_first_bits hg hr (by decide) (by rfl) (pa_cons (pv 0) pa_nil)) (pa_cons (pc c_first_bits hg hr (by decide) (by rfl) (pa_cons (pv 1) pa_nil)) pa_nil))) (pg_tup (n := 2) rfl (pgs_cons (pg_tup (n := 2) rfl (pgs_cons (pg_name (i := 2) sc_compared_roughly.nd rfl (Or.inl rfl)) (pgs_cons (pg_name (i := 3) sc_compared_roughly.nd rfl (Or.inl rfl)) pgs_nil))) (pgs_cons (pg_tup (n := 2) rfl (pgs_cons (pg_name (i := 4) sc_compared_roughly.nd rfl (Or.inl rfl)) (pgs_cons (pg_name (i := 5) sc_compared_roughly.nd rfl (Or.inl rfl)) pgs_nil))) pgs_nil))))
    (pss_cons (ps_if (pt_cmpR op_lt (pe_op op_mulW (pe_op op_add (pv 2) pe_int) (pe_op op_add (pv 5) pe_int)) (pe_op op_mulW (pv 4) (pv 3)) (nomark _))
      (pss_one (ps_ret (pe_un un_neg pe_int)))
      pss_nil)
    (pss_one (ps_ret (pe_ifExp (pt_cmpR op_gt (pe_op op_mulW (pv 2) (pv 5)) (pe_op op_mulW (pe_op op_add (pv 4) pe_int) (pe_op op_add (pv 3) pe_int)) (nomark _)) pe_int pe_int))))), ?_⟩
  refine ⟨_, rfl, x, n, d, rfl, hx, fun a H1 s1 _ h1 => ⟨_, rfl, y, m, e, rfl, hy.same s1, fun b H2 s2 _ h2 => ?_⟩⟩
  refine ⟨by show 2 ≤ sizeLine; decide, fun p np => ?_⟩
  have s3 := same_upd (o := .tup [.ref a, .ref b]) np
  have h1' := s3 _ _ (s2 _ _ h1)
  have h2' := s3 _ _ h2
  have k := k _ ((s1.trans s2).trans s3)
  refine ⟨p, _, rfl, .inl (.inl upd_same), rfl, _, _, rfl, a, _, rfl, .inl (.inl h1'), rfl, _, _, rfl, _, _, rfl, rfl, _, _, rfl, b, _, rfl, .inl (.inl h2'), rfl, _, _, rfl, _, _, rfl, rfl, rfl, ?_⟩
  obtain ⟨n1, n2⟩ := bg_cut (k := cutB d) bn
  obtain ⟨d1, d2⟩ := bg_cut (k := cutB d) bd
  obtain ⟨m1, m2⟩ := bg_cut (k := cutB e) bm
  obtain ⟨e1, e2⟩ := bg_cut (k := cutB e) be
  unfold roughF at k
  refine ⟨_, rfl, _, _, rfl, rfl, _, rfl, _, _, rfl, rfl, _, _, rfl, rfl, mulW n2 e2, _, rfl, _, rfl, _, _, rfl, rfl, mulW m1 d1, _, _, rfl, rfl, _, rfl, iteP (fun h => ?_) fun h => ?_⟩
  · rw [if_pos h] at k
    exact ⟨_, rfl, k⟩
  · rw [if_neg h] at k
    refine ⟨_, rfl, _, rfl, _, _, rfl, rfl, mulW n1 e1, _, rfl, _, _, rfl, rfl, _, rfl, _, _, rfl, rfl, _, _, rfl, rfl, mulW m2 d2, _, _, rfl, rfl, _, rfl, iteP (fun h2 => ?_) fun h2 => ?_⟩
    · rw [if_pos h2] at k
      exact k
    · rw [if_neg h2] at k
      exact k
def spCmp (K : PySem.W.Frag) : Sp := fun vs H Q _ => ∃ (x y : V) (n d m e : Int), vs = [x, y] ∧ Cpl K H x n d ∧ Cpl K H y m e ∧ Bg n ∧ Bg d ∧ Bg m ∧ Bg e ∧ 0 < d ∧ 0 < e ∧ ∀ H', Same H H' → Q (.int (cmpF n d m e)) H'
abbrev scompared : Stmt := topS 10
theorem sc_compared : FnScope ["one", "other", "n", "d", "m", "e", "rough", "left", "right"] ["one", "other"] (defScope scompared) := ⟨rfl, rfl, rfl, by decide +kernel, rfl, by decide +kernel, by decide +kernel⟩
theorem ok_compared {f : Addr} {fd : FuncData} (F : Fun K "compared" "compared" scompared f fd) (B : Bt mg) (TB : ∃ u, mg "GREAT_BITS" = some u ∧ RelV (.int 1500) u) (c_compared_roughly : CalG P w K mg base 2 "compared_roughly" (spRough K)) : FnG P w K mg base 3 f fd ["one", "other"] (spCmp K) := by
  refine Fun.okG F sc_compared (fun vs H Q E h => ?_) (fun cdv A outer s H vs Q E hg hr h => ?_)
  · obtain ⟨x, y, _, _, _, _, rfl, _⟩ := h
    rfl
  obtain ⟨x, y, n, d, m, e, rfl, ⟨a, rfl, ha⟩, ⟨b, rfl, hb⟩, bn, bd, bm, be, d0, e0, k⟩ := h
  refine ⟨_, (pss_cons (ps_asg (pe_tup (pa_cons (pv 0) (pa_cons (pv 1) pa_nil))) (pg_tup (n := 2) rfl (pgs_cons (pg_tup (n := 2) rfl (pgs_cons (pg_name (i := 2) sc_compared.nd rfl (Or.inl rfl)) (pgs_cons (pg_name (i := 3) sc_compared.nd rfl (Or.inl rfl)) pgs_nil))) (pgs_cons (pg_tup (n := 2) rfl (pgs_cons (pg_name (i := 4) sc_compared.nd rfl (Or.inl rfl)) (pgs_cons (pg_name (i := 5) sc_compared.nd rfl (Or.inl rfl)) pgs_nil))) pgs_nil))))
    (C8.pss_cut (ps_if (PW.pt (pw_and (pt_cmpR op_gt (pe_bits (pe_callB (call_max2 rfl) (by rfl) B.max bb_max (pa_cons (pv 3) (pa_cons (pv 5) pa_nil)))) (C8.pe_gc rfl TB) (nomark _)) (pw_and (pt_cmpR op_gt (pv 2) pe_int (nomark _)) (pw_and1 (pt_cmpR op_gt (pv 4) pe_int (nomark _))))))
      (pss_cons (ps_set (i := 6) sc_compared.nd rfl (Or.inl rfl) (pc c_compared_roughly hg hr (by decide) (by rfl) (pa_cons (pv 0) (pa_cons (pv 1) pa_nil))))
      (pss_one (ps_if (pt_cmpR op_ne (pv 6) pe_int (nomark _))
        (pss_one (ps_ret (pv 6)))
        pss_nil)))
      pss_nil)
    (pss_cons (ps_set (i := 7) sc_compared.nd rfl (Or.inl rfl) (pe_op op_mulW (pv 2) (pv 5)))
    (pss_cons (ps_set (i := 8) sc_compared.nd rfl (Or.inl rfl) (pe_op op_mulW (pv 4) (pv 3)))
    (pss_cons (ps_if (pt_cmpR op_lt (pv 7) (pv 8) (nomark _))
      (pss_one (ps_ret (pe_un un_neg pe_int)))
      pss_nil)
    (pss_one (ps_ret (pe_ifExp (pt_cmpR op_gt (pv 7) (pv 8) (nomark _)) pe_int pe_int)))))))), ?_⟩
  refine ⟨_, rfl, _, rfl, by show 2 ≤ sizeLine; decide, fun p np => ?_⟩
  have s1 := same_upd (o := .tup [.ref a, .ref b]) np
  refine ⟨p, _, rfl, .inl (.inl upd_same), rfl, _, _, rfl, a, _, rfl, s1.seqT ha, rfl, _, _, rfl, _, _, rfl, rfl, _, _, rfl, b, _, rfl, s1.seqT hb, rfl, _, _, rfl, _, _, rfl, rfl, rfl, ?_⟩
  have ha1 := s1.seqT ha
  have hb1 := s1.seqT hb
  revert s1 ha1 hb1
  generalize upd H p (.tup [.ref a, .ref b]) = H1
  intro s1 ha1 hb1
  refine ⟨fun σ H' => Same H H' ∧ ∃ o, σ = [some (.ref a), some (.ref b), some (.int n), some (.int d), some (.int m), some (.int e), o, none, none], ?_, ?_⟩
  · refine ⟨_, rfl, _, rfl, _, _, rfl, _, rfl, _, _, rfl, rfl, _, rfl, iteP (fun _ => ?_) fun _ => ⟨s1, _, rfl⟩⟩
    refine ⟨_, rfl, _, _, rfl, rfl, _, rfl, iteP (fun hn => ?_) fun _ => ⟨s1, _, rfl⟩⟩
    refine ⟨_, rfl, _, _, rfl, rfl, _, rfl, iteP (fun hm => ?_) fun _ => ⟨s1, _, rfl⟩⟩
    refine ⟨_, rfl, _, rfl, .ref a, .ref b, n, d, m, e, rfl, ⟨a, rfl, ha1⟩, ⟨b, rfl, hb1⟩, bn, bd, bm, be, fun H2 s2 => ?_⟩
    refine ⟨_, rfl, rfl, _, rfl, iteNe (fun h => ?_) fun h => ?_⟩
    · refine ⟨_, rfl, ?_⟩
      have e := rough_ok hn d0 hm e0 (fun z => h (by rw [z]))
      rw [e]
      exact k _ (s1.trans s2)
    · exact ⟨s1.trans s2, _, rfl⟩
  · rintro σ H' ⟨s2, o, rfl⟩
    refine ⟨_, rfl, _, rfl, _, _, rfl, rfl, mulW bn.w be.w, ?_⟩
    refine ⟨_, rfl, _, rfl, _, _, rfl, rfl, mulW bm.w bd.w, ?_⟩
    have k := k _ s2
    unfold cmpF at k
    refine ⟨_, rfl, _, rfl, _, _, rfl, rfl, _, rfl, iteP (fun h => ?_) fun h => ?_⟩
    · rw [if_pos h] at k
      exact ⟨_, rfl, k⟩
    · rw [if_neg h] at k
      refine ⟨_, rfl, _, rfl, _, _, rfl, rfl, _, rfl, iteP (fun h2 => ?_) fun h2 => ?_⟩
      · rw [if_pos h2] at k
        exact k
      · rw [if_neg h2] at k
        exact k
theorem den_ok {d e : Int} (f1 : 0 < d) (f2 : 0 < e) (bd : Bg d) (be : Bg e) : d * e ≠ 0 ∧ (d * e).natAbs < 2 ^ 8000 := ⟨Int.mul_ne_zero (by omega) (by omega), w6 (bd.mul be)⟩
theorem res_p {Q : VK} {H H1 : Hp} {r : Int × Int} (k : Res Q H r) (s : Same H H1) : ∀ p, H1 p = none → Q (.ref p) (upd H1 p (.tup [.int r.1, .int r.2])) := k.now s rfl
abbrev s_law_added : Stmt := topS 42
theorem sc__law_added : FnScope ["one", "other"] ["one", "other"] (defScope s_law_added) := ⟨rfl, rfl, rfl, by decide +kernel, rfl, by decide +kernel, by decide +kernel⟩
theorem ok__law_added {f : Addr} {fd : FuncData} (F : Fun K "_law_added" "_law_added" s_law_added f fd) (B : Bt mg) (c__law_reduced : CalG P w K mg base 2 "_law_reduced" spRed) : FnG P w K mg base 3 f fd ["one", "other"] (spTwo K addF) := by
  refine Fun.okG F sc__law_added spTwo_len (fun cdv A outer s H vs Q E hg hr h => ?_)
  obtain ⟨x, y, n, d, m, e, rfl, ⟨a, rfl, ha⟩, ⟨b, rfl, hb⟩, f1, f2, bn, bd, bm, be, k⟩ := h
  refine ⟨_, (pss_one (ps_ret (pc c__law_reduced hg hr (by decide) (by rfl) (pa_cons (pe_op op_add (pe_op op_mulW (pe_ix ix_tup (pv 0) pe_int (fun _ _ => rfl)) (pe_ix ix_tup (pv 1) pe_int (fun _ _ => rfl))) (pe_op op_mulW (pe_ix ix_tup (pv 1) pe_int (fun _ _ => rfl)) (pe_ix ix_tup (pv 0) pe_int (fun _ _ => rfl)))) (pa_cons (pe_op op_mulW (pe_ix ix_tup (pv 0) pe_int (fun _ _ => rfl)) (pe_ix ix_tup (pv 1) pe_int (fun _ _ => rfl))) pa_nil))))), ?_⟩
  refine ⟨_, rfl, a, _, 0, _, rfl, rfl, ha, atI_nat (j := 0) rfl, _, rfl, b, _, 1, _, rfl, rfl, hb, atI_nat (j := 1) rfl, _, _, rfl, rfl, mulW bn.w be.w, ?_⟩
  refine ⟨_, rfl, b, _, 0, _, rfl, rfl, hb, atI_nat (j := 0) rfl, _, rfl, a, _, 1, _, rfl, rfl, ha, atI_nat (j := 1) rfl, _, _, rfl, rfl, mulW bm.w bd.w, _, _, rfl, rfl, ?_⟩
  refine ⟨_, rfl, a, _, 1, _, rfl, rfl, ha, atI_nat (j := 1) rfl, _, rfl, b, _, 1, _, rfl, rfl, hb, atI_nat (j := 1) rfl, _, _, rfl, rfl, mulW bd.w be.w, ?_⟩
  obtain ⟨z1, z2⟩ := den_ok f1.pos f2.pos bd be
  exact ⟨_, _, rfl, z1, z2, res_p k (.refl H)⟩
abbrev s_law_lessened : Stmt := topS 43
theorem sc__law_lessened : FnScope ["one", "other"] ["one", "other"] (defScope s_law_lessened) := ⟨rfl, rfl, rfl, by decide +kernel, rfl, by decide +kernel, by decide +kernel⟩
theorem ok__law_lessened {f : Addr} {fd : FuncData} (F : Fun K "_law_lessened" "_law_lessened" s_law_lessened f fd) (B : Bt mg) (c__law_reduced : CalG P w K mg base 2 "_law_reduced" spRed) : FnG P w K mg base 3 f fd ["one", "other"] (spTwo K subF) := by
  refine Fun.okG F sc__law_lessened spTwo_len (fun cdv A outer s H vs Q E hg hr h => ?_)
  obtain ⟨x, y, n, d, m, e, rfl, ⟨a, rfl, ha⟩, ⟨b, rfl, hb⟩, f1, f2, bn, bd, bm, be, k⟩ := h
  refine ⟨_, (pss_one (ps_ret (pc c__law_reduced hg hr (by decide) (by rfl) (pa_cons (pe_op op_sub (pe_op op_mulW (pe_ix ix_tup (pv 0) pe_int (fun _ _ => rfl)) (pe_ix ix_tup (pv 1) pe_int (fun _ _ => rfl))) (pe_op op_mulW (pe_ix ix_tup (pv 1) pe_int (fun _ _ => rfl)) (pe_ix ix_tup (pv 0) pe_int (fun _ _ => rfl)))) (pa_cons (pe_op op_mulW (pe_ix ix_tup (pv 0) pe_int (fun _ _ => rfl)) (pe_ix ix_tup (pv 1) pe_int (fun _ _ => rfl))) pa_nil))))), ?_⟩
  refine ⟨_, rfl, a, _, 0, _, rfl, rfl, ha, atI_nat (j := 0) rfl, _, rfl, b, _, 1, _, rfl, rfl, hb, atI_nat (j := 1) rfl, _, _, rfl, rfl, mulW bn.w be.w, ?_⟩
  refine ⟨_, rfl, b, _, 0, _, rfl, rfl, hb, atI_nat (j := 0) rfl, _, rfl, a, _, 1, _, rfl, rfl, ha, atI_nat (j := 1) rfl, _, _, rfl, rfl, mulW bm.w bd.w, _, _, rfl, rfl, ?_⟩
  refine ⟨_, rfl, a, _, 1, _, rfl, rfl, ha, atI_nat (j := 1) rfl, _, rfl, b, _, 1, _, rfl, rfl, hb, atI_nat (j := 1) rfl, _, _, rfl, rfl, mulW bd.w be.w, ?_⟩
  obtain ⟨z1, z2⟩ := den_ok f1.pos f2.pos bd be
  exact ⟨_, _, rfl, z1, z2, res_p k (.refl H)⟩
abbrev s_law_multiplied : Stmt := topS 44
theorem sc__law_multiplied : FnScope ["one", "other"] ["one", "other"] (defScope s_law_multiplied) := ⟨rfl, rfl, rfl, by decide +kernel, rfl, by decide +kernel, by decide +kernel⟩
theorem ok__law_multiplied {f : Addr} {fd : FuncData} (F : Fun K "_law_multiplied" "_law_multiplied" s_law_multiplied f fd) (B : Bt mg) (c__law_reduced : CalG P w K mg base 2 "_law_reduced" spRed) : FnG P w K mg base 3 f fd ["one", "other"] (spTwo K mulF) := by
  refine Fun.okG F sc__law_multiplied spTwo_len (fun cdv A outer s H vs Q E hg hr h => ?_)
  obtain ⟨x, y, n, d, m, e, rfl, ⟨a, rfl, ha⟩, ⟨b, rfl, hb⟩, f1, f2, bn, bd, bm, be, k⟩ := h
  refine ⟨_, (pss_one (ps_ret (pc c__law_reduced hg hr (by decide) (by rfl) (pa_cons (pe_op op_mulW (pe_ix ix_tup (pv 0) pe_int (fun _ _ => rfl)) (pe_ix ix_tup (pv 1) pe_int (fun _ _ => rfl))) (pa_cons (pe_op op_mulW (pe_ix ix_tup (pv 0) pe_int (fun _ _ => rfl)) (pe_ix ix_tup (pv 1) pe_int (fun _ _ => rfl))) pa_nil))))), ?_⟩
  refine ⟨_, rfl, a, _, 0, _, rfl, rfl, ha, atI_nat (j := 0) rfl, _, rfl, b, _, 0, _, rfl, rfl, hb, atI_nat (j := 0) rfl, _, _, rfl, rfl, mulW bn.w bm.w, ?_⟩
  refine ⟨_, rfl, a, _, 1, _, rfl, rfl, ha, atI_nat (j := 1) rfl, _, rfl, b, _, 1, _, rfl, rfl, hb, atI_nat (j := 1) rfl, _, _, rfl, rfl, mulW bd.w be.w, ?_⟩
  obtain ⟨z1, z2⟩ := den_ok f1.pos f2.pos bd be
  exact ⟨_, _, rfl, z1, z2, res_p k (.refl H)⟩
abbrev s_law_divided : Stmt := topS 45
theorem sc__law_divided : FnScope ["one", "other"] ["one", "other"] (defScope s_law_divided) := ⟨rfl, rfl, rfl, by decide +kernel, rfl, by decide +kernel, by decide +kernel⟩
theorem ok__law_divided {f : Addr} {fd : FuncData} (F : Fun K "_law_divided" "_law_divided" s_law_divided f fd) (B : Bt mg) (c__law_reduced : CalG P w K mg base 2 "_law_reduced" spRed) : FnG P w K mg base 3 f fd ["one", "other"] (spDiv K) := by
  refine Fun.okG F sc__law_divided spDiv_len (fun cdv A outer s H vs Q E hg hr h => ?_)
  obtain ⟨x, y, n, d, m, e, rfl, ⟨a, rfl, ha⟩, ⟨b, rfl, hb⟩, f1, f2, bn, bd, bm, be, hm, k⟩ := h
  refine ⟨_, (pss_one (ps_ret (pc c__law_reduced hg hr (by decide) (by rfl) (pa_cons (pe_op op_mulW (pe_ix ix_tup (pv 0) pe_int (fun _ _ => rfl)) (pe_ix ix_tup (pv 1) pe_int (fun _ _ => rfl))) (pa_cons (pe_op op_mulW (pe_ix ix_tup (pv 0) pe_int (fun _ _ => rfl)) (pe_ix ix_tup (pv 1) pe_int (fun _ _ => rfl))) pa_nil))))), ?_⟩
  refine ⟨_, rfl, a, _, 0, _, rfl, rfl, ha, atI_nat (j := 0) rfl, _, rfl, b, _, 1, _, rfl, rfl, hb, atI_nat (j := 1) rfl, _, _, rfl, rfl, mulW bn.w be.w, ?_⟩
  refine ⟨_, rfl, a, _, 1, _, rfl, rfl, ha, atI_nat (j := 1) rfl, _, rfl, b, _, 0, _, rfl, rfl, hb, atI_nat (j := 0) rfl, _, _, rfl, rfl, mulW bd.w bm.w, ?_⟩
  exact ⟨_, _, rfl, Int.mul_ne_zero (by have := f1.pos; omega) hm, w6 (bd.mul bm), res_p k (.refl H)⟩
def spBelow (K : PySem.W.Frag) : Sp := fun vs H Q _ => ∃ (x y : V) (n d m e : Int), vs = [x, y] ∧ Cpl K H x n d ∧ Cpl K H y m e ∧ Bg n ∧ Bg d ∧ Bg m ∧ Bg e ∧ Q (.bl (decide (n * e < m * d))) H
abbrev s_law_is_below : Stmt := topS 46
theorem sc__law_is_below : FnScope ["one", "other"] ["one", "other"] (defScope s_law_is_below) := ⟨rfl, rfl, rfl, by decide +kernel, rfl, by decide +kernel, by decide +kernel⟩
theorem ok__law_is_below {f : Addr} {fd : FuncData} (F : Fun K "_law_is_below" "_law_is_below" s_law_is_below f fd) (B : Bt mg) : FnG P w K mg base 1 f fd ["one", "other"] (spBelow K) := by
  refine Fun.okG F sc__law_is_below (fun vs H Q E h => ?_) (fun cdv A outer s H vs Q E hg hr h => ?_)
  · obtain ⟨x, y, _, _, _, _, rfl, _⟩ := h
    rfl
  obtain ⟨x, y, n, d, m, e, rfl, ⟨a, rfl, ha⟩, ⟨b, rfl, hb⟩, bn, bd, bm, be, k⟩ := h
  refine ⟨_, (pss_one (ps_ret (pe_cmpR op_lt (pe_op op_mulW (pe_ix ix_tup (pv 0) pe_int (fun _ _ => rfl)) (pe_ix ix_tup (pv 1) pe_int (fun _ _ => rfl))) (pe_op op_mulW (pe_ix ix_tup (pv 1) pe_int (fun _ _ => rfl)) (pe_ix ix_tup (pv 0) pe_int (fun _ _ => rfl))) (nomark _)))), ?_⟩
  refine ⟨_, rfl, a, _, 0, _, rfl, rfl, ha, atI_nat (j := 0) rfl, _, rfl, b, _, 1, _, rfl, rfl, hb, atI_nat (j := 1) rfl, _, _, rfl, rfl, mulW bn.w be.w, ?_⟩
  exact ⟨_, rfl, b, _, 0, _, rfl, rfl, hb, atI_nat (j := 0) rfl, _, rfl, a, _, 1, _, rfl, rfl, ha, atI_nat (j := 1) rfl, _, _, rfl, rfl, mulW bm.w bd.w, _, _, rfl, rfl, k⟩
end
end K49
namespace K49
open PySem PySem.Spec PyProof.Rows L2 Sw
/-- a FRACTION that is not too great -/
structure OkF (f : Int × Int) : Prop where
  fr : Fr f.1 f.2
  bn : Bg f.1
  bd : Bg f.2
def sumF (fs : List (Int × Int)) : Int × Int := fs.foldl (fun s f => addF s.1 s.2 f.1 f.2) (0, 1)
theorem sumF_snoc (fs : List (Int × Int)) (f : Int × Int) : sumF (fs ++ [f]) = addF (sumF fs).1 (sumF fs).2 f.1 f.2 := by
  unfold sumF
  rw [List.foldl_append]
  rfl
/-- a row of FRACTIONS, a list or a tuple -/
def RowAt (K : PySem.W.Frag) (H : Hp) (a : Addr) (fs : List (Int × Int)) : Prop := ∃ xs, (SqL K H a xs ∨ SqT K H a xs) ∧ RowF K H xs fs
def spTotal (K : PySem.W.Frag) : Sp := fun vs H Q _ => ∃ (a : Addr) (fs : List (Int × Int)), vs = [.ref a] ∧ RowAt K H a fs ∧ (∀ f ∈ fs, OkF f) ∧ (∀ i, i < fs.length → OkF (sumF (fs.take i))) ∧ ∀ v H', Same H H' → Cpl K H' v (sumF fs).1 (sumF fs).2 → Q v H'
theorem spTotal_len {K : PySem.W.Frag} {a : Str} : ∀ vs H Q E, spTotal K vs H Q E → vs.length = [a].length := fun vs H Q E h => by
  obtain ⟨_, _, rfl, _⟩ := h
  rfl
section
variable {P : Program} {w : World} {K : PySem.W.Frag} {mg : Str → Option Value} {base : Heap}
abbrev stotal : Stmt := topS 14
theorem sc_total : FnScope ["fractions", "summed", "one"] ["fractions"] (defScope stotal) := ⟨rfl, rfl, rfl, by decide +kernel, rfl, by decide +kernel, by decide +kernel⟩
theorem ok_total {f : Addr} {fd : FuncData} {z : Addr} (F : Fun K "total" "total" stotal f fd) (B : Bt mg) (TZ : ∃ u, mg "ZERO" = some u ∧ RelV (.ref z) u) (KZ : KTup K z [.int 0, .int 1]) (c_added : CalG P w K mg base 1 "added" (spTwo K addF)) : FnG P w K mg base 2 f fd ["fractions"] (spTotal K) := by
  refine Fun.okG F sc_total spTotal_len (fun cdv A outer s H vs Q E hg hr h => ?_)
  obtain ⟨a, fs, rfl, ⟨xs, hq, hr0⟩, hs, hT, k⟩ := h
  obtain ⟨uz, mz, rz⟩ := TZ
  have s0 : Same H H := .refl H
  have h0 : Cpl K H (.ref z) (sumF (fs.take 0)).1 (sumF (fs.take 0)).2 := ⟨z, rfl, .inr KZ⟩
  rcases hq with hq | hq
  · refine ⟨_, (pss_cons (ps_set (i := 1) sc_total.nd rfl (Or.inl rfl) (pe_glob (v := .ref z) (by rfl) mz rz))
      (pss_cons (ps_for PassesOwn.never rfl (pi_list (pv 0)) (pg_name (i := 2) sc_total.nd rfl (Or.inl rfl))
        (pss_one (ps_set (i := 1) sc_total.nd rfl (Or.inl rfl) (pc c_added hg hr (by decide) (by rfl) (pa_cons (pv 1) (pa_cons (pv 2) pa_nil))))))
      (pss_one (ps_ret (pv 1))))), ?_⟩
    refine ⟨_, rfl, a, rfl, ⟨_, s0.seq hq⟩, for_it (walk_list (K := K) (xs := xs) (a := a)) (fun i σ H' => ∃ v o, σ = [some (.ref a), some v, o] ∧ Same H H' ∧ Cpl K H' v (sumF (fs.take i)).1 (sumF (fs.take i)).2) ⟨_, _, rfl, s0, h0⟩ (fun i σ H' _ h => by
      obtain ⟨_, _, _, s, _⟩ := h
      exact s.seq hq) (fun i x σ H1 H2 hi h y => ?_) fun σ H1 h => ?_⟩
    · obtain ⟨v, o, rfl, s, hv⟩ := h
      obtain ⟨rfl, hx⟩ := y
      obtain ⟨g, eg, hg1⟩ := hr0.get hx
      have tb := hT i (by rw [← hr0.len]; omega)
      have sm := hs g (List.mem_of_getElem? eg)
      refine ⟨_, rfl, _, rfl, v, x, (sumF (fs.take i)).1, (sumF (fs.take i)).2, g.1, g.2, rfl, hv, hg1.same s, tb.fr, sm.fr, tb.bn, tb.bd, sm.bn, sm.bd, fun p H3 s3 _ hp => ?_⟩
      have e : fs.take (i + 1) = fs.take i ++ [g] := by
        rw [List.take_add_one, eg]
        rfl
      refine ⟨_, _, rfl, s.trans s3, ?_⟩
      rw [e, sumF_snoc]
      exact .mk hp
    · obtain ⟨v, o, rfl, s, hv⟩ := h
      rw [hr0.len, List.take_length] at hv
      exact ⟨_, rfl, k v _ s hv⟩
  · refine ⟨_, (pss_cons (ps_set (i := 1) sc_total.nd rfl (Or.inl rfl) (pe_glob (v := .ref z) (by rfl) mz rz))
      (pss_cons (ps_for PassesOwn.never rfl (pi_tup (pv 0)) (pg_name (i := 2) sc_total.nd rfl (Or.inl rfl))
        (pss_one (ps_set (i := 1) sc_total.nd rfl (Or.inl rfl) (pc c_added hg hr (by decide) (by rfl) (pa_cons (pv 1) (pa_cons (pv 2) pa_nil))))))
      (pss_one (ps_ret (pv 1))))), ?_⟩
    refine ⟨_, rfl, a, rfl, ⟨_, s0.seqT hq⟩, for_it (walk_tup (K := K) (xs := xs) (a := a)) (fun i σ H' => ∃ v o, σ = [some (.ref a), some v, o] ∧ Same H H' ∧ Cpl K H' v (sumF (fs.take i)).1 (sumF (fs.take i)).2) ⟨_, _, rfl, s0, h0⟩ (fun i σ H' _ h => by
      obtain ⟨_, _, _, s, _⟩ := h
      exact s.seqT hq) (fun i x σ H1 H2 hi h y => ?_) fun σ H1 h => ?_⟩
    · obtain ⟨v, o, rfl, s, hv⟩ := h
      obtain ⟨rfl, hx⟩ := y
      obtain ⟨g, eg, hg1⟩ := hr0.get hx
      have tb := hT i (by rw [← hr0.len]; omega)
      have sm := hs g (List.mem_of_getElem? eg)
      refine ⟨_, rfl, _, rfl, v, x, (sumF (fs.take i)).1, (sumF (fs.take i)).2, g.1, g.2, rfl, hv, hg1.same s, tb.fr, sm.fr, tb.bn, tb.bd, sm.bn, sm.bd, fun p H3 s3 _ hp => ?_⟩
      have e : fs.take (i + 1) = fs.take i ++ [g] := by
        rw [List.take_add_one, eg]
        rfl
      refine ⟨_, _, rfl, s.trans s3, ?_⟩
      rw [e, sumF_snoc]
      exact .mk hp
    · obtain ⟨v, o, rfl, s, hv⟩ := h
      rw [hr0.len, List.take_length] at hv
      exact ⟨_, rfl, k v _ s hv⟩
abbrev s_law_total : Stmt := topS 48
theorem sc__law_total : FnScope ["fractions", "found", "one"] ["fractions"] (defScope s_law_total) := ⟨rfl, rfl, rfl, by decide +kernel, rfl, by decide +kernel, by decide +kernel⟩
theorem ok__law_total {f : Addr} {fd : FuncData} (F : Fun K "_law_total" "_law_total" s_law_total f fd) (B : Bt mg) (c__law_added : CalG P w K mg base 3 "_law_added" (spTwo K addF)) : FnG P w K mg base 4 f fd ["fractions"] (spTotal K) := by
  refine Fun.okG F sc__law_total spTotal_len (fun cdv A outer s H vs Q E hg hr h => ?_)
  obtain ⟨a, fs, rfl, ⟨xs, hq, hr0⟩, hs, hT, k⟩ := h
  rcases hq with hq | hq
  · refine ⟨_, (pss_cons (ps_set (i := 1) sc__law_total.nd rfl (Or.inl rfl) (pe_tup (pa_cons pe_int (pa_cons pe_int pa_nil))))
      (pss_cons (ps_for PassesOwn.never rfl (pi_list (pv 0)) (pg_name (i := 2) sc__law_total.nd rfl (Or.inl rfl))
        (pss_one (ps_set (i := 1) sc__law_total.nd rfl (Or.inl rfl) (pc c__law_added hg hr (by decide) (by rfl) (pa_cons (pv 1) (pa_cons (pv 2) pa_nil))))))
      (pss_one (ps_ret (pv 1))))), ?_⟩
    refine ⟨by show 2 ≤ sizeLine; decide, fun p np => ?_⟩
    have s0 := same_upd (o := .tup [.int 0, .int 1]) np
    have h0 : Cpl K (upd H p (.tup [.int 0, .int 1])) (.ref p) (sumF (fs.take 0)).1 (sumF (fs.take 0)).2 := .mk upd_same
    refine ⟨_, rfl, a, rfl, ⟨_, s0.seq hq⟩, for_it (walk_list (K := K) (xs := xs) (a := a)) (fun i σ H' => ∃ v o, σ = [some (.ref a), some v, o] ∧ Same H H' ∧ Cpl K H' v (sumF (fs.take i)).1 (sumF (fs.take i)).2) ⟨_, _, rfl, s0, h0⟩ (fun i σ H' _ h => by
      obtain ⟨_, _, _, s, _⟩ := h
      exact s.seq hq) (fun i x σ H1 H2 hi h y => ?_) fun σ H1 h => ?_⟩
    · obtain ⟨v, o, rfl, s, hv⟩ := h
      obtain ⟨rfl, hx⟩ := y
      obtain ⟨g, eg, hg1⟩ := hr0.get hx
      have tb := hT i (by rw [← hr0.len]; omega)
      have sm := hs g (List.mem_of_getElem? eg)
      refine ⟨_, rfl, _, rfl, v, x, (sumF (fs.take i)).1, (sumF (fs.take i)).2, g.1, g.2, rfl, hv, hg1.same s, tb.fr, sm.fr, tb.bn, tb.bd, sm.bn, sm.bd, fun p H3 s3 _ hp => ?_⟩
      have e : fs.take (i + 1) = fs.take i ++ [g] := by
        rw [List.take_add_one, eg]
        rfl
      refine ⟨_, _, rfl, s.trans s3, ?_⟩
      rw [e, sumF_snoc]
      exact .mk hp
    · obtain ⟨v, o, rfl, s, hv⟩ := h
      rw [hr0.len, List.take_length] at hv
      exact ⟨_, rfl, k v _ s hv⟩
  · refine ⟨_, (pss_cons (ps_set (i := 1) sc__law_total.nd rfl (Or.inl rfl) (pe_tup (pa_cons pe_int (pa_cons pe_int pa_nil))))
      (pss_cons (ps_for PassesOwn.never rfl (pi_tup (pv 0)) (pg_name (i := 2) sc__law_total.nd rfl (Or.inl rfl))
        (pss_one (ps_set (i := 1) sc__law_total.nd rfl (Or.inl rfl) (pc c__law_added hg hr (by decide) (by rfl) (pa_cons (pv 1) (pa_cons (pv 2) pa_nil))))))
      (pss_one (ps_ret (pv 1))))), ?_⟩
    refine ⟨by show 2 ≤ sizeLine; decide, fun p np => ?_⟩
    have s0 := same_upd (o := .tup [.int 0, .int 1]) np
    have h0 : Cpl K (upd H p (.tup [.int 0, .int 1])) (.ref p) (sumF (fs.take 0)).1 (sumF (fs.take 0)).2 := .mk upd_same
    refine ⟨_, rfl, a, rfl, ⟨_, s0.seqT hq⟩, for_it (walk_tup (K := K) (xs := xs) (a := a)) (fun i σ H' => ∃ v o, σ = [some (.ref a), some v, o] ∧ Same H H' ∧ Cpl K H' v (sumF (fs.take i)).1 (sumF (fs.take i)).2) ⟨_, _, rfl, s0, h0⟩ (fun i σ H' _ h => by
      obtain ⟨_, _, _, s, _⟩ := h
      exact s.seqT hq) (fun i x σ H1 H2 hi h y => ?_) fun σ H1 h => ?_⟩
    · obtain ⟨v, o, rfl, s, hv⟩ := h
      obtain ⟨rfl, hx⟩ := y
      obtain ⟨g, eg, hg1⟩ := hr0.get hx
      have tb := hT i (by rw [← hr0.len]; omega)
      have sm := hs g (List.mem_of_getElem? eg)
      refine ⟨_, rfl, _, rfl, v, x, (sumF (fs.take i)).1, (sumF (fs.take i)).2, g.1, g.2, rfl, hv, hg1.same s, tb.fr, sm.fr, tb.bn, tb.bd, sm.bn, sm.bd, fun p H3 s3 _ hp => ?_⟩
      have e : fs.take (i + 1) = fs.take i ++ [g] := by
        rw [List.take_add_one, eg]
        rfl
      refine ⟨_, _, rfl, s.trans s3, ?_⟩
      rw [e, sumF_snoc]
      exact .mk hp
    · obtain ⟨v, o, rfl, s, hv⟩ := h
      rw [hr0.len, List.take_length] at hv
      exact ⟨_, rfl, k v _ s hv⟩
def LeF (f g : Int × Int) : Prop := f.1 * g.2 ≤ g.1 * f.2
theorem leF_trans {f g h : Int × Int} (pf : 0 < f.2) (pg : 0 < g.2) (ph : 0 < h.2) (a : LeF f g) (b : LeF g h) : LeF f h := by
  unfold LeF at *
  refine Int.le_of_mul_le_mul_right (?_ : f.1 * h.2 * g.2 ≤ h.1 * f.2 * g.2) pg
  calc f.1 * h.2 * g.2 = (f.1 * g.2) * h.2 := by rw [Int.mul_assoc, Int.mul_comm h.2, ← Int.mul_assoc]
    _ ≤ (g.1 * f.2) * h.2 := Int.mul_le_mul_of_nonneg_right a (Int.le_of_lt ph)
    _ = (g.1 * h.2) * f.2 := by rw [Int.mul_assoc, Int.mul_comm f.2, ← Int.mul_assoc]
    _ ≤ (h.1 * g.2) * f.2 := Int.mul_le_mul_of_nonneg_right b (Int.le_of_lt pf)
    _ = h.1 * f.2 * g.2 := by rw [Int.mul_assoc, Int.mul_comm g.2, ← Int.mul_assoc]
theorem leF_refl (f : Int × Int) : LeF f f := Int.le_refl _
theorem leF_anti {f g : Int × Int} (hf : Fr f.1 f.2) (hg : Fr g.1 g.2) (a : LeF f g) (b : LeF g f) : f = g := by
  obtain ⟨e1, e2⟩ := fr_eq hf hg (Int.le_antisymm a b)
  exact Prod.ext e1 e2
theorem cmp_neg {f g : Int × Int} : (cmpF f.1 f.2 g.1 g.2 < 0) ↔ ¬ LeF g f := by
  unfold cmpF LeF
  split
  · omega
  · split <;> omega
theorem cmp_pos {f g : Int × Int} : (cmpF f.1 f.2 g.1 g.2 > 0) ↔ ¬ LeF f g := by
  unfold cmpF LeF
  split
  · omega
  · split <;> omega
def spEnd (K : PySem.W.Frag) (R : Int × Int → Int × Int → Prop) : Sp := fun vs H Q _ => ∃ (a : Addr) (fs : List (Int × Int)), vs = [.ref a] ∧ RowAt K H a fs ∧ (∀ f ∈ fs, OkF f) ∧ 0 < fs.length ∧ ∀ v f H', Same H H' → Cpl K H' v f.1 f.2 → f ∈ fs → (∀ g ∈ fs, R f g) → Q v H'
theorem spEnd_len {K : PySem.W.Frag} {R : Int × Int → Int × Int → Prop} {a : Str} : ∀ vs H Q E, spEnd K R vs H Q E → vs.length = [a].length := fun vs H Q E h => by
  obtain ⟨_, _, rfl, _⟩ := h
  rfl
abbrev sgreatest_of : Stmt := topS 13
theorem sc_greatest_of : FnScope ["fractions", "most", "one"] ["fractions"] (defScope sgreatest_of) := ⟨rfl, rfl, rfl, by decide +kernel, rfl, by decide +kernel, by decide +kernel⟩
theorem ok_greatest_of {f : Addr} {fd : FuncData} (F : Fun K "greatest_of" "greatest_of" sgreatest_of f fd) (B : Bt mg) (c_compared : CalG P w K mg base 3 "compared" (spCmp K)) : FnG P w K mg base 4 f fd ["fractions"] (spEnd K (fun f g => LeF g f)) := by
  refine Fun.okG F sc_greatest_of spEnd_len (fun cdv A outer s H vs Q E hg hr h => ?_)
  obtain ⟨a, fs, rfl, ⟨xs, hq, hr0⟩, hs, hl, k⟩ := h
  have hl2 : 0 < xs.length := by rw [hr0.len]; exact hl
  obtain ⟨f0, e0, c0⟩ := hr0.get (List.getElem?_eq_getElem hl2)
  have ex0 : xs[0]? = some xs[0] := List.getElem?_eq_getElem hl2
  generalize xs[0] = x0 at ex0 c0
  rcases hq with hq | hq
  · refine ⟨_, (pss_cons (ps_set (i := 1) sc_greatest_of.nd rfl (Or.inl rfl) (pe_ix ix_list (pv 0) pe_int (fun _ _ => rfl)))
      (pss_cons (ps_for PassesOwn.never rfl (pi_list (pv 0)) (pg_name (i := 2) sc_greatest_of.nd rfl (Or.inl rfl))
        (pss_one (ps_if (pt_cmpR op_gt (pc c_compared hg hr (by decide) (by rfl) (pa_cons (pv 2) (pa_cons (pv 1) pa_nil))) pe_int (nomark _))
          (pss_one (ps_set (i := 1) sc_greatest_of.nd rfl (Or.inl rfl) (pv 2)))
          pss_nil)))
      (pss_one (ps_ret (pv 1))))), ?_⟩
    refine ⟨_, rfl, a, _, 0, x0, rfl, rfl, hq, atI_nat (j := 0) ex0, ?_⟩
    refine ⟨_, rfl, a, rfl, ⟨_, hq⟩, for_it (walk_list (K := K) (xs := xs) (a := a)) (fun i σ H' => ∃ v f o, σ = [some (.ref a), some v, o] ∧ Same H H' ∧ Cpl K H' v f.1 f.2 ∧ f ∈ fs ∧ ∀ g ∈ fs.take i, (fun f g => LeF g f) f g) ⟨_, f0, _, rfl, .refl H, c0, List.mem_of_getElem? e0, fun g hg => by simp at hg⟩ (fun i σ H' _ h => by
      obtain ⟨_, _, _, _, sm, _⟩ := h
      exact sm.seq hq) (fun i x σ H1 H2 hi h y => ?_) fun σ H1 h => ?_⟩
    · obtain ⟨v, f, o, rfl, sm, hv, hf, hm⟩ := h
      obtain ⟨rfl, hx⟩ := y
      obtain ⟨g, eg, hg1⟩ := hr0.get hx
      have sg := hs g (List.mem_of_getElem? eg)
      have sf := hs f hf
      have et : fs.take (i + 1) = fs.take i ++ [g] := by
        rw [List.take_add_one, eg]
        rfl
      refine ⟨_, rfl, _, rfl, x, v, g.1, g.2, f.1, f.2, rfl, hg1.same sm, hv, sg.bn, sg.bd, sf.bn, sf.bd, sg.fr.pos, sf.fr.pos, fun H3 s3 => ⟨_, _, rfl, rfl, _, rfl, iteP (fun hc => ?_) fun hc => ?_⟩⟩
      · refine ⟨_, rfl, _, g, _, rfl, sm.trans s3, (hg1.same sm).same s3, List.mem_of_getElem? eg, fun h hh => ?_⟩
        have nle := cmp_pos.mp hc
        have lt : (fun f g => LeF g f) g f := by
          unfold LeF at *
          omega
        rw [et, List.mem_append] at hh
        rcases hh with hh | hh
        · have sh := hs h (List.mem_of_mem_take hh)
          exact leF_trans sh.fr.pos sf.fr.pos sg.fr.pos (hm h hh) lt
        · rw [List.mem_singleton.mp hh]
          exact leF_refl g
      · refine ⟨_, f, _, rfl, sm.trans s3, hv.same s3, hf, fun h hh => ?_⟩
        have nle : (fun f g => LeF g f) f g := Classical.not_not.mp fun z => hc (cmp_pos.mpr z)
        rw [et, List.mem_append] at hh
        rcases hh with hh | hh
        · exact hm h hh
        · rw [List.mem_singleton.mp hh]
          exact nle
    · obtain ⟨v, f, o, rfl, sm, hv, hf, hm⟩ := h
      rw [hr0.len, List.take_length] at hm
      exact ⟨_, rfl, k v f _ sm hv hf hm⟩
  · refine ⟨_, (pss_cons (ps_set (i := 1) sc_greatest_of.nd rfl (Or.inl rfl) (pe_ix ix_tup (pv 0) pe_int (fun _ _ => rfl)))
      (pss_cons (ps_for PassesOwn.never rfl (pi_tup (pv 0)) (pg_name (i := 2) sc_greatest_of.nd rfl (Or.inl rfl))
        (pss_one (ps_if (pt_cmpR op_gt (pc c_compared hg hr (by decide) (by rfl) (pa_cons (pv 2) (pa_cons (pv 1) pa_nil))) pe_int (nomark _))
          (pss_one (ps_set (i := 1) sc_greatest_of.nd rfl (Or.inl rfl) (pv 2)))
          pss_nil)))
      (pss_one (ps_ret (pv 1))))), ?_⟩
    refine ⟨_, rfl, a, _, 0, x0, rfl, rfl, hq, atI_nat (j := 0) ex0, ?_⟩
    refine ⟨_, rfl, a, rfl, ⟨_, hq⟩, for_it (walk_tup (K := K) (xs := xs) (a := a)) (fun i σ H' => ∃ v f o, σ = [some (.ref a), some v, o] ∧ Same H H' ∧ Cpl K H' v f.1 f.2 ∧ f ∈ fs ∧ ∀ g ∈ fs.take i, (fun f g => LeF g f) f g) ⟨_, f0, _, rfl, .refl H, c0, List.mem_of_getElem? e0, fun g hg => by simp at hg⟩ (fun i σ H' _ h => by
      obtain ⟨_, _, _, _, sm, _⟩ := h
      exact sm.seqT hq) (fun i x σ H1 H2 hi h y => ?_) fun σ H1 h => ?_⟩
    · obtain ⟨v, f, o, rfl, sm, hv, hf, hm⟩ := h
      obtain ⟨rfl, hx⟩ := y
      obtain ⟨g, eg, hg1⟩ := hr0.get hx
      have sg := hs g (List.mem_of_getElem? eg)
      have sf := hs f hf
      have et : fs.take (i + 1) = fs.take i ++ [g] := by
        rw [List.take_add_one, eg]
        rfl
      refine ⟨_, rfl, _, rfl, x, v, g.1, g.2, f.1, f.2, rfl, hg1.same sm, hv, sg.bn, sg.bd, sf.bn, sf.bd, sg.fr.pos, sf.fr.pos, fun H3 s3 => ⟨_, _, rfl, rfl, _, rfl, iteP (fun hc => ?_) fun hc => ?_⟩⟩
      · refine ⟨_, rfl, _, g, _, rfl, sm.trans s3, (hg1.same sm).same s3, List.mem_of_getElem? eg, fun h hh => ?_⟩
        have nle := cmp_pos.mp hc
        have lt : (fun f g => LeF g f) g f := by
          unfold LeF at *
          omega
        rw [et, List.mem_append] at hh
        rcases hh with hh | hh
        · have sh := hs h (List.mem_of_mem_take hh)
          exact leF_trans sh.fr.pos sf.fr.pos sg.fr.pos (hm h hh) lt
        · rw [List.mem_singleton.mp hh]
          exact leF_refl g
      · refine ⟨_, f, _, rfl, sm.trans s3, hv.same s3, hf, fun h hh => ?_⟩
        have nle : (fun f g => LeF g f) f g := Classical.not_not.mp fun z => hc (cmp_pos.mpr z)
        rw [et, List.mem_append] at hh
        rcases hh with hh | hh
        · exact hm h hh
        · rw [List.mem_singleton.mp hh]
          exact nle
    · obtain ⟨v, f, o, rfl, sm, hv, hf, hm⟩ := h
      rw [hr0.len, List.take_length] at hm
      exact ⟨_, rfl, k v f _ sm hv hf hm⟩
end
end K49
namespace K49
open PySem PySem.Spec PyProof.Rows L2 Sw
/-! what a couple stands for -/
def vf (f : Int × Int) : Rat := (f.1 : Rat) / (f.2 : Rat)
theorem ne_cast {y : Int} (h : y ≠ 0) : (y : Rat) ≠ 0 := by simp [h]
theorem cast_eq {a b : Int} (h : (a : Rat) = (b : Rat)) : a = b := by exact_mod_cast h
theorem vf_red {x y : Int} (h : y ≠ 0) : vf (redI x y) = (x : Rat) / (y : Rat) := by
  obtain ⟨f, e⟩ := redI_fr (x := x) h
  have h1 : ((redI x y).1 : Rat) * (y : Rat) = (x : Rat) * ((redI x y).2 : Rat) := by exact_mod_cast e
  have h2 := ne_cast h
  have h3 := ne_cast (show (redI x y).2 ≠ 0 by have := f.pos; omega)
  unfold vf
  grind
theorem vf_add {n d m e : Int} (hd : d ≠ 0) (he : e ≠ 0) : vf (addF n d m e) = vf (n, d) + vf (m, e) := by
  unfold addF
  rw [vf_red (Int.mul_ne_zero hd he)]
  have h2 := ne_cast hd
  have h3 := ne_cast he
  have e1 : ((n * e + m * d : Int) : Rat) = (n : Rat) * e + (m : Rat) * d := by simp
  have e2 : ((d * e : Int) : Rat) = (d : Rat) * e := by simp
  rw [e1, e2]
  unfold vf
  grind
theorem vf_mul {n d m e : Int} (hd : d ≠ 0) (he : e ≠ 0) : vf (mulF n d m e) = vf (n, d) * vf (m, e) := by
  unfold mulF
  rw [vf_red (Int.mul_ne_zero hd he)]
  have h2 := ne_cast hd
  have h3 := ne_cast he
  have e1 : ((n * m : Int) : Rat) = (n : Rat) * m := by simp
  have e2 : ((d * e : Int) : Rat) = (d : Rat) * e := by simp
  rw [e1, e2]
  unfold vf
  grind
theorem vf_inj {f g : Int × Int} (hf : Fr f.1 f.2) (hg : Fr g.1 g.2) (e : vf f = vf g) : f = g := by
  have h2 := ne_cast (show f.2 ≠ 0 by have := hf.pos; omega)
  have h3 := ne_cast (show g.2 ≠ 0 by have := hg.pos; omega)
  unfold vf at e
  have e1 : (f.1 : Rat) * g.2 = (g.1 : Rat) * f.2 := by grind
  have e2 : f.1 * g.2 = g.1 * f.2 := cast_eq (by simpa using e1)
  obtain ⟨a, b⟩ := fr_eq hf hg e2
  exact Prod.ext a b
theorem vf_zero {f : Int × Int} (hf : Fr f.1 f.2) : vf f = 0 ↔ f.1 = 0 := by
  have h2 := ne_cast (show f.2 ≠ 0 by have := hf.pos; omega)
  unfold vf
  constructor
  · intro e
    have e1 : (f.1 : Rat) = ((0 : Int) : Rat) := by
      have : ((0 : Int) : Rat) = 0 := rfl
      rw [this]
      grind
    exact cast_eq e1
  · intro e
    rw [e]
    have : ((0 : Int) : Rat) = 0 := rfl
    rw [this]
    grind
theorem vf_neg (n d : Int) : vf (-n, d) = - vf (n, d) := by
  unfold vf
  have : ((-n : Int) : Rat) = - (n : Rat) := by simp
  show ((-n : Int) : Rat) / (d : Rat) = _
  rw [this]
  grind
/-! a FRACTION of a size -/
structure Sz (a b : Nat) (f : Int × Int) : Prop where
  fr : Fr f.1 f.2
  n : f.1.natAbs < 2 ^ a
  d : f.2.natAbs < 2 ^ b
theorem p2 {a b : Nat} (h : a ≤ b) : (2 : Nat) ^ a ≤ 2 ^ b := Nat.pow_le_pow_right (by decide) h
theorem Sz.nd {a b : Nat} {f : Int × Int} (h : Sz a b f) : f.2 ≠ 0 := by
  have := h.fr.pos
  omega
theorem Sz.mono {a b a' b' : Nat} {f : Int × Int} (h : Sz a b f) (ha : a ≤ a') (hb : b ≤ b') : Sz a' b' f := ⟨h.fr, Nat.lt_of_lt_of_le h.n (p2 ha), Nat.lt_of_lt_of_le h.d (p2 hb)⟩
theorem Sz.bn {a b : Nat} {f : Int × Int} (h : Sz a b f) (ha : a ≤ 3000) : Bg f.1 := Nat.lt_of_lt_of_le h.n (p2 ha)
theorem Sz.bd {a b : Nat} {f : Int × Int} (h : Sz a b f) (hb : b ≤ 3000) : Bg f.2 := Nat.lt_of_lt_of_le h.d (p2 hb)
theorem Sz.mul {a b a' b' : Nat} {f g : Int × Int} (h : Sz a b f) (k : Sz a' b' g) : Sz (a + a') (b + b') (mulF f.1 f.2 g.1 g.2) := by
  have hd := Int.mul_ne_zero h.nd k.nd
  obtain ⟨l1, l2⟩ := redI_le (x := f.1 * g.1) hd
  exact ⟨(redI_fr hd).1, Nat.lt_of_le_of_lt l1 (natAbs_lt_mul h.n k.n), Nat.lt_of_le_of_lt l2 (natAbs_lt_mul h.d k.d)⟩
theorem Sz.add {a b a' b' c : Nat} {f g : Int × Int} (h : Sz a b f) (k : Sz a' b' g) (h1 : a + b' + 1 ≤ c) (h2 : a' + b + 1 ≤ c) : Sz c (b + b') (addF f.1 f.2 g.1 g.2) := by
  have hd := Int.mul_ne_zero h.nd k.nd
  obtain ⟨l1, l2⟩ := redI_le (x := f.1 * g.2 + g.1 * f.2) hd
  refine ⟨(redI_fr hd).1, Nat.lt_of_le_of_lt l1 ?_, Nat.lt_of_le_of_lt l2 (natAbs_lt_mul h.d k.d)⟩
  have e : c = (c - 1) + 1 := by omega
  rw [e]
  exact natAbs_lt_add (Nat.lt_of_lt_of_le (natAbs_lt_mul h.n k.d) (p2 (by omega))) (Nat.lt_of_lt_of_le (natAbs_lt_mul k.n h.d) (p2 (by omega)))
theorem Sz.neg {a b : Nat} {n d : Int} (h : Sz a b (n, d)) : Sz a b (-n, d) := ⟨h.fr.neg, by show (-n).natAbs < _; rw [Int.natAbs_neg]; exact h.n, h.d⟩
theorem sz_zero : Sz 0 1 (0, 1) := ⟨⟨by decide, gI_cp.mp (by decide)⟩, by decide, by decide⟩
theorem sz_one : Sz 1 1 (1, 1) := ⟨⟨by decide, gI_cp.mp (by decide)⟩, by decide, by decide⟩
theorem sum_sz {a b : Nat} : ∀ (fs : List (Int × Int)) (i : Nat), (∀ f ∈ fs, Sz a b f) → i ≤ fs.length → Sz (a + i * (b + 1) + 1) (1 + i * b) (sumF (fs.take i)) ∧ vf (sumF (fs.take i)) = ((fs.take i).map vf).sum
  | fs, 0, _, _ => by
    refine ⟨sz_zero.mono (by omega) (by omega), ?_⟩
    show vf (0, 1) = 0
    unfold vf
    have : ((0 : Int) : Rat) = 0 := rfl
    show ((0 : Int) : Rat) / ((1 : Int) : Rat) = 0
    rw [this]
    grind
  | fs, i + 1, h, hi => by
    have hlt : i < fs.length := hi
    have e : fs.take (i + 1) = fs.take i ++ [fs[i]] := by
      rw [List.take_add_one, List.getElem?_eq_getElem hlt]
      rfl
    obtain ⟨h1, h2⟩ := sum_sz fs i h (by omega)
    have h3 := h fs[i] (List.getElem_mem hlt)
    rw [e, sumF_snoc]
    have e2 : (i + 1) * (b + 1) = i * (b + 1) + (b + 1) := Nat.succ_mul _ _
    have e3 : (i + 1) * b = i * b + b := Nat.succ_mul _ _
    have e4 : i * (b + 1) = i * b + i := Nat.mul_succ _ _
    refine ⟨(h1.add h3 (c := a + (i + 1) * (b + 1) + 1) (by omega) (by omega)).mono (Nat.le_refl _) (by omega), ?_⟩
    rw [vf_add h1.nd h3.nd, List.map_append, List.sum_append, ← h2, List.map_cons, List.map_nil, List.sum_cons, List.sum_nil]
    show vf (sumF (fs.take i)) + vf fs[i] = _
    grind
theorem vf_sub {n d m e : Int} (hd : d ≠ 0) (he : e ≠ 0) : vf (subF n d m e) = vf (n, d) - vf (m, e) := by
  unfold subF
  rw [vf_red (Int.mul_ne_zero hd he)]
  have h2 := ne_cast hd
  have h3 := ne_cast he
  have e1 : ((n * e - m * d : Int) : Rat) = (n : Rat) * e - (m : Rat) * d := by simp
  have e2 : ((d * e : Int) : Rat) = (d : Rat) * e := by simp
  rw [e1, e2]
  unfold vf
  grind
theorem vf_div {n d m e : Int} (hd : d ≠ 0) (he : e ≠ 0) (hm : m ≠ 0) : vf (divF n d m e) = vf (n, d) / vf (m, e) := by
  unfold divF
  rw [vf_red (Int.mul_ne_zero hd hm)]
  have h2 := ne_cast hd
  have h3 := ne_cast he
  have h4 := ne_cast hm
  have e1 : ((n * e : Int) : Rat) = (n : Rat) * e := by simp
  have e2 : ((d * m : Int) : Rat) = (d : Rat) * m := by simp
  rw [e1, e2]
  unfold vf
  grind
theorem Sz.div {a b a' b' : Nat} {f g : Int × Int} (h : Sz a b f) (k : Sz a' b' g) (hg : g.1 ≠ 0) : Sz (a + b') (b + a') (divF f.1 f.2 g.1 g.2) := by
  have hd := Int.mul_ne_zero h.nd hg
  obtain ⟨l1, l2⟩ := redI_le (x := f.1 * g.2) hd
  exact ⟨(redI_fr hd).1, Nat.lt_of_le_of_lt l1 (natAbs_lt_mul h.n k.d), Nat.lt_of_le_of_lt l2 (natAbs_lt_mul h.d k.n)⟩
theorem Sz.sub {a b a' b' c : Nat} {f g : Int × Int} (h : Sz a b f) (k : Sz a' b' g) (h1 : a + b' + 1 ≤ c) (h2 : a' + b + 1 ≤ c) : Sz c (b + b') (subF f.1 f.2 g.1 g.2) := by
  have := h.add (g := (-g.1, g.2)) (k.neg) h1 h2
  have e : addF f.1 f.2 (-g.1) g.2 = subF f.1 f.2 g.1 g.2 := subF_add _ _ _ _
  rw [← e]
  exact this
theorem Sz.okf {a b : Nat} {f : Int × Int} (h : Sz a b f) (ha : a ≤ 3000) (hb : b ≤ 3000) : OkF f := ⟨h.fr, h.bn ha, h.bd hb⟩
/-- above nought -/
theorem red_pos {x y : Int} (hx : 0 < x) (hy : 0 < y) : 0 < (redI x y).1 := by
  obtain ⟨f, e⟩ := redI_fr (x := x) (show y ≠ 0 by omega)
  have h1 : 0 < x * (redI x y).2 := Int.mul_pos hx f.pos
  rw [← e] at h1
  rcases Int.lt_or_le 0 (redI x y).1 with z | z
  · exact z
  · have := Int.mul_nonneg (show 0 ≤ -(redI x y).1 by omega) (Int.le_of_lt hy)
    rw [Int.neg_mul] at this
    omega
theorem red_nn {x y : Int} (hx : 0 ≤ x) (hy : 0 < y) : 0 ≤ (redI x y).1 := by
  obtain ⟨f, e⟩ := redI_fr (x := x) (show y ≠ 0 by omega)
  have h1 : 0 ≤ x * (redI x y).2 := Int.mul_nonneg hx (Int.le_of_lt f.pos)
  rw [← e] at h1
  rcases Int.lt_or_le (redI x y).1 0 with z | z
  · have := Int.mul_pos (show 0 < -(redI x y).1 by omega) hy
    rw [Int.neg_mul] at this
    omega
  · exact z
theorem mul_pos' {f g : Int × Int} (hf : 0 < f.1) (hg : 0 < g.1) (pf : 0 < f.2) (pg : 0 < g.2) : 0 < (mulF f.1 f.2 g.1 g.2).1 := red_pos (Int.mul_pos hf hg) (Int.mul_pos pf pg)
theorem add_pos' {f g : Int × Int} (hf : 0 < f.1) (hg : 0 ≤ g.1) (pf : 0 < f.2) (pg : 0 < g.2) : 0 < (addF f.1 f.2 g.1 g.2).1 := by
  have h1 := Int.mul_pos hf pg
  have h2 := Int.mul_nonneg hg (Int.le_of_lt pf)
  exact red_pos (by omega) (Int.mul_pos pf pg)
theorem rest_pos {f : Int × Int} (h : f.1 < f.2) (p : 0 < f.2) : 0 < (subF 1 1 f.1 f.2).1 := red_pos (by omega) (by omega)
/-- the greater one of two -/
def maxF (x y : Int × Int) : Int × Int := if x.1 * y.2 < y.1 * x.2 then y else x
theorem max_of {x y f : Int × Int} (hx : Fr x.1 x.2) (hy : Fr y.1 y.2) (hf : f ∈ [x, y]) (hm : ∀ g ∈ [x, y], LeF g f) : f = maxF x y := by
  have h1 := hm x (by simp)
  have h2 := hm y (by simp)
  unfold maxF
  by_cases c : x.1 * y.2 < y.1 * x.2
  · rw [if_pos c]
    rcases List.mem_cons.mp hf with rfl | hf
    · unfold LeF at h2
      omega
    · exact List.mem_singleton.mp hf
  · rw [if_neg c]
    rcases List.mem_cons.mp hf with rfl | hf
    · rfl
    · have e := List.mem_singleton.mp hf
      subst e
      exact leF_anti hy hx (by unfold LeF; omega) h1
theorem maxF_or (x y : Int × Int) : maxF x y = x ∨ maxF x y = y := by
  unfold maxF
  split
  · exact .inr rfl
  · exact .inl rfl
theorem Sz.max {a b : Nat} {f g : Int × Int} (h : Sz a b f) (k : Sz a b g) : Sz a b (maxF f g) := by
  rcases maxF_or f g with e | e
  · rw [e]; exact h
  · rw [e]; exact k
theorem mulF_comm (n d m e : Int) : mulF n d m e = mulF m e n d := by
  unfold mulF
  rw [Int.mul_comm n m, Int.mul_comm d e]
/-- times and by, in either order -/
theorem div_mul {b x y : Int × Int} (hb : Fr b.1 b.2) (hx : Fr x.1 x.2) (hy : Fr y.1 y.2) (y0 : y.1 ≠ 0) : divF (mulF b.1 b.2 x.1 x.2).1 (mulF b.1 b.2 x.1 x.2).2 y.1 y.2 = mulF b.1 b.2 (divF x.1 x.2 y.1 y.2).1 (divF x.1 x.2 y.1 y.2).2 := by
  have nb : b.2 ≠ 0 := by have := hb.pos; omega
  have nx : x.2 ≠ 0 := by have := hx.pos; omega
  have ny : y.2 ≠ 0 := by have := hy.pos; omega
  have f1 := (redI_fr (x := b.1 * x.1) (Int.mul_ne_zero nb nx)).1
  have f2 := (redI_fr (x := x.1 * y.2) (Int.mul_ne_zero nx y0)).1
  have n1 : (mulF b.1 b.2 x.1 x.2).2 ≠ 0 := by have := f1.pos; unfold mulF; omega
  have n2 : (divF x.1 x.2 y.1 y.2).2 ≠ 0 := by have := f2.pos; unfold divF; omega
  refine vf_inj (redI_fr (Int.mul_ne_zero n1 y0)).1 (redI_fr (Int.mul_ne_zero nb n2)).1 ?_
  rw [vf_div n1 ny y0, vf_mul nb n2]
  show vf (mulF b.1 b.2 x.1 x.2) / vf (y.1, y.2) = vf (b.1, b.2) * vf (divF x.1 x.2 y.1 y.2)
  rw [vf_mul nb nx, vf_div nx ny y0]
  have : vf (y.1, y.2) ≠ 0 := fun z => y0 ((vf_zero hy).mp z)
  grind
end K49
namespace K49
open PySem PySem.Spec PyProof.Rows L2 Sw
abbrev F2 := Int × Int
/-- a THING -/
inductive Th
  | shares (c : F2)
  | note (a : F2) (cap disc : Option F2)
  | kept (c o : F2)
  | weighed (c o t : F2)
/-- a drawn FRACTION above 0 -/
structure Nu (f : F2) : Prop where
  sz : Sz 40 10 f
  pos : 0 < f.1
/-- a part: from 0 on, below 1 -/
structure Pt (f : F2) : Prop where
  sz : Sz 8 8 f
  nn : 0 ≤ f.1
  lt : f.1 < f.2
/-- money: from 0 on -/
structure Mo (f : F2) : Prop where
  sz : Sz 40 10 f
  nn : 0 ≤ f.1
def restF : Option F2 → F2
  | none => (1, 1)
  | some f => subF 1 1 f.1 f.2
def Th.Ok : Th → Prop
  | .shares c => Nu c
  | .note a cap disc => Nu a ∧ (∀ f, cap = some f → Nu f) ∧ ∀ f, disc = some f → Pt f
  | .kept c o => Nu c ∧ Nu o
  | .weighed c o t => Nu c ∧ Nu o ∧ Nu t
def leastF (a : F2) (disc : Option F2) : F2 := divF a.1 a.2 (restF disc).1 (restF disc).2
def capF (a c p : F2) : F2 := divF (mulF p.1 p.2 a.1 a.2).1 (mulF p.1 p.2 a.1 a.2).2 c.1 c.2
def weiF (o t m : F2) : F2 := addF (mulF t.1 t.2 o.1 o.2).1 (mulF t.1 t.2 o.1 o.2).2 m.1 m.2
def kepF (c o p : F2) : F2 := if cmpF p.1 p.2 o.1 o.2 ≥ 0 then mulF p.1 p.2 c.1 c.2 else mulF c.1 c.2 o.1 o.2
def wegF (c o t p m : F2) : F2 := if cmpF p.1 p.2 o.1 o.2 ≥ 0 then mulF p.1 p.2 c.1 c.2 else
      divF (mulF (mulF c.1 c.2 o.1 o.2).1 (mulF c.1 c.2 o.1 o.2).2 (weiF p t m).1 (weiF p t m).2).1 (mulF (mulF c.1 c.2 o.1 o.2).1 (mulF c.1 c.2 o.1 o.2).2 (weiF p t m).1 (weiF p t m).2).2 (weiF o t m).1 (weiF o t m).2
/-- the WORTH of a THING -/
def wTh (p m : F2) : Th → F2
  | .shares c => mulF p.1 p.2 c.1 c.2
  | .note a none disc => leastF a disc
  | .note a (some c) disc => maxF (leastF a disc) (capF a c p)
  | .kept c o => kepF c o p
  | .weighed c o t => wegF c o t p m
theorem Nu.ok {f : F2} (h : Nu f) : OkF f := h.sz.okf (by decide) (by decide)
theorem Pt.ok {f : F2} (h : Pt f) : OkF f := h.sz.okf (by decide) (by decide)
theorem Mo.ok {f : F2} (h : Mo f) : OkF f := h.sz.okf (by decide) (by decide)
theorem rest_sz {o : Option F2} (h : ∀ f, o = some f → Pt f) : Sz 10 10 (restF o) ∧ 0 < (restF o).1 := by
  cases o with
  | none => exact ⟨sz_one.mono (by decide) (by decide), by decide⟩
  | some f =>
    have p := h f rfl
    exact ⟨((sz_one.sub p.sz (c := 10) (by decide) (by decide))).mono (by decide) (by decide), rest_pos p.lt p.sz.fr.pos⟩
theorem least_sz {a : F2} {o : Option F2} (ha : Nu a) (h : ∀ f, o = some f → Pt f) : Sz 50 20 (leastF a o) := by
  obtain ⟨r, p⟩ := rest_sz h
  exact (ha.sz.div r (by omega)).mono (by decide) (by decide)
theorem cap_sz {a c p : F2} (ha : Nu a) (hc : Nu c) (hp : Sz 40 40 p) : Sz 90 90 (capF a c p) := ((hp.mul ha.sz).div hc.sz (by have := hc.pos; omega)).mono (by decide) (by decide)
theorem wei_sz {o t m : F2} {a b : Nat} (ho : Sz a b o) (ht : Nu t) (hm : Sz 40 10 m) : Sz (a + b + 100) (b + 20) (weiF o t m) :=
  ((ht.sz.mul ho).add hm (c := a + b + 100) (by omega) (by omega)).mono (Nat.le_refl _) (by omega)
theorem wei_pos {o t m : F2} (ho : Nu o) (ht : Nu t) (hm : Mo m) : 0 < (weiF o t m).1 :=
  add_pos' (mul_pos' ht.pos ho.pos ht.sz.fr.pos ho.sz.fr.pos) hm.nn (ht.sz.mul ho.sz).fr.pos hm.sz.fr.pos
theorem w_sz {p m : F2} (hp : Sz 40 40 p) (hm : Mo m) : ∀ t : Th, t.Ok → Sz 480 340 (wTh p m t)
  | .shares c, h => (hp.mul (show Nu c from h).sz).mono (by decide) (by decide)
  | .note a none d, h => (least_sz h.1 h.2.2).mono (by decide) (by decide)
  | .note a (some c) d, h => ((least_sz h.1 h.2.2).mono (a' := 90) (b' := 90) (by decide) (by decide)).max (cap_sz h.1 (h.2.1 c rfl) hp) |>.mono (by decide) (by decide)
  | .kept c o, h => by
    obtain ⟨h1, h2⟩ : Nu c ∧ Nu o := h
    show Sz 480 340 (kepF c o p)
    unfold kepF
    split
    · exact (hp.mul h1.sz).mono (by decide) (by decide)
    · exact (h1.sz.mul h2.sz).mono (by decide) (by decide)
  | .weighed c o t, h => by
    obtain ⟨h1, h2, h3⟩ : Nu c ∧ Nu o ∧ Nu t := h
    show Sz 480 340 (wegF c o t p m)
    unfold wegF
    split
    · exact (hp.mul h1.sz).mono (by decide) (by decide)
    · exact (((h1.sz.mul h2.sz).mul (wei_sz hp h3 hm.sz)).div (wei_sz h2.sz h3 hm.sz) (by have := wei_pos h2 h3 hm; omega)).mono (by decide) (by decide)
/-! things of the heap -/
def OptAt (K : PySem.W.Frag) (H : Hp) (v : V) : Option F2 → Prop
  | none => v = .non
  | some f => Cpl K H v f.1 f.2
def ThAt (K : PySem.W.Frag) (H : Hp) (v : V) : Th → Prop
  | .shares c => ∃ r x, v = .ref r ∧ SqT K H r [.str "shares", x] ∧ Cpl K H x c.1 c.2
  | .note a cap disc => ∃ r x y z, v = .ref r ∧ SqT K H r [.str "note", x, y, z] ∧ Cpl K H x a.1 a.2 ∧ OptAt K H y cap ∧ OptAt K H z disc
  | .kept c o => ∃ r x y, v = .ref r ∧ SqT K H r [.str "kept", x, y] ∧ Cpl K H x c.1 c.2 ∧ Cpl K H y o.1 o.2
  | .weighed c o t => ∃ r x y z, v = .ref r ∧ SqT K H r [.str "weighed", x, y, z] ∧ Cpl K H x c.1 c.2 ∧ Cpl K H y o.1 o.2 ∧ Cpl K H z t.1 t.2
theorem OptAt.same {K : PySem.W.Frag} {H H' : Hp} {v : V} {o : Option F2} (h : OptAt K H v o) (s : Same H H') : OptAt K H' v o := by
  cases o with
  | none => exact h
  | some f => exact Cpl.same h s
theorem ThAt.same {K : PySem.W.Frag} {H H' : Hp} {v : V} {t : Th} (h : ThAt K H v t) (s : Same H H') : ThAt K H' v t := by
  cases t with
  | shares c => obtain ⟨r, x, rfl, a, b⟩ := h; exact ⟨r, x, rfl, s.seqT a, b.same s⟩
  | note a cap disc => obtain ⟨r, x, y, z, rfl, a, b, c, d⟩ := h; exact ⟨r, x, y, z, rfl, s.seqT a, b.same s, c.same s, d.same s⟩
  | kept c o => obtain ⟨r, x, y, rfl, a, b, c⟩ := h; exact ⟨r, x, y, rfl, s.seqT a, b.same s, c.same s⟩
  | weighed c o t => obtain ⟨r, x, y, z, rfl, a, b, c, d⟩ := h; exact ⟨r, x, y, z, rfl, s.seqT a, b.same s, c.same s, d.same s⟩
theorem res_by {K : PySem.W.Frag} {Q : VK} {H H1 : Hp} {f : F2} (s : Same H H1) (k : ∀ v H', Same H H' → Cpl K H' v f.1 f.2 → Q v H') : Res Q H1 f := fun p H' s' _ e => k _ _ (s.trans s') (.mk e)
section
variable {P : Program} {w : World} {K : PySem.W.Frag} {mg : Str → Option Value} {base : Heap}
def spRest (K : PySem.W.Frag) : Sp := fun vs H Q _ => ∃ (v : V) (o : Option F2), vs = [v] ∧ OptAt K H v o ∧ (∀ f, o = some f → Pt f) ∧ ∀ v' H', Same H H' → Cpl K H' v' (restF o).1 (restF o).2 → Q v' H'
abbrev srest_of : Stmt := topS 27
theorem sc_rest_of : FnScope ["part"] ["part"] (defScope srest_of) := ⟨rfl, rfl, rfl, by decide +kernel, rfl, by decide +kernel, by decide +kernel⟩
theorem ok_rest_of {f : Addr} {fd : FuncData} {z : Addr} (F : Fun K "rest_of" "rest_of" srest_of f fd) (B : Bt mg) (TO : ∃ u, mg "ONE" = some u ∧ RelV (.ref z) u) (KO : KTup K z [.int 1, .int 1]) (c_lessened : CalG P w K mg base 2 "lessened" (spTwo K subF)) : FnG P w K mg base 3 f fd ["part"] (spRest K) := by
  refine Fun.okG F sc_rest_of (fun vs H Q E h => ?_) (fun cdv A outer s H vs Q E hg hr h => ?_)
  · obtain ⟨_, _, rfl, _⟩ := h
    rfl
  obtain ⟨v, o, rfl, hv, ho, k⟩ := h
  obtain ⟨uz, mz, rz⟩ := TO
  have h1 : Cpl K H (.ref z) 1 1 := ⟨z, rfl, .inr KO⟩
  refine ⟨_, (pss_one (ps_ret (pe_ifExp (pt_cmpR op_isN (pv 0) pe_non (nomark _)) (pe_glob (v := .ref z) (by rfl) mz rz) (pc c_lessened hg hr (by decide) (by rfl) (pa_cons (pe_glob (v := .ref z) (by rfl) mz rz) (pa_cons (pv 0) pa_nil)))))), ?_⟩
  cases o with
  | none =>
    cases (show v = .non from hv)
    exact ⟨_, rfl, rfl, _, rfl, iteT (k _ _ (.refl H) h1)⟩
  | some f =>
    have p := ho f rfl
    obtain ⟨a, rfl, ha⟩ : Cpl K H v f.1 f.2 := hv
    have o1 : OkF (1, 1) := sz_one.okf (by decide) (by decide)
    exact ⟨_, rfl, rfl, _, rfl, iteF ⟨_, rfl, .ref z, .ref a, 1, 1, f.1, f.2, rfl, h1, ⟨a, rfl, ha⟩, o1.fr, p.sz.fr, o1.bn, o1.bd, p.ok.bn, p.ok.bd, res_by (.refl H) k⟩⟩
theorem vstr_ne {a b : Str} {A : Prop} (h : a ≠ b) (e : V.str a = V.str b) : A := absurd (V.str.inj e) h
def spNote (K : PySem.W.Frag) : Sp := fun vs H Q _ => ∃ (v p : V) (a : F2) (cap disc : Option F2) (pf : F2), vs = [v, p] ∧ ThAt K H v (.note a cap disc) ∧ (Th.note a cap disc).Ok ∧ Cpl K H p pf.1 pf.2 ∧ Sz 40 40 pf ∧ ∀ v' H', Same H H' → Cpl K H' v' (wTh pf (0, 1) (.note a cap disc)).1 (wTh pf (0, 1) (.note a cap disc)).2 → Q v' H'
abbrev snote_worth : Stmt := topS 29
theorem sc_note_worth : FnScope ["note", "price", "_", "amount", "cap", "discount", "least"] ["note", "price"] (defScope snote_worth) := ⟨rfl, rfl, rfl, by decide +kernel, rfl, by decide +kernel, by decide +kernel⟩
theorem ok_note_worth {f : Addr} {fd : FuncData} (F : Fun K "note_worth" "note_worth" snote_worth f fd) (B : Bt mg) (c_over : CalG P w K mg base 2 "over" (spDiv K)) (c_rest_of : CalG P w K mg base 3 "rest_of" (spRest K)) (c_greatest_of : CalG P w K mg base 4 "greatest_of" (spEnd K (fun f g => LeF g f))) (c_times : CalG P w K mg base 1 "times" (spTwo K mulF)) : FnG P w K mg base 5 f fd ["note", "price"] (spNote K) := by
  refine Fun.okG F sc_note_worth (fun vs H Q E h => ?_) (fun cdv A outer s H vs Q E hg hr h => ?_)
  · obtain ⟨_, _, _, _, _, _, rfl, _⟩ := h
    rfl
  obtain ⟨v, p, a, cap, disc, pf, rfl, ⟨r, x, y, z, rfl, h0, hx, hy, hz⟩, ⟨oa, oc, od⟩, hp, sp, k⟩ := h
  refine ⟨_, (pss_cons (ps_asg (pv 0) (pg_tup (n := 4) rfl (pgs_cons (pg_name (i := 2) sc_note_worth.nd rfl (Or.inl rfl)) (pgs_cons (pg_name (i := 3) sc_note_worth.nd rfl (Or.inl rfl)) (pgs_cons (pg_name (i := 4) sc_note_worth.nd rfl (Or.inl rfl)) (pgs_cons (pg_name (i := 5) sc_note_worth.nd rfl (Or.inl rfl)) pgs_nil))))))
    (pss_cons (ps_set (i := 6) sc_note_worth.nd rfl (Or.inl rfl) (pc c_over hg hr (by decide) (by rfl) (pa_cons (pv 3) (pa_cons (pc c_rest_of hg hr (by decide) (by rfl) (pa_cons (pv 5) pa_nil)) pa_nil))))
    (pss_one (ps_ret (pe_ifExp (pt_cmpR op_isN (pv 4) pe_non (nomark _)) (pv 6) (pc c_greatest_of hg hr (by decide) (by rfl) (pa_cons (pe_tup (pa_cons (pv 6) (pa_cons (pc c_over hg hr (by decide) (by rfl) (pa_cons (pc c_times hg hr (by decide) (by rfl) (pa_cons (pv 1) (pa_cons (pv 3) pa_nil))) (pa_cons (pv 4) pa_nil))) pa_nil))) pa_nil))))))), ?_⟩
  obtain ⟨rz, rp⟩ := rest_sz od
  have lz := least_sz oa od
  refine ⟨_, rfl, r, _, rfl, h0, rfl, _, _, rfl, _, _, rfl, _, _, rfl, _, _, rfl, rfl, ?_⟩
  refine ⟨_, rfl, _, rfl, z, disc, rfl, hz, od, fun v1 H1 s1 h1 => ⟨x, v1, a.1, a.2, _, _, rfl, hx.same s1, h1, oa.sz.fr, rz.fr, oa.ok.bn, oa.ok.bd, rz.bn (by decide), rz.bd (by decide), by omega, fun p2 H2 s2 _ e2 => ?_⟩⟩
  have s12 := s1.trans s2
  cases cap with
  | none =>
    cases (show y = .non from hy)
    exact ⟨_, rfl, rfl, _, rfl, iteT ⟨_, rfl, k _ _ s12 (.mk e2)⟩⟩
  | some c =>
    have nc := oc c rfl
    obtain ⟨yc, rfl, hyc⟩ : Cpl K H y c.1 c.2 := hy
    have hyc : Cpl K H (.ref yc) c.1 c.2 := ⟨yc, rfl, hyc⟩
    have mz := sp.mul oa.sz
    have cz := cap_sz oa nc sp
    refine ⟨_, rfl, rfl, _, rfl, iteF ?_⟩
    refine ⟨_, rfl, _, rfl, _, rfl, p, x, pf.1, pf.2, a.1, a.2, rfl, hp.same s12, hx.same s12, sp.fr, oa.sz.fr, sp.bn (by decide), sp.bd (by decide), oa.ok.bn, oa.ok.bd, fun p3 H3 s3 _ e3 => ?_⟩
    have s13 := s12.trans s3
    refine ⟨_, rfl, .ref p3, .ref yc, _, _, c.1, c.2, rfl, .mk e3, hyc.same s13, mz.fr, nc.sz.fr, mz.bn (by decide), mz.bd (by decide), nc.ok.bn, nc.ok.bd, by have := nc.pos; omega, fun p4 H4 s4 _ e4 => ?_⟩
    have s34 := s3.trans s4
    refine ⟨by show 2 ≤ sizeLine; decide, fun q nq => ?_⟩
    have sq := same_upd (o := .tup [.ref p2, .ref p4]) nq
    refine ⟨q, [leastF a disc, capF a c pf], rfl, ⟨[.ref p2, .ref p4], .inr (.inl (.inl upd_same)), ((Cpl.mk e2).same s34).same sq, (Cpl.mk e4).same sq, trivial⟩, fun f hf => ?_, (show 0 < 2 by decide), fun v f H5 s5 hv hf hm => ?_⟩
    · rcases List.mem_cons.mp hf with rfl | hf
      · exact lz.okf (by decide) (by decide)
      · rw [List.mem_singleton.mp hf]
        exact cz.okf (by decide) (by decide)
    · have e := max_of lz.fr cz.fr hf hm
      subst e
      exact k _ _ (((s12.trans s34).trans sq).trans s5) hv
def spWorth (K : PySem.W.Frag) : Sp := fun vs H Q _ => ∃ (v p mv : V) (t : Th) (pf m : F2), vs = [v, p, mv] ∧ ThAt K H v t ∧ t.Ok ∧ Cpl K H p pf.1 pf.2 ∧ Sz 40 40 pf ∧ Cpl K H mv m.1 m.2 ∧ Mo m ∧ ∀ v' H', Same H H' → Cpl K H' v' (wTh pf m t).1 (wTh pf m t).2 → Q v' H'
abbrev sthing_worth : Stmt := topS 28
theorem sc_thing_worth : FnScope ["thing", "price", "money", "word", "count", "bought", "_", "old", "then"] ["thing", "price", "money"] (defScope sthing_worth) := ⟨rfl, rfl, rfl, by decide +kernel, rfl, by decide +kernel, by decide +kernel⟩
theorem ok_thing_worth {f : Addr} {fd : FuncData} (F : Fun K "thing_worth" "thing_worth" sthing_worth f fd) (B : Bt mg) (c_note_worth : CalG P w K mg base 5 "note_worth" (spNote K)) (c_compared : CalG P w K mg base 3 "compared" (spCmp K)) (c_times : CalG P w K mg base 1 "times" (spTwo K mulF)) (c_over : CalG P w K mg base 2 "over" (spDiv K)) (c_added : CalG P w K mg base 1 "added" (spTwo K addF)) : FnG P w K mg base 6 f fd ["thing", "price", "money"] (spWorth K) := by
  refine Fun.okG F sc_thing_worth (fun vs H Q E h => ?_) (fun cdv A outer s H vs Q E hg hr h => ?_)
  · obtain ⟨_, _, _, _, _, _, rfl, _⟩ := h
    rfl
  obtain ⟨v, p, mv, t, pf, m, rfl, ht, ho, hp, sp, hm, om, k⟩ := h
  refine ⟨_, (pss_cons (ps_par (i := 3) (j := 4) rfl sc_thing_worth.nd rfl rfl (by decide) rfl rfl (pa_cons (pe_ix ix_tup (pv 0) pe_int (fun _ _ => rfl)) (pa_cons (pe_ix ix_tup (pv 0) pe_int (fun _ _ => rfl)) pa_nil)) (by rfl))
    (pss_cons (ps_if (pt_cmpR op_eq (pv 3) pe_str (nomark _))
      (pss_one (ps_ret (pc c_note_worth hg hr (by decide) (by rfl) (pa_cons (pv 0) (pa_cons (pv 1) pa_nil)))))
      pss_nil)
    (pss_cons (ps_if (PW.pt (pw_or (pt_cmpR op_eq (pv 3) pe_str (nomark _)) (pw_or1 (pt_cmpR op_ge (pc c_compared hg hr (by decide) (by rfl) (pa_cons (pv 1) (pa_cons (pe_ix ix_tup (pv 0) pe_int (fun _ _ => rfl)) pa_nil))) pe_int (nomark _)))))
      (pss_one (ps_ret (pc c_times hg hr (by decide) (by rfl) (pa_cons (pv 1) (pa_cons (pv 4) pa_nil)))))
      pss_nil)
    (pss_cons (ps_set (i := 5) sc_thing_worth.nd rfl (Or.inl rfl) (pc c_times hg hr (by decide) (by rfl) (pa_cons (pv 4) (pa_cons (pe_ix ix_tup (pv 0) pe_int (fun _ _ => rfl)) pa_nil))))
    (pss_cons (ps_if (pt_cmpR op_eq (pv 3) pe_str (nomark _))
      (pss_one (ps_ret (pv 5)))
      pss_nil)
    (pss_cons (ps_asg (pv 0) (pg_tup (n := 4) rfl (pgs_cons (pg_name (i := 6) sc_thing_worth.nd rfl (Or.inl rfl)) (pgs_cons (pg_name (i := 6) sc_thing_worth.nd rfl (Or.inl rfl)) (pgs_cons (pg_name (i := 7) sc_thing_worth.nd rfl (Or.inl rfl)) (pgs_cons (pg_name (i := 8) sc_thing_worth.nd rfl (Or.inl rfl)) pgs_nil))))))
    (pss_one (ps_ret (pc c_over hg hr (by decide) (by rfl) (pa_cons (pc c_times hg hr (by decide) (by rfl) (pa_cons (pv 5) (pa_cons (pc c_added hg hr (by decide) (by rfl) (pa_cons (pc c_times hg hr (by decide) (by rfl) (pa_cons (pv 8) (pa_cons (pv 1) pa_nil))) (pa_cons (pv 2) pa_nil))) pa_nil))) (pa_cons (pc c_added hg hr (by decide) (by rfl) (pa_cons (pc c_times hg hr (by decide) (by rfl) (pa_cons (pv 8) (pa_cons (pv 7) pa_nil))) (pa_cons (pv 2) pa_nil))) pa_nil))))))))))), ?_⟩
  cases t with
  | shares c =>
    obtain ⟨r, x, rfl, h0, hx⟩ := ht
    have nc : Nu c := ho
    refine ⟨_, rfl, r, _, 0, _, rfl, rfl, h0, atI_nat (j := 0) rfl, _, rfl, r, _, 1, _, rfl, rfl, h0, atI_nat (j := 1) rfl, _, _, rfl, ?_⟩
    refine ⟨_, rfl, rfl, _, rfl, iteP (vstr_ne (by decide)) fun _ => ?_⟩
    refine ⟨_, rfl, rfl, _, rfl, iteP (fun _ => ?_) fun z => absurd rfl z⟩
    exact ⟨_, rfl, _, rfl, p, x, pf.1, pf.2, c.1, c.2, rfl, hp, hx, sp.fr, nc.sz.fr, sp.bn (by decide), sp.bd (by decide), nc.ok.bn, nc.ok.bd, res_by (.refl H) k⟩
  | note a cap disc =>
    have ht0 := ht
    obtain ⟨r, x, y, z, rfl, h0, hx, hy, hz⟩ := ht
    refine ⟨_, rfl, r, _, 0, _, rfl, rfl, h0, atI_nat (j := 0) rfl, _, rfl, r, _, 1, _, rfl, rfl, h0, atI_nat (j := 1) rfl, _, _, rfl, ?_⟩
    refine ⟨_, rfl, rfl, _, rfl, iteP (fun _ => ?_) fun z => absurd rfl z⟩
    refine ⟨_, rfl, _, rfl, .ref r, p, a, cap, disc, pf, rfl, ht0, ho, hp, sp, fun v' H' s' h' => k v' H' s' ?_⟩
    cases cap <;> exact h'
  | kept c o =>
    obtain ⟨r, x, y, rfl, h0, hx, hy⟩ := ht
    obtain ⟨nc, no⟩ : Nu c ∧ Nu o := ho
    refine ⟨_, rfl, r, _, 0, _, rfl, rfl, h0, atI_nat (j := 0) rfl, _, rfl, r, _, 1, _, rfl, rfl, h0, atI_nat (j := 1) rfl, _, _, rfl, ?_⟩
    refine ⟨_, rfl, rfl, _, rfl, iteP (vstr_ne (by decide)) fun _ => ?_⟩
    refine ⟨_, rfl, rfl, _, rfl, iteP (vstr_ne (by decide)) fun _ => ?_⟩
    have k : ∀ v' H', Same H H' → Cpl K H' v' (kepF c o pf).1 (kepF c o pf).2 → Q v' H' := k
    unfold kepF at k
    refine ⟨_, rfl, _, rfl, r, _, 2, y, rfl, rfl, h0, atI_nat (j := 2) rfl, p, y, pf.1, pf.2, o.1, o.2, rfl, hp, hy, sp.bn (by decide), sp.bd (by decide), no.ok.bn, no.ok.bd, sp.fr.pos, no.sz.fr.pos, fun H1 s1 => ⟨_, _, rfl, rfl, _, rfl, iteP (fun hc => ?_) fun hc => ?_⟩⟩
    · rw [if_pos hc] at k
      exact ⟨_, rfl, _, rfl, p, x, pf.1, pf.2, c.1, c.2, rfl, hp.same s1, hx.same s1, sp.fr, nc.sz.fr, sp.bn (by decide), sp.bd (by decide), nc.ok.bn, nc.ok.bd, res_by s1 k⟩
    · rw [if_neg hc] at k
      refine ⟨_, rfl, _, rfl, r, _, 2, y, rfl, rfl, s1.seqT h0, atI_nat (j := 2) rfl, x, y, c.1, c.2, o.1, o.2, rfl, hx.same s1, hy.same s1, nc.sz.fr, no.sz.fr, nc.ok.bn, nc.ok.bd, no.ok.bn, no.ok.bd, fun p2 H2 s2 _ e2 => ?_⟩
      exact ⟨_, rfl, rfl, _, rfl, iteP (fun _ => ⟨_, rfl, k _ _ (s1.trans s2) (.mk e2)⟩) fun z => absurd rfl z⟩
  | weighed c o t =>
    obtain ⟨r, x, y, z, rfl, h0, hx, hy, hz⟩ := ht
    obtain ⟨nc, no, nt⟩ : Nu c ∧ Nu o ∧ Nu t := ho
    refine ⟨_, rfl, r, _, 0, _, rfl, rfl, h0, atI_nat (j := 0) rfl, _, rfl, r, _, 1, _, rfl, rfl, h0, atI_nat (j := 1) rfl, _, _, rfl, ?_⟩
    refine ⟨_, rfl, rfl, _, rfl, iteP (vstr_ne (by decide)) fun _ => ?_⟩
    refine ⟨_, rfl, rfl, _, rfl, iteP (vstr_ne (by decide)) fun _ => ?_⟩
    have k : ∀ v' H', Same H H' → Cpl K H' v' (wegF c o t pf m).1 (wegF c o t pf m).2 → Q v' H' := k
    unfold wegF at k
    refine ⟨_, rfl, _, rfl, r, _, 2, y, rfl, rfl, h0, atI_nat (j := 2) rfl, p, y, pf.1, pf.2, o.1, o.2, rfl, hp, hy, sp.bn (by decide), sp.bd (by decide), no.ok.bn, no.ok.bd, sp.fr.pos, no.sz.fr.pos, fun H1 s1 => ⟨_, _, rfl, rfl, _, rfl, iteP (fun hc => ?_) fun hc => ?_⟩⟩
    · rw [if_pos hc] at k
      exact ⟨_, rfl, _, rfl, p, x, pf.1, pf.2, c.1, c.2, rfl, hp.same s1, hx.same s1, sp.fr, nc.sz.fr, sp.bn (by decide), sp.bd (by decide), nc.ok.bn, nc.ok.bd, res_by s1 k⟩
    · rw [if_neg hc] at k
      refine ⟨_, rfl, _, rfl, r, _, 2, y, rfl, rfl, s1.seqT h0, atI_nat (j := 2) rfl, x, y, c.1, c.2, o.1, o.2, rfl, hx.same s1, hy.same s1, nc.sz.fr, no.sz.fr, nc.ok.bn, nc.ok.bd, no.ok.bn, no.ok.bd, fun p2 H2 s2 _ e2 => ?_⟩
      have s12 := s1.trans s2
      have bz := nc.sz.mul no.sz
      have tpz := nt.sz.mul sp
      have xz := wei_sz sp nt om.sz
      have toz := nt.sz.mul no.sz
      have yz := wei_sz no.sz nt om.sz
      have bxz := bz.mul xz
      refine ⟨_, rfl, rfl, _, rfl, iteP (vstr_ne (by decide)) fun _ => ?_⟩
      refine ⟨_, rfl, r, _, rfl, s12.seqT h0, rfl, _, _, rfl, _, _, rfl, _, _, rfl, _, _, rfl, rfl, ?_⟩
      refine ⟨_, rfl, _, rfl, _, rfl, z, p, t.1, t.2, pf.1, pf.2, rfl, hz.same s12, hp.same s12, nt.sz.fr, sp.fr, nt.ok.bn, nt.ok.bd, sp.bn (by decide), sp.bd (by decide), fun p3 H3 s3 _ e3 => ?_⟩
      have s13 := s12.trans s3
      refine ⟨_, rfl, _, mv, _, _, m.1, m.2, rfl, .mk e3, hm.same s13, tpz.fr, om.sz.fr, tpz.bn (by decide), tpz.bd (by decide), om.ok.bn, om.ok.bd, fun p4 H4 s4 _ e4 => ?_⟩
      have s14 := s13.trans s4
      refine ⟨_, _, _, _, _, _, rfl, ((Cpl.mk e2).same s3).same s4, .mk e4, bz.fr, xz.fr, bz.bn (by decide), bz.bd (by decide), xz.bn (by decide), xz.bd (by decide), fun p5 H5 s5 _ e5 => ?_⟩
      have s15 := s14.trans s5
      refine ⟨_, rfl, _, rfl, z, y, t.1, t.2, o.1, o.2, rfl, hz.same s15, hy.same s15, nt.sz.fr, no.sz.fr, nt.ok.bn, nt.ok.bd, no.ok.bn, no.ok.bd, fun p6 H6 s6 _ e6 => ?_⟩
      have s16 := s15.trans s6
      refine ⟨_, rfl, _, mv, _, _, m.1, m.2, rfl, .mk e6, hm.same s16, toz.fr, om.sz.fr, toz.bn (by decide), toz.bd (by decide), om.ok.bn, om.ok.bd, fun p7 H7 s7 _ e7 => ?_⟩
      have y0 := wei_pos no nt om
      exact ⟨_, _, _, _, _, _, rfl, ((Cpl.mk e5).same s6).same s7, .mk e7, bxz.fr, yz.fr, bxz.bn (by decide), bxz.bd (by decide), yz.bn (by decide), yz.bd (by decide), by unfold weiF at y0; omega, res_by (s16.trans s7) k⟩
end
end K49
namespace K49
open PySem PySem.Spec PyProof.Rows L2 Sw
/-! ### how great worths are: all over one q -/
def Rp (q : Int) (a b : Nat) (r : Rat) : Prop := ∃ N D : Int, 0 < D ∧ N.natAbs < 2 ^ a ∧ D.natAbs < 2 ^ b ∧ r * ((q : Rat) * (D : Rat)) = (N : Rat)
theorem vf_n {f : F2} (h : f.2 ≠ 0) : vf f * (f.2 : Rat) = (f.1 : Rat) := by
  have := ne_cast h
  unfold vf
  grind
theorem rp_sz {q : Int} {a b : Nat} {r : Rat} {f : F2} (h : Rp q a b r) (q0 : 0 < q) (q1 : q.natAbs < 2 ^ 40) (hf : Fr f.1 f.2) (e : vf f = r) : Sz a (b + 40) f := by
  obtain ⟨N, D, d0, n1, d1, h⟩ := h
  have nz : f.2 ≠ 0 := by have := hf.pos; omega
  have qd : q * D ≠ 0 := Int.mul_ne_zero (by omega) (by omega)
  have e1 : N * f.2 = f.1 * (q * D) := by
    apply cast_eq
    have h2 := vf_n nz
    rw [e] at h2
    have c1 : ((N * f.2 : Int) : Rat) = (N : Rat) * (f.2 : Rat) := by simp
    have c2 : ((f.1 * (q * D) : Int) : Rat) = (f.1 : Rat) * ((q : Rat) * (D : Rat)) := by simp
    rw [c1, c2, ← h, ← h2]
    grind
  have e2 : redI N (q * D) = f := redI_eq qd hf e1
  obtain ⟨l1, l2⟩ := redI_le (x := N) qd
  rw [e2] at l1 l2
  refine ⟨hf, Nat.lt_of_le_of_lt l1 n1, Nat.lt_of_le_of_lt l2 ?_⟩
  have := natAbs_lt_mul q1 d1
  rw [Nat.add_comm]
  exact this
theorem Rp.mono {q : Int} {a b a' b' : Nat} {r : Rat} (h : Rp q a b r) (ha : a ≤ a') (hb : b ≤ b') : Rp q a' b' r := by
  obtain ⟨N, D, d0, n1, d1, h⟩ := h
  exact ⟨N, D, d0, Nat.lt_of_lt_of_le n1 (p2 ha), Nat.lt_of_lt_of_le d1 (p2 hb), h⟩
theorem Rp.add {q : Int} {a b a' b' c : Nat} {r s : Rat} (h : Rp q a b r) (k : Rp q a' b' s) (h1 : a + b' + 1 ≤ c) (h2 : a' + b + 1 ≤ c) : Rp q c (b + b') (r + s) := by
  obtain ⟨N, D, d0, n1, d1, h⟩ := h
  obtain ⟨M, E, e0, m1, e1, k⟩ := k
  refine ⟨N * E + M * D, D * E, Int.mul_pos d0 e0, ?_, natAbs_lt_mul d1 e1, ?_⟩
  · have e : c = (c - 1) + 1 := by omega
    rw [e]
    exact natAbs_lt_add (Nat.lt_of_lt_of_le (natAbs_lt_mul n1 e1) (p2 (by omega))) (Nat.lt_of_lt_of_le (natAbs_lt_mul m1 d1) (p2 (by omega)))
  · have c1 : ((N * E + M * D : Int) : Rat) = (N : Rat) * (E : Rat) + (M : Rat) * (D : Rat) := by simp
    have c2 : ((D * E : Int) : Rat) = (D : Rat) * (E : Rat) := by simp
    rw [c1, c2, ← h, ← k]
    grind
theorem rp_zero (q : Int) : Rp q 0 1 0 := ⟨0, 1, by decide, by decide, by decide, by
  have : ((0 : Int) : Rat) = 0 := rfl
  rw [this]
  grind⟩
/-- the sum of a row -/
theorem sum_rp {q : Int} {a b : Nat} : ∀ (fs : List F2) (i : Nat), (∀ f ∈ fs, Fr f.1 f.2 ∧ Rp q a b (vf f)) → i ≤ fs.length → Fr (sumF (fs.take i)).1 (sumF (fs.take i)).2 ∧ Rp q (a + i * (b + 1) + 1) (1 + i * b) (vf (sumF (fs.take i)))
  | fs, 0, _, _ => by
    refine ⟨sz_zero.fr, ?_⟩
    have e : vf (sumF (fs.take 0)) = 0 := (vf_zero (f := (0, 1)) sz_zero.fr).mpr rfl
    rw [e]
    exact (rp_zero q).mono (by omega) (by omega)
  | fs, i + 1, h, hi => by
    have hlt : i < fs.length := hi
    have e : fs.take (i + 1) = fs.take i ++ [fs[i]] := by
      rw [List.take_add_one, List.getElem?_eq_getElem hlt]
      rfl
    obtain ⟨h1, h2⟩ := sum_rp fs i h (by omega)
    obtain ⟨h3, h4⟩ := h fs[i] (List.getElem_mem hlt)
    have z1 : (sumF (fs.take i)).2 ≠ 0 := by have := h1.pos; omega
    have z2 : (fs[i]).2 ≠ 0 := by have := h3.pos; omega
    rw [e, sumF_snoc]
    have e2 : (i + 1) * (b + 1) = i * (b + 1) + (b + 1) := Nat.succ_mul _ _
    have e3 : (i + 1) * b = i * b + b := Nat.succ_mul _ _
    have e4 : i * (b + 1) = i * b + i := Nat.mul_succ _ _
    refine ⟨(redI_fr (Int.mul_ne_zero z1 z2)).1, ?_⟩
    rw [vf_add z1 z2]
    exact (h2.add h4 (c := a + (i + 1) * (b + 1) + 1) (by omega) (by omega)).mono (Nat.le_refl _) (by omega)
theorem lt_mul {x y : Int} {a b c : Nat} (hx : x.natAbs < 2 ^ a) (hy : y.natAbs < 2 ^ b) (h : a + b ≤ c) : (x * y).natAbs < 2 ^ c := Nat.lt_of_lt_of_le (natAbs_lt_mul hx hy) (p2 h)
theorem lt_add {x y : Int} {a b c : Nat} (hx : x.natAbs < 2 ^ a) (hy : y.natAbs < 2 ^ b) (h1 : a + 1 ≤ c) (h2 : b + 1 ≤ c) : (x + y).natAbs < 2 ^ c := by
  have e : c = (c - 1) + 1 := by omega
  rw [e]
  exact natAbs_lt_add (Nat.lt_of_lt_of_le hx (p2 (by omega))) (Nat.lt_of_lt_of_le hy (p2 (by omega)))
theorem rp_mul {p c : F2} (hp : Sz 40 40 p) (hc : Nu c) : Rp p.2 171 101 (vf (mulF p.1 p.2 c.1 c.2)) := by
  refine ⟨p.1 * c.1, c.2, hc.sz.fr.pos, lt_mul hp.n hc.sz.n (by decide), Nat.lt_of_lt_of_le hc.sz.d (p2 (by decide)), ?_⟩
  rw [vf_mul hp.nd hc.sz.nd]
  have h1 := vf_n hp.nd
  have h2 := vf_n hc.sz.nd
  have c1 : ((p.1 * c.1 : Int) : Rat) = (p.1 : Rat) * (c.1 : Rat) := by simp
  rw [c1, ← h1, ← h2]
  show vf p * vf c * _ = _
  grind
theorem rest_vf {o : Option F2} (h : ∀ f, o = some f → Pt f) : ∃ n d : Int, 0 < n ∧ 0 < d ∧ n.natAbs < 2 ^ 8 ∧ d.natAbs < 2 ^ 8 ∧ vf (restF o) * (d : Rat) = (n : Rat) := by
  cases o with
  | none => exact ⟨1, 1, by decide, by decide, by decide, by decide, vf_n (f := (1, 1)) (by decide)⟩
  | some f =>
    have p := h f rfl
    have nz := p.sz.nd
    refine ⟨f.2 - f.1, f.2, by have := p.lt; omega, p.sz.fr.pos, ?_, p.sz.d, ?_⟩
    · have a := p.sz.d
      have b := p.nn
      have c := p.lt
      have d := p.sz.fr.pos
      generalize (2 : Nat) ^ 8 = X at a ⊢
      omega
    · show vf (subF 1 1 f.1 f.2) * _ = _
      rw [vf_sub (by decide) nz]
      have h1 := vf_n nz
      have h2 : vf (1, 1) = 1 := by
        have := vf_n (f := (1, 1)) (by decide)
        have z : ((1 : Int) : Rat) = 1 := rfl
        rw [z] at this
        grind
      have c1 : ((f.2 - f.1 : Int) : Rat) = (f.2 : Rat) - (f.1 : Rat) := by simp
      rw [c1, ← h1, h2]
      show (1 - vf f) * _ = _
      grind
theorem rp_least {p a : F2} {o : Option F2} (hp : Sz 40 40 p) (ha : Nu a) (h : ∀ f, o = some f → Pt f) : Rp p.2 171 101 (vf (leastF a o)) := by
  obtain ⟨n, d, n0, d0, n1, d1, e⟩ := rest_vf h
  obtain ⟨rz, r0⟩ := rest_sz h
  refine ⟨a.1 * d * p.2, a.2 * n, Int.mul_pos ha.sz.fr.pos n0, lt_mul (lt_mul ha.sz.n d1 (Nat.le_refl _)) hp.d (by decide), lt_mul ha.sz.d n1 (by decide), ?_⟩
  unfold leastF
  rw [vf_div ha.sz.nd rz.nd (by omega)]
  have h1 := vf_n ha.sz.nd
  have hn := ne_cast (show n ≠ 0 by omega)
  have hr : vf (restF o) ≠ 0 := fun z => by have := (vf_zero rz.fr).mp z; omega
  have c1 : ((a.1 * d * p.2 : Int) : Rat) = (a.1 : Rat) * (d : Rat) * (p.2 : Rat) := by simp
  have c2 : ((a.2 * n : Int) : Rat) = (a.2 : Rat) * (n : Rat) := by simp
  rw [c1, c2, ← h1, ← e]
  show vf a / vf (restF o) * _ = _
  grind
theorem rp_cap {p a c : F2} (hp : Sz 40 40 p) (ha : Nu a) (hc : Nu c) : Rp p.2 171 101 (vf (capF a c p)) := by
  have mz := hp.mul ha.sz
  have c0 := hc.pos
  refine ⟨p.1 * a.1 * c.2, a.2 * c.1, Int.mul_pos ha.sz.fr.pos c0, lt_mul (lt_mul hp.n ha.sz.n (Nat.le_refl _)) hc.sz.d (by decide), lt_mul ha.sz.d hc.sz.n (by decide), ?_⟩
  unfold capF
  rw [vf_div mz.nd hc.sz.nd (by omega)]
  show vf (mulF p.1 p.2 a.1 a.2) / vf c * _ = _
  rw [vf_mul hp.nd ha.sz.nd]
  have h1 := vf_n hp.nd
  have h2 := vf_n ha.sz.nd
  have h3 := vf_n hc.sz.nd
  have hr : vf c ≠ 0 := fun z => by have := (vf_zero hc.sz.fr).mp z; omega
  have c1 : ((p.1 * a.1 * c.2 : Int) : Rat) = (p.1 : Rat) * (a.1 : Rat) * (c.2 : Rat) := by simp
  have c2 : ((a.2 * c.1 : Int) : Rat) = (a.2 : Rat) * (c.1 : Rat) := by simp
  rw [c1, c2, ← h1, ← h2, ← h3]
  show vf p * vf a / vf c * _ = _
  grind
theorem rp_co {p c o : F2} (hp : Sz 40 40 p) (hc : Nu c) (ho : Nu o) : Rp p.2 171 101 (vf (mulF c.1 c.2 o.1 o.2)) := by
  refine ⟨c.1 * o.1 * p.2, c.2 * o.2, Int.mul_pos hc.sz.fr.pos ho.sz.fr.pos, lt_mul (lt_mul hc.sz.n ho.sz.n (Nat.le_refl _)) hp.d (by decide), lt_mul hc.sz.d ho.sz.d (by decide), ?_⟩
  rw [vf_mul hc.sz.nd ho.sz.nd]
  have h1 := vf_n hc.sz.nd
  have h2 := vf_n ho.sz.nd
  have c1 : ((c.1 * o.1 * p.2 : Int) : Rat) = (c.1 : Rat) * (o.1 : Rat) * (p.2 : Rat) := by simp
  have c2 : ((c.2 * o.2 : Int) : Rat) = (c.2 : Rat) * (o.2 : Rat) := by simp
  rw [c1, c2, ← h1, ← h2]
  show vf c * vf o * _ = _
  grind
theorem wei_vf {o t m : F2} (ho : o.2 ≠ 0) (ht : t.2 ≠ 0) (hm : m.2 ≠ 0) (hz : (mulF t.1 t.2 o.1 o.2).2 ≠ 0) : vf (weiF o t m) = vf t * vf o + vf m := by
  unfold weiF
  rw [vf_add hz hm]
  show vf (mulF t.1 t.2 o.1 o.2) + vf m = _
  rw [vf_mul ht ho]
theorem rp_weg {p c o t m : F2} (hp : Sz 40 40 p) (hc : Nu c) (ho : Nu o) (ht : Nu t) (hm : Mo m) : Rp p.2 171 101 (vf (divF (mulF (mulF c.1 c.2 o.1 o.2).1 (mulF c.1 c.2 o.1 o.2).2 (weiF p t m).1 (weiF p t m).2).1 (mulF (mulF c.1 c.2 o.1 o.2).1 (mulF c.1 c.2 o.1 o.2).2 (weiF p t m).1 (weiF p t m).2).2 (weiF o t m).1 (weiF o t m).2)) := by
  have bz := hc.sz.mul ho.sz
  have xz := wei_sz hp ht hm.sz
  have yz := wei_sz ho.sz ht hm.sz
  have y0 := wei_pos ho ht hm
  have v1 := wei_vf (o := p) (m := m) hp.nd ht.sz.nd hm.sz.nd (ht.sz.mul hp).nd
  have v2 := wei_vf (o := o) (m := m) ho.sz.nd ht.sz.nd hm.sz.nd (ht.sz.mul ho.sz).nd
  have hy : vf (weiF o t m) ≠ 0 := fun z => by have := (vf_zero yz.fr).mp z; omega
  have g1 : 0 < t.1 * o.1 * m.2 + m.1 * t.2 * o.2 := by
    have a := Int.mul_pos (Int.mul_pos ht.pos ho.pos) hm.sz.fr.pos
    have b := Int.mul_nonneg (Int.mul_nonneg hm.nn (Int.le_of_lt ht.sz.fr.pos)) (Int.le_of_lt ho.sz.fr.pos)
    omega
  refine ⟨c.1 * o.1 * (t.1 * p.1 * m.2 + m.1 * t.2 * p.2), c.2 * (t.1 * o.1 * m.2 + m.1 * t.2 * o.2), Int.mul_pos hc.sz.fr.pos g1, ?_, ?_, ?_⟩
  · exact lt_mul (lt_mul hc.sz.n ho.sz.n (Nat.le_refl _)) (lt_add (c := 91) (lt_mul (lt_mul ht.sz.n hp.n (Nat.le_refl _)) hm.sz.d (Nat.le_refl _)) (lt_mul (lt_mul hm.sz.n ht.sz.d (Nat.le_refl _)) hp.d (Nat.le_refl _)) (by decide) (by decide)) (by decide)
  · exact lt_mul hc.sz.d (lt_add (c := 91) (lt_mul (lt_mul ht.sz.n ho.sz.n (Nat.le_refl _)) hm.sz.d (Nat.le_refl _)) (lt_mul (lt_mul hm.sz.n ht.sz.d (Nat.le_refl _)) ho.sz.d (Nat.le_refl _)) (by decide) (by decide)) (by decide)
  · rw [vf_div (bz.mul xz).nd yz.nd (by omega)]
    show vf (mulF _ _ _ _) / vf (weiF o t m) * _ = _
    rw [vf_mul bz.nd xz.nd]
    show vf (mulF c.1 c.2 o.1 o.2) * vf (weiF p t m) / vf (weiF o t m) * _ = _
    rw [vf_mul hc.sz.nd ho.sz.nd]
    rw [v2] at hy
    rw [v1, v2]
    have h1 := vf_n hc.sz.nd
    have h2 := vf_n ho.sz.nd
    have h3 := vf_n ht.sz.nd
    have h4 := vf_n hm.sz.nd
    have h5 := vf_n hp.nd
    have c1 : ((c.1 * o.1 * (t.1 * p.1 * m.2 + m.1 * t.2 * p.2) : Int) : Rat) = (c.1 : Rat) * (o.1 : Rat) * ((t.1 : Rat) * (p.1 : Rat) * (m.2 : Rat) + (m.1 : Rat) * (t.2 : Rat) * (p.2 : Rat)) := by simp
    have c2 : ((c.2 * (t.1 * o.1 * m.2 + m.1 * t.2 * o.2) : Int) : Rat) = (c.2 : Rat) * ((t.1 : Rat) * (o.1 : Rat) * (m.2 : Rat) + (m.1 : Rat) * (t.2 : Rat) * (o.2 : Rat)) := by simp
    rw [c1, c2, ← h1, ← h2, ← h3, ← h4, ← h5]
    show vf c * vf o * (vf t * vf p + vf m) / (vf t * vf o + vf m) * _ = _
    generalize vf c = C at *
    generalize vf o = O at *
    generalize vf t = T at *
    generalize vf p = X at *
    generalize vf m = Y at *
    generalize (c.2 : Rat) = cz at *
    generalize (o.2 : Rat) = oz at *
    generalize (t.2 : Rat) = tz at *
    generalize (p.2 : Rat) = pz at *
    generalize (m.2 : Rat) = mz at *
    have e1 : (T * tz) * (O * oz) * mz + (Y * mz) * tz * oz = (T * O + Y) * (tz * oz * mz) := by grind
    have e2 : (T * tz) * (X * pz) * mz + (Y * mz) * tz * pz = (T * X + Y) * (tz * pz * mz) := by grind
    rw [e1, e2]
    generalize T * O + Y = Z at *
    generalize T * X + Y = W at *
    have e3 : C * O * W / Z * (pz * (cz * (Z * (tz * oz * mz)))) = C * O * W * (pz * (cz * (tz * oz * mz))) * (Z / Z) := by grind
    have e4 : Z / Z = 1 := by grind
    rw [e3, e4]
    grind
theorem w_rp {p m : F2} (hp : Sz 40 40 p) (hm : Mo m) : ∀ t : Th, t.Ok → Rp p.2 171 101 (vf (wTh p m t))
  | .shares c, h => rp_mul hp h
  | .note a none d, h => rp_least hp h.1 h.2.2
  | .note a (some c) d, h => by
    show Rp _ _ _ (vf (maxF (leastF a d) (capF a c p)))
    rcases maxF_or (leastF a d) (capF a c p) with e | e
    · rw [e]
      exact rp_least hp h.1 h.2.2
    · rw [e]
      exact rp_cap hp h.1 (h.2.1 c rfl)
  | .kept c o, h => by
    show Rp _ _ _ (vf (kepF c o p))
    unfold kepF
    split
    · exact rp_mul hp h.1
    · exact rp_co hp h.1 h.2
  | .weighed c o t, h => by
    show Rp _ _ _ (vf (wegF c o t p m))
    unfold wegF
    split
    · exact rp_mul hp h.1
    · exact rp_weg hp h.1 h.2.1 h.2.2 hm
end K49
namespace K49
open PySem PySem.Spec PyProof.Rows L2 Sw StX RZ
structure Deal where
  worth : F2
  money : F2
  things : List Th
  count : F2
  part : F2
structure Deal.Ok (D : Deal) : Prop where
  worth : Nu D.worth
  money : Mo D.money
  len : D.things.length ≤ 6
  things : ∀ t ∈ D.things, t.Ok
  count : Mo D.count
  part : Pt D.part
def fillF (D : Deal) (w : F2) : F2 := divF (mulF D.part.1 D.part.2 (addF w.1 w.2 D.money.1 D.money.2).1 (addF w.1 w.2 D.money.1 D.money.2).2).1 (mulF D.part.1 D.part.2 (addF w.1 w.2 D.money.1 D.money.2).1 (addF w.1 w.2 D.money.1 D.money.2).2).2 (restF (some D.part)).1 (restF (some D.part)).2
def poolF (D : Deal) (p w : F2) : F2 := maxF (mulF p.1 p.2 D.count.1 D.count.2) (fillF D w)
def rowF (D : Deal) (p : F2) : List F2 := D.things.map (wTh p D.money)
def worthsF (D : Deal) (p : F2) : List F2 := rowF D p ++ [poolF D p (sumF (rowF D p))]
theorem rp_mo {p c : F2} (hp : Sz 40 40 p) (hc : Mo c) : Rp p.2 812 634 (vf (mulF p.1 p.2 c.1 c.2)) := by
  refine ⟨p.1 * c.1, c.2, hc.sz.fr.pos, lt_mul hp.n hc.sz.n (by decide), Nat.lt_of_lt_of_le hc.sz.d (p2 (by decide)), ?_⟩
  rw [vf_mul hp.nd hc.sz.nd]
  have h1 := vf_n hp.nd
  have h2 := vf_n hc.sz.nd
  have c1 : ((p.1 * c.1 : Int) : Rat) = (p.1 : Rat) * (c.1 : Rat) := by simp
  rw [c1, ← h1, ← h2]
  show vf p * vf c * _ = _
  grind
structure FillSz (D : Deal) (w : F2) : Prop where
  add : Sz 800 800 (addF w.1 w.2 D.money.1 D.money.2)
  mul : Sz 810 810 (mulF D.part.1 D.part.2 (addF w.1 w.2 D.money.1 D.money.2).1 (addF w.1 w.2 D.money.1 D.money.2).2)
  rest : Sz 10 10 (restF (some D.part))
  pos : 0 < (restF (some D.part)).1
  fill : Sz 820 820 (fillF D w)
theorem fill_sz {D : Deal} (h : D.Ok) {w : F2} (hw : Sz 785 700 w) : FillSz D w := by
  have a : Sz 800 800 (addF w.1 w.2 D.money.1 D.money.2) := (hw.add h.money.sz (c := 800) (by decide) (by decide)).mono (by decide) (by decide)
  have b : Sz 810 810 (mulF D.part.1 D.part.2 (addF w.1 w.2 D.money.1 D.money.2).1 (addF w.1 w.2 D.money.1 D.money.2).2) := (h.part.sz.mul a).mono (by decide) (by decide)
  obtain ⟨r, r0⟩ := rest_sz (o := some D.part) fun f e => by cases e; exact h.part
  exact ⟨a, b, r, r0, (b.div r (by omega)).mono (by decide) (by decide)⟩
theorem rp_fill {D : Deal} (h : D.Ok) {p w : F2} (hp : Sz 40 40 p) (hw : Fr w.1 w.2) (sw : Sz 785 700 w) (rw_ : Rp p.2 784 607 (vf w)) : Rp p.2 812 634 (vf (fillF D w)) := by
  obtain ⟨N, Dn, d0, n1, d1, e⟩ := rw_
  have ho : ∀ f, some D.part = some f → Pt f := fun f e => by cases e; exact h.part
  obtain ⟨n, d, n0, dd0, nn1, dd1, er⟩ := rest_vf ho
  have z := fill_sz h sw
  have hm := h.money.sz
  have hpt := h.part.sz
  refine ⟨(N * D.money.2 + D.money.1 * (p.2 * Dn)) * (D.part.1 * d), (Dn * D.money.2) * (D.part.2 * n), Int.mul_pos (Int.mul_pos d0 hm.fr.pos) (Int.mul_pos hpt.fr.pos n0), ?_, ?_, ?_⟩
  · exact lt_mul (lt_add (c := 796) (lt_mul n1 hm.d (Nat.le_refl _)) (lt_mul hm.n (lt_mul hp.d d1 (Nat.le_refl _)) (Nat.le_refl _)) (by decide) (by decide)) (lt_mul hpt.n dd1 (Nat.le_refl _)) (by decide)
  · exact lt_mul (lt_mul d1 hm.d (Nat.le_refl _)) (lt_mul hpt.d nn1 (Nat.le_refl _)) (by decide)
  · unfold fillF
    rw [vf_div z.mul.nd z.rest.nd (by have := z.pos; omega)]
    show vf (mulF _ _ _ _) / vf (restF (some D.part)) * _ = _
    rw [vf_mul hpt.nd z.add.nd]
    show vf D.part * vf (addF _ _ _ _) / _ * _ = _
    rw [vf_add sw.nd hm.nd]
    show vf D.part * (vf w + vf D.money) / _ * _ = _
    have hr : vf (restF (some D.part)) ≠ 0 := fun q => by have := (vf_zero z.rest.fr).mp q; have := z.pos; omega
    have h1 := vf_n hm.nd
    have h2 := vf_n hpt.nd
    have c1 : (((N * D.money.2 + D.money.1 * (p.2 * Dn)) * (D.part.1 * d) : Int) : Rat) = ((N : Rat) * (D.money.2 : Rat) + (D.money.1 : Rat) * ((p.2 : Rat) * (Dn : Rat))) * ((D.part.1 : Rat) * (d : Rat)) := by simp
    have c2 : (((Dn * D.money.2) * (D.part.2 * n) : Int) : Rat) = ((Dn : Rat) * (D.money.2 : Rat)) * ((D.part.2 : Rat) * (n : Rat)) := by simp
    rw [c1, c2, ← e, ← er, ← h1, ← h2]
    generalize vf (restF (some D.part)) = R at *
    generalize vf D.part = X at *
    generalize vf D.money = M at *
    generalize vf w = W at *
    generalize (D.money.2 : Rat) = mz at *
    generalize (D.part.2 : Rat) = pz at *
    generalize (p.2 : Rat) = qz at *
    generalize (Dn : Rat) = Dz at *
    generalize (d : Rat) = dz at *
    have e1 : W * (qz * Dz) * mz + M * mz * (qz * Dz) = (W + M) * (qz * Dz * mz) := by grind
    rw [e1]
    generalize W + M = Z at *
    have e3 : X * Z / R * (qz * (Dz * mz * (pz * (R * dz)))) = X * Z * (qz * (Dz * mz * (pz * dz))) * (R / R) := by grind
    have e4 : R / R = 1 := by grind
    rw [e3, e4]
    grind
/-- all worths are of a size -/
structure WSz (D : Deal) (p : F2) : Prop where
  row : ∀ f ∈ rowF D p, Sz 171 141 f
  part : ∀ i, i ≤ (rowF D p).length → Sz 784 647 (sumF ((rowF D p).take i))
  pool : Sz 812 674 (poolF D p (sumF (rowF D p)))
  all : ∀ f ∈ worthsF D p, Sz 812 674 f
  sums : ∀ i, i ≤ (worthsF D p).length → Sz 1500 1300 (sumF ((worthsF D p).take i))
theorem row_len (D : Deal) (p : F2) : (rowF D p).length = D.things.length := List.length_map _
theorem w_all {D : Deal} (h : D.Ok) {p : F2} (hp : Sz 40 40 p) : WSz D p := by
  have q0 := hp.fr.pos
  have key : ∀ f ∈ rowF D p, Fr f.1 f.2 ∧ Rp p.2 171 101 (vf f) := fun f hf => by
    obtain ⟨t, ht, rfl⟩ := List.mem_map.mp hf
    exact ⟨(w_sz hp h.money t (h.things t ht)).fr, w_rp hp h.money t (h.things t ht)⟩
  have hl := h.len
  have ep := row_len D p
  have part : ∀ i, i ≤ (rowF D p).length → Fr (sumF ((rowF D p).take i)).1 (sumF ((rowF D p).take i)).2 ∧ Rp p.2 784 607 (vf (sumF ((rowF D p).take i))) := fun i hi => by
    obtain ⟨a, b⟩ := sum_rp (rowF D p) i key hi
    exact ⟨a, b.mono (by omega) (by omega)⟩
  have szp : ∀ i, i ≤ (rowF D p).length → Sz 784 647 (sumF ((rowF D p).take i)) := fun i hi => rp_sz (part i hi).2 q0 hp.d (part i hi).1 rfl
  obtain ⟨fw, rw_⟩ := part _ (Nat.le_refl _)
  have sw := szp _ (Nat.le_refl _)
  rw [List.take_length] at fw rw_ sw
  have z := fill_sz h (sw.mono (by decide) (by decide))
  have rf := rp_fill h hp fw (sw.mono (by decide) (by decide)) rw_
  have rm := rp_mo hp h.count
  have rpool : Rp p.2 812 634 (vf (poolF D p (sumF (rowF D p)))) := by
    unfold poolF
    rcases maxF_or (mulF p.1 p.2 D.count.1 D.count.2) (fillF D (sumF (rowF D p))) with e | e
    · rw [e]; exact rm
    · rw [e]; exact rf
  have fpool : Fr (poolF D p (sumF (rowF D p))).1 (poolF D p (sumF (rowF D p))).2 := by
    unfold poolF
    rcases maxF_or (mulF p.1 p.2 D.count.1 D.count.2) (fillF D (sumF (rowF D p))) with e | e
    · rw [e]; exact (hp.mul h.count.sz).fr
    · rw [e]; exact z.fill.fr
  have szpool := rp_sz rpool q0 hp.d fpool rfl
  have szrow : ∀ f ∈ rowF D p, Sz 171 141 f := fun f hf => rp_sz (key f hf).2 q0 hp.d (key f hf).1 rfl
  refine ⟨szrow, szp, szpool, fun f hf => ?_, fun i hi => ?_⟩
  · rcases List.mem_append.mp hf with hf | hf
    · exact (szrow f hf).mono (by decide) (by decide)
    · rw [List.mem_singleton.mp hf]
      exact szpool
  · by_cases hil : i ≤ (rowF D p).length
    · have e : (worthsF D p).take i = (rowF D p).take i := by
        unfold worthsF
        rw [List.take_append_of_le_length hil]
      rw [e]
      exact (szp i hil).mono (by decide) (by decide)
    · have hL : (worthsF D p).length = (rowF D p).length + 1 := by
        unfold worthsF
        rw [List.length_append]
        rfl
      have e : (worthsF D p).take i = rowF D p ++ [poolF D p (sumF (rowF D p))] := List.take_of_length_le (by omega)
      rw [e, sumF_snoc]
      have r2 := (rw_.add rpool (c := 1500) (by decide) (by decide)).mono (Nat.le_refl _) (show 607 + 634 ≤ 1260 by decide)
      have n1 := sw.nd
      have n2 := szpool.nd
      refine rp_sz r2 q0 hp.d (redI_fr (Int.mul_ne_zero n1 n2)).1 ?_
      exact vf_add n1 n2
end K49
namespace K49
open PySem PySem.Spec PyProof.Rows L2 Sw StX RZ
def ThsAt (K : PySem.W.Frag) (H : Hp) : List V → List Th → Prop
  | [], [] => True
  | v :: vs, t :: ts => ThAt K H v t ∧ ThsAt K H vs ts
  | _, _ => False
theorem ThsAt.len {K : PySem.W.Frag} {H : Hp} : ∀ {vs : List V} {ts : List Th}, ThsAt K H vs ts → vs.length = ts.length
  | [], [], _ => rfl
  | _ :: vs, _ :: ts, h => congrArg Nat.succ (ThsAt.len h.2)
  | [], _ :: _, h => h.elim
  | _ :: _, [], h => h.elim
theorem ThsAt.get {K : PySem.W.Frag} {H : Hp} : ∀ {vs : List V} {ts : List Th}, ThsAt K H vs ts → ∀ {i : Nat} {v : V}, vs[i]? = some v → ∃ t, ts[i]? = some t ∧ ThAt K H v t
  | v :: vs, t :: ts, h, 0, x, e => by
    cases e
    exact ⟨t, rfl, h.1⟩
  | v :: vs, t :: ts, h, i + 1, x, e => ThsAt.get h.2 (i := i) (by simpa using e)
  | [], [], _, i, x, e => by simp at e
  | [], _ :: _, h, _, _, _ => h.elim
  | _ :: _, [], h, _, _, _ => h.elim
theorem ThsAt.same {K : PySem.W.Frag} {H H' : Hp} : ∀ {vs : List V} {ts : List Th}, ThsAt K H vs ts → Same H H' → ThsAt K H' vs ts
  | [], [], _, _ => True.intro
  | v :: vs, t :: ts, h, s => ⟨h.1.same s, ThsAt.same h.2 s⟩
  | [], _ :: _, h, _ => h.elim
  | _ :: _, [], h, _ => h.elim
structure DealIn (K : PySem.W.Frag) (H : Hp) (r : Addr) (x y : V) (rt rp : Addr) (vs : List V) (c q : V) (D : Deal) : Prop where
  at_ : SqT K H r [x, y, .ref rt, .ref rp]
  w : Cpl K H x D.worth.1 D.worth.2
  m : Cpl K H y D.money.1 D.money.2
  t : SqT K H rt vs
  ts : ThsAt K H vs D.things
  p : SqT K H rp [c, q]
  c : Cpl K H c D.count.1 D.count.2
  q : Cpl K H q D.part.1 D.part.2
def DealAt (K : PySem.W.Frag) (H : Hp) (v : V) (D : Deal) : Prop := ∃ r x y rt rp vs c q, v = .ref r ∧ DealIn K H r x y rt rp vs c q D
theorem DealIn.same {K : PySem.W.Frag} {H H' : Hp} {r : Addr} {x y : V} {rt rp : Addr} {vs : List V} {c q : V} {D : Deal} (h : DealIn K H r x y rt rp vs c q D) (s : Same H H') : DealIn K H' r x y rt rp vs c q D :=
  ⟨s.seqT h.at_, h.w.same s, h.m.same s, s.seqT h.t, h.ts.same s, s.seqT h.p, h.c.same s, h.q.same s⟩
theorem rowF_snoc {K : PySem.W.Frag} {H : Hp} : ∀ {vs : List V} {fs : List F2} {v : V} {f : F2}, RowF K H vs fs → Cpl K H v f.1 f.2 → RowF K H (vs ++ [v]) (fs ++ [f])
  | [], [], v, f, _, c => ⟨c, True.intro⟩
  | x :: vs, g :: fs, v, f, h, c => ⟨h.1, rowF_snoc h.2 c⟩
  | [], _ :: _, _, _, h, _ => h.elim
  | _ :: _, [], _, _, h, _ => h.elim
/-- a list grows: tuples stay -/
theorem fut_grow {H : Hp} {D : Addr} {xs ys : List V} (h : H D = some (.lst xs)) : Fut (fun z => z = D) H (upd H D (.lst ys)) := fun z o e hz => by
  by_cases zD : z = D
  · subst zD
    rw [h] at e
    cases e
    rcases hz with hz | ⟨_, hz⟩ | ⟨_, _, hz⟩
    · exact absurd rfl hz
    · cases hz
    · cases hz
  · rw [upd_ne zD]
    exact e
section
variable {P : Program} {w : World} {K : PySem.W.Frag} {mg : Str → Option Value} {base : Heap}
def spPool (K : PySem.W.Frag) : Sp := fun vs H Q _ => ∃ (v p wv : V) (D : Deal) (pf wf : F2), vs = [v, p, wv] ∧ DealAt K H v D ∧ D.Ok ∧ Cpl K H p pf.1 pf.2 ∧ Sz 40 40 pf ∧ Cpl K H wv wf.1 wf.2 ∧ Sz 785 700 wf ∧ ∀ v' H', Same H H' → Cpl K H' v' (poolF D pf wf).1 (poolF D pf wf).2 → Q v' H'
abbrev spool_worth : Stmt := topS 30
theorem sc_pool_worth : FnScope ["deal", "price", "worth", "_", "money", "count", "part"] ["deal", "price", "worth"] (defScope spool_worth) := ⟨rfl, rfl, rfl, by decide +kernel, rfl, by decide +kernel, by decide +kernel⟩
theorem ok_pool_worth {f : Addr} {fd : FuncData} (F : Fun K "pool_worth" "pool_worth" spool_worth f fd) (B : Bt mg) (c_times : CalG P w K mg base 1 "times" (spTwo K mulF)) (c_added : CalG P w K mg base 1 "added" (spTwo K addF)) (c_over : CalG P w K mg base 2 "over" (spDiv K)) (c_rest_of : CalG P w K mg base 3 "rest_of" (spRest K)) (c_greatest_of : CalG P w K mg base 4 "greatest_of" (spEnd K (fun f g => LeF g f))) : FnG P w K mg base 5 f fd ["deal", "price", "worth"] (spPool K) := by
  refine Fun.okG F sc_pool_worth (fun vs H Q E h => ?_) (fun cdv A outer s H vs Q E hg hr h => ?_)
  · obtain ⟨_, _, _, _, _, _, rfl, _⟩ := h
    rfl
  obtain ⟨v, p, wv, D, pf, wf, rfl, ⟨r, x, y, rt, rp, vs, c, q, rfl, d⟩, ok, hp, sp, hw, sw, k⟩ := h
  refine ⟨_, (pss_cons (ps_asg (pv 0) (pg_tup (n := 4) rfl (pgs_cons (pg_name (i := 3) sc_pool_worth.nd rfl (Or.inl rfl)) (pgs_cons (pg_name (i := 4) sc_pool_worth.nd rfl (Or.inl rfl)) (pgs_cons (pg_name (i := 3) sc_pool_worth.nd rfl (Or.inl rfl)) (pgs_cons (pg_tup (n := 2) rfl (pgs_cons (pg_name (i := 5) sc_pool_worth.nd rfl (Or.inl rfl)) (pgs_cons (pg_name (i := 6) sc_pool_worth.nd rfl (Or.inl rfl)) pgs_nil))) pgs_nil))))))
    (pss_one (ps_ret (pc c_greatest_of hg hr (by decide) (by rfl) (pa_cons (pe_tup (pa_cons (pc c_times hg hr (by decide) (by rfl) (pa_cons (pv 1) (pa_cons (pv 5) pa_nil))) (pa_cons (pc c_over hg hr (by decide) (by rfl) (pa_cons (pc c_times hg hr (by decide) (by rfl) (pa_cons (pv 6) (pa_cons (pc c_added hg hr (by decide) (by rfl) (pa_cons (pv 2) (pa_cons (pv 4) pa_nil))) pa_nil))) (pa_cons (pc c_rest_of hg hr (by decide) (by rfl) (pa_cons (pv 6) pa_nil)) pa_nil))) pa_nil))) pa_nil))))), ?_⟩
  have z := fill_sz ok sw
  refine ⟨_, rfl, r, _, rfl, d.at_, rfl, ?_⟩
  refine ⟨_, _, rfl, _, _, rfl, _, _, rfl, _, _, rfl, rp, _, rfl, d.p, rfl, _, _, rfl, _, _, rfl, rfl, rfl, ?_⟩
  refine ⟨_, rfl, _, rfl, p, c, pf.1, pf.2, D.count.1, D.count.2, rfl, hp, d.c, sp.fr, ok.count.sz.fr, sp.bn (by decide), sp.bd (by decide), ok.count.ok.bn, ok.count.ok.bd, fun p1 H1 s1 _ e1 => ?_⟩
  have d1 := d.same s1
  refine ⟨_, rfl, _, rfl, _, rfl, wv, y, wf.1, wf.2, D.money.1, D.money.2, rfl, hw.same s1, d1.m, sw.fr, ok.money.sz.fr, sw.bn (by decide), sw.bd (by decide), ok.money.ok.bn, ok.money.ok.bd, fun p2 H2 s2 _ e2 => ?_⟩
  have d2 := d1.same s2
  refine ⟨q, _, D.part.1, D.part.2, _, _, rfl, d2.q, .mk e2, ok.part.sz.fr, z.add.fr, ok.part.ok.bn, ok.part.ok.bd, z.add.bn (by decide), z.add.bd (by decide), fun p3 H3 s3 _ e3 => ?_⟩
  have d3 := d2.same s3
  refine ⟨_, rfl, q, some D.part, rfl, d3.q, (fun f e => by cases e; exact ok.part), fun v4 H4 s4 e4 => ?_⟩
  have mz := z.mul
  have rz := z.rest
  refine ⟨_, _, _, _, _, _, rfl, (Cpl.mk e3).same s4, e4, mz.fr, rz.fr, mz.bn (by decide), mz.bd (by decide), rz.bn (by decide), rz.bd (by decide), by have := z.pos; omega, fun p5 H5 s5 _ e5 => ?_⟩
  have s25 := ((s2.trans s3).trans s4).trans s5
  refine ⟨by show 2 ≤ sizeLine; decide, fun t nt => ?_⟩
  have st := same_upd (o := .tup [.ref p1, .ref p5]) nt
  have cz := sp.mul ok.count.sz
  refine ⟨t, [mulF pf.1 pf.2 D.count.1 D.count.2, fillF D wf], rfl, ⟨[.ref p1, .ref p5], .inr (.inl (.inl upd_same)), ((Cpl.mk e1).same s25).same st, (Cpl.mk e5).same st, trivial⟩, fun f hf => ?_, (show 0 < 2 by decide), fun v f H6 s6 hv hf hm => ?_⟩
  · rcases List.mem_cons.mp hf with rfl | hf
    · exact cz.okf (by decide) (by decide)
    · rw [List.mem_singleton.mp hf]
      exact z.fill.okf (by decide) (by decide)
  · have e := max_of cz.fr z.fill.fr hf hm
    subst e
    exact k _ _ (((s1.trans s25).trans st).trans s6) hv
def spWs (K : PySem.W.Frag) : Sp := fun vs H Q _ => ∃ (v p : V) (D : Deal) (pf : F2), vs = [v, p] ∧ DealAt K H v D ∧ D.Ok ∧ Cpl K H p pf.1 pf.2 ∧ Sz 40 40 pf ∧ ∀ a xs H', Same H H' → SqT K H' a xs → RowF K H' xs (worthsF D pf) → Q (.ref a) H'
abbrev sworths_at : Stmt := topS 31
theorem sc_worths_at : FnScope ["deal", "price", "worths", "thing"] ["deal", "price"] (defScope sworths_at) := ⟨rfl, rfl, rfl, by decide +kernel, rfl, by decide +kernel, by decide +kernel⟩
theorem ok_worths_at {f : Addr} {fd : FuncData} (F : Fun K "worths_at" "worths_at" sworths_at f fd) (B : Bt mg) (c_thing_worth : CalG P w K mg base 6 "thing_worth" (spWorth K)) (c_total : CalG P w K mg base 2 "total" (spTotal K)) (c_pool_worth : CalG P w K mg base 5 "pool_worth" (spPool K)) : FnG P w K mg base 7 f fd ["deal", "price"] (spWs K) := by
  refine Fun.okG F sc_worths_at (fun vs H Q E h => ?_) (fun cdv A outer s H vs Q E hg hr h => ?_)
  · obtain ⟨_, _, _, _, rfl, _⟩ := h
    rfl
  obtain ⟨v, p, D, pf, rfl, ⟨r, x, y, rt, rp, vs, c, q, rfl, d⟩, ok, hp, sp, k⟩ := h
  refine ⟨_, (pss_cons (ps_setLc (i := 2) (own := [("thing", 3)]) rfl sc_worths_at.nd rfl rfl (sw_true rfl rfl rfl (by decide +kernel)) (pi_tup (pe_ix ix_tup (pv 0) pe_int (fun _ _ => rfl))) (blkOk_by (own := [("thing", 3)]) (N := ["deal", "price", "worths", "thing"]) (sc := (defScope sworths_at)) (by decide +kernel)) (fun _ _ _ _ _ => (pg_name (i := 3) sc_worths_at.nd rfl (Or.inl rfl))) (fun _ _ _ _ _ => pts_nil) (fun _ _ _ _ _ => (pc c_thing_worth hg hr (by decide) (by rfl) (pa_cons (pv 3) (pa_cons (pv 1) (pa_cons (pe_ix (ix_tupK (K := K) rfl) (pv 0) pe_int (fun _ _ => rfl)) pa_nil))))))
    (pss_one (ps_ret (pe_tup (pa_star (pv 2) (pa_cons (pc c_pool_worth hg hr (by decide) (by rfl) (pa_cons (pv 0) (pa_cons (pv 1) (pa_cons (pc c_total hg hr (by decide) (by rfl) (pa_cons (pv 2) pa_nil)) pa_nil)))) pa_nil)))))), ?_⟩
  have W := w_all ok sp
  have hlen := d.ts.len
  have e1 : (rowF D pf).length = D.things.length := row_len D pf
  have l6 := ok.len
  refine ⟨_, rfl, r, _, 2, _, rfl, rfl, d.at_, atI_nat (j := 2) rfl, rt, rfl, ⟨vs, d.t⟩, fun D0 hD => lc_it (walk_tup (K := K) (xs := vs) (a := rt)) (fun i H' => Same H H' ∧ ∃ ws : List V, H' D0 = some (.lst ws) ∧ ws.length = i ∧ RowF K H' ws ((rowF D pf).take i)) ?_ (fun i H' _ h => h.1.seqT d.t) ?_ ?_⟩
  · exact ⟨same_upd hD, [], upd_same, rfl, True.intro⟩
  · rintro i x' H2 H3 hi ⟨sm, ws, hDa, hwl, hws⟩ ⟨rfl, hx⟩
    obtain ⟨t, et, ht⟩ := d.ts.get hx
    have d2 := d.same sm
    have tok := ok.things t (List.mem_of_getElem? et)
    refine ⟨rfl, _, rfl, _, rfl, _, rfl, r, _, 1, _, rfl, rfl, d2.at_, atI_nat (j := 1) rfl, x', p, y, t, pf, D.money, rfl, ht.same sm, tok, hp.same sm, sp, d2.m, ok.money, fun v' H4 s4 e4 => ?_⟩
    have hD4 := s4 _ _ hDa
    have et2 : (rowF D pf)[i]? = some (wTh pf D.money t) := by
      unfold rowF
      rw [List.getElem?_map, et]
      rfl
    have tk : (rowF D pf).take (i + 1) = (rowF D pf).take i ++ [wTh pf D.money t] := by
      rw [List.take_add_one, et2]
      rfl
    refine ⟨ws, hD4, small1000 (by omega), fun a o e => ?_, ws ++ [v'], upd_same, by rw [List.length_append, hwl]; rfl, ?_⟩
    · rw [upd_ne (ne_of_none e hD)]
      exact s4 _ _ (sm _ _ e)
    · rw [tk]
      exact rowF_snoc ((hws.same s4).fut (fut_grow hD4)) (e4.fut (fut_grow hD4))
  rintro H2 ⟨sm, ws, hDa, hwl, hws⟩
  rw [hlen, ← e1, List.take_length] at hws
  have hlw : ws.length ≤ 6 := by omega
  have d2 := d.same sm
  have hq : SqL K H2 D0 ws := .inl (.inl hDa)
  have sw := W.part _ (Nat.le_refl _)
  rw [List.take_length] at sw
  refine ⟨_, rfl, D0, ws, rfl, .inr hq, _, rfl, _, rfl, _, rfl, D0, rowF D pf, rfl, ⟨ws, .inl hq, hws⟩, (fun f hf => (W.row f hf).okf (by decide) (by decide)), (fun i hi => (W.part i (Nat.le_of_lt hi)).okf (by decide) (by decide)), fun v3 H3 s3 e3 => ?_⟩
  have s23 := sm.trans s3
  refine ⟨.ref r, p, v3, D, pf, _, rfl, ⟨r, x, y, rt, rp, vs, c, q, rfl, d2.same s3⟩, ok, hp.same s23, sp, e3, sw.mono (by decide) (by decide), fun v4 H4 s4 e4 => ⟨Nat.le_of_lt (small1000 (by rw [List.length_append]; show ws.length + 1 ≤ 1000; omega)), fun t nt => ?_⟩⟩
  have st := same_upd (o := .tup (ws ++ [v4])) nt
  exact k t (ws ++ [v4]) _ ((s23.trans s4).trans st) (.of upd_same) (rowF_snoc ((hws.same (s3.trans s4)).same st) (e4.same st))
def spW1 (K : PySem.W.Frag) : Sp := fun vs H Q _ => ∃ (v p : V) (D : Deal) (pf : F2), vs = [v, p] ∧ DealAt K H v D ∧ D.Ok ∧ Cpl K H p pf.1 pf.2 ∧ Sz 40 40 pf ∧ ∀ v' H', Same H H' → Cpl K H' v' (sumF (worthsF D pf)).1 (sumF (worthsF D pf)).2 → Q v' H'
abbrev sworth_at : Stmt := topS 32
theorem sc_worth_at : FnScope ["deal", "price"] ["deal", "price"] (defScope sworth_at) := ⟨rfl, rfl, rfl, by decide +kernel, rfl, by decide +kernel, by decide +kernel⟩
theorem ok_worth_at {f : Addr} {fd : FuncData} (F : Fun K "worth_at" "worth_at" sworth_at f fd) (B : Bt mg) (c_worths_at : CalG P w K mg base 7 "worths_at" (spWs K)) (c_total : CalG P w K mg base 2 "total" (spTotal K)) : FnG P w K mg base 8 f fd ["deal", "price"] (spW1 K) := by
  refine Fun.okG F sc_worth_at (fun vs H Q E h => ?_) (fun cdv A outer s H vs Q E hg hr h => ?_)
  · obtain ⟨_, _, _, _, rfl, _⟩ := h
    rfl
  obtain ⟨v, p, D, pf, rfl, hd, ok, hp, sp, k⟩ := h
  refine ⟨_, (pss_one (ps_ret (pc c_total hg hr (by decide) (by rfl) (pa_cons (pc c_worths_at hg hr (by decide) (by rfl) (pa_cons (pv 0) (pa_cons (pv 1) pa_nil))) pa_nil)))), ?_⟩
  have W := w_all ok sp
  refine ⟨_, rfl, _, rfl, v, p, D, pf, rfl, hd, ok, hp, sp, fun a xs H1 s1 h1 r1 => ?_⟩
  exact ⟨a, worthsF D pf, rfl, ⟨xs, .inr h1, r1⟩, (fun f hf => (W.all f hf).okf (by decide) (by decide)), (fun i hi => (W.sums i (Nat.le_of_lt hi)).okf (by decide) (by decide)), fun v' H' s' e' => k v' H' (s1.trans s') e'⟩
end
end K49
namespace K49
open PySem PySem.Spec PyProof.Rows L2 Sw StX RZ
section
variable {P : Program} {w : World} {K : PySem.W.Frag} {mg : Str → Option Value} {base : Heap}
def spGr (K : PySem.W.Frag) : Sp := fun vs H Q _ => ∃ (x y : V) (f g : F2), vs = [x, y] ∧ Cpl K H x f.1 f.2 ∧ Cpl K H y g.1 g.2 ∧ OkF f ∧ OkF g ∧ ∀ v, Cpl K H v (maxF f g).1 (maxF f g).2 → Q v H
abbrev s_law_greater : Stmt := topS 47
theorem sc__law_greater : FnScope ["one", "other"] ["one", "other"] (defScope s_law_greater) := ⟨rfl, rfl, rfl, by decide +kernel, rfl, by decide +kernel, by decide +kernel⟩
theorem ok__law_greater {f : Addr} {fd : FuncData} (F : Fun K "_law_greater" "_law_greater" s_law_greater f fd) (B : Bt mg) (c__law_is_below : CalG P w K mg base 1 "_law_is_below" (spBelow K)) : FnG P w K mg base 2 f fd ["one", "other"] (spGr K) := by
  refine Fun.okG F sc__law_greater (fun vs H Q E h => ?_) (fun cdv A outer s H vs Q E hg hr h => ?_)
  · obtain ⟨_, _, _, _, rfl, _⟩ := h
    rfl
  obtain ⟨x, y, g, h, rfl, hx, hy, og, oh, k⟩ := h
  refine ⟨_, (pss_one (ps_ret (pe_ifExp (pt_val (pc c__law_is_below hg hr (by decide) (by rfl) (pa_cons (pv 0) (pa_cons (pv 1) pa_nil)))) (pv 1) (pv 0)))), ?_⟩
  refine ⟨_, rfl, _, rfl, x, y, g.1, g.2, h.1, h.2, rfl, hx, hy, og.bn, og.bd, oh.bn, oh.bd, ?_⟩
  unfold maxF at k
  by_cases c : g.1 * h.2 < h.1 * g.2
  · rw [if_pos c] at k
    rw [decide_eq_true c]
    exact ⟨_, rfl, iteT ⟨_, rfl, k _ hy⟩⟩
  · rw [if_neg c] at k
    rw [decide_eq_false c]
    exact ⟨_, rfl, iteF ⟨_, rfl, k _ hx⟩⟩
theorem kep_eq {c o p : F2} : mulF c.1 c.2 (maxF p o).1 (maxF p o).2 = kepF c o p := by
  unfold kepF maxF cmpF
  by_cases h : p.1 * o.2 < o.1 * p.2
  · rw [if_pos h, if_pos h, if_neg (by omega)]
  · rw [if_neg h, if_neg h, if_pos (by split <;> omega), mulF_comm]
theorem rest_none : subF 1 1 0 1 = (1, 1) := by decide +kernel
def spLW (K : PySem.W.Frag) : Sp := fun vs H Q _ => ∃ (v mv p : V) (t : Th) (m pf : F2), vs = [v, mv, p] ∧ ThAt K H v t ∧ t.Ok ∧ Cpl K H p pf.1 pf.2 ∧ Sz 40 40 pf ∧ Cpl K H mv m.1 m.2 ∧ Mo m ∧ ∀ v' H', Same H H' → Cpl K H' v' (wTh pf m t).1 (wTh pf m t).2 → Q v' H'
abbrev s_law_worth_of : Stmt := topS 53
theorem sc__law_worth_of : FnScope ["thing", "money", "price", "rest", "found", "whole"] ["thing", "money", "price"] (defScope s_law_worth_of) := ⟨rfl, rfl, rfl, by decide +kernel, rfl, by decide +kernel, by decide +kernel⟩
theorem ok__law_worth_of {f : Addr} {fd : FuncData} (F : Fun K "_law_worth_of" "_law_worth_of" s_law_worth_of f fd) (B : Bt mg) (c__law_multiplied : CalG P w K mg base 3 "_law_multiplied" (spTwo K mulF)) (c__law_lessened : CalG P w K mg base 3 "_law_lessened" (spTwo K subF)) (c__law_divided : CalG P w K mg base 3 "_law_divided" (spDiv K)) (c__law_added : CalG P w K mg base 3 "_law_added" (spTwo K addF)) (c__law_greater : CalG P w K mg base 2 "_law_greater" (spGr K)) (c__law_is_below : CalG P w K mg base 1 "_law_is_below" (spBelow K)) :
    FnG P w K mg base 4 f fd ["thing", "money", "price"] (spLW K) := by
  refine Fun.okG F sc__law_worth_of (fun vs H Q E h => ?_) (fun cdv A outer s H vs Q E hg hr h => ?_)
  · obtain ⟨_, _, _, _, _, _, rfl, _⟩ := h
    rfl
  obtain ⟨v, mv, p, t, m, pf, rfl, ht, ho, hp, sp, hm, om, k⟩ := h
  refine ⟨_, (pss_cons (ps_if (pt_cmpR op_eq (pe_ix ix_tup (pv 0) pe_int (fun _ _ => rfl)) pe_str (nomark _))
      (pss_one (ps_ret (pc c__law_multiplied hg hr (by decide) (by rfl) (pa_cons (pv 2) (pa_cons (pe_ix ix_tup (pv 0) pe_int (fun _ _ => rfl)) pa_nil)))))
      pss_nil)
    (pss_cons (ps_if (pt_cmpR op_eq (pe_ix ix_tup (pv 0) pe_int (fun _ _ => rfl)) pe_str (nomark _))
      (pss_cons (ps_set (i := 3) sc__law_worth_of.nd rfl (Or.inl rfl) (pc c__law_lessened hg hr (by decide) (by rfl) (pa_cons (pe_tup (pa_cons pe_int (pa_cons pe_int pa_nil))) (pa_cons (pe_ifExp (pt_cmpR op_notN (pe_ix ix_tup (pv 0) pe_int (fun _ _ => rfl)) pe_non (nomark _)) (pe_ix ix_tup (pv 0) pe_int (fun _ _ => rfl)) (pe_tup (pa_cons pe_int (pa_cons pe_int pa_nil)))) pa_nil))))
      (pss_cons (ps_set (i := 4) sc__law_worth_of.nd rfl (Or.inl rfl) (pc c__law_divided hg hr (by decide) (by rfl) (pa_cons (pe_ix ix_tup (pv 0) pe_int (fun _ _ => rfl)) (pa_cons (pv 3) pa_nil))))
      (pss_one (ps_ret (pe_ifExp (pt_cmpR op_isN (pe_ix ix_tup (pv 0) pe_int (fun _ _ => rfl)) pe_non (nomark _)) (pv 4) (pc c__law_greater hg hr (by decide) (by rfl) (pa_cons (pv 4) (pa_cons (pc c__law_divided hg hr (by decide) (by rfl) (pa_cons (pc c__law_multiplied hg hr (by decide) (by rfl) (pa_cons (pv 2) (pa_cons (pe_ix ix_tup (pv 0) pe_int (fun _ _ => rfl)) pa_nil))) (pa_cons (pe_ix ix_tup (pv 0) pe_int (fun _ _ => rfl)) pa_nil))) pa_nil))))))))
      pss_nil)
    (pss_cons (ps_if (pt_cmpR op_eq (pe_ix ix_tup (pv 0) pe_int (fun _ _ => rfl)) pe_str (nomark _))
      (pss_one (ps_ret (pc c__law_multiplied hg hr (by decide) (by rfl) (pa_cons (pe_ix ix_tup (pv 0) pe_int (fun _ _ => rfl)) (pa_cons (pc c__law_greater hg hr (by decide) (by rfl) (pa_cons (pv 2) (pa_cons (pe_ix ix_tup (pv 0) pe_int (fun _ _ => rfl)) pa_nil))) pa_nil)))))
      pss_nil)
    (pss_cons (ps_if (pt_not (pt_val (pc c__law_is_below hg hr (by decide) (by rfl) (pa_cons (pv 2) (pa_cons (pe_ix ix_tup (pv 0) pe_int (fun _ _ => rfl)) pa_nil)))))
      (pss_one (ps_ret (pc c__law_multiplied hg hr (by decide) (by rfl) (pa_cons (pv 2) (pa_cons (pe_ix ix_tup (pv 0) pe_int (fun _ _ => rfl)) pa_nil)))))
      pss_nil)
    (pss_cons (ps_set (i := 5) sc__law_worth_of.nd rfl (Or.inl rfl) (pc c__law_divided hg hr (by decide) (by rfl) (pa_cons (pc c__law_added hg hr (by decide) (by rfl) (pa_cons (pc c__law_multiplied hg hr (by decide) (by rfl) (pa_cons (pe_ix ix_tup (pv 0) pe_int (fun _ _ => rfl)) (pa_cons (pv 2) pa_nil))) (pa_cons (pv 1) pa_nil))) (pa_cons (pc c__law_added hg hr (by decide) (by rfl) (pa_cons (pc c__law_multiplied hg hr (by decide) (by rfl) (pa_cons (pe_ix ix_tup (pv 0) pe_int (fun _ _ => rfl)) (pa_cons (pe_ix ix_tup (pv 0) pe_int (fun _ _ => rfl)) pa_nil))) (pa_cons (pv 1) pa_nil))) pa_nil))))
    (pss_one (ps_ret (pc c__law_multiplied hg hr (by decide) (by rfl) (pa_cons (pc c__law_multiplied hg hr (by decide) (by rfl) (pa_cons (pe_ix ix_tup (pv 0) pe_int (fun _ _ => rfl)) (pa_cons (pe_ix ix_tup (pv 0) pe_int (fun _ _ => rfl)) pa_nil))) (pa_cons (pv 5) pa_nil)))))))))), ?_⟩
  cases t with
  | shares c =>
    obtain ⟨r, x, rfl, h0, hx⟩ := ht
    have nc : Nu c := ho
    refine ⟨_, rfl, r, _, 0, _, rfl, rfl, h0, atI_nat (j := 0) rfl, rfl, _, rfl, iteP (fun _ => ?_) fun z => absurd rfl z⟩
    exact ⟨_, rfl, _, rfl, r, _, 1, _, rfl, rfl, h0, atI_nat (j := 1) rfl, p, x, pf.1, pf.2, c.1, c.2, rfl, hp, hx, sp.fr, nc.sz.fr, sp.bn (by decide), sp.bd (by decide), nc.ok.bn, nc.ok.bd, res_by (.refl H) k⟩
  | note a cap disc =>
    obtain ⟨r, x, y, z, rfl, h0, hx, hy, hz⟩ := ht
    obtain ⟨oa, oc, od⟩ := ho
    obtain ⟨rz, rp⟩ := rest_sz od
    have lz := least_sz oa od
    refine ⟨_, rfl, r, _, 0, _, rfl, rfl, h0, atI_nat (j := 0) rfl, rfl, _, rfl, iteP (vstr_ne (by decide)) fun _ => ?_⟩
    refine ⟨_, rfl, r, _, 0, _, rfl, rfl, h0, atI_nat (j := 0) rfl, rfl, _, rfl, iteP (fun _ => ?_) fun z => absurd rfl z⟩
    refine ⟨by show 2 ≤ sizeLine; decide, fun p1 np1 => ?_⟩
    have s1 := same_upd (o := .tup [.int 1, .int 1]) np1
    cases disc with
    | none =>
      cases (show z = .non from hz)
      refine ⟨_, rfl, r, _, 3, .non, rfl, rfl, s1.seqT h0, atI_nat (j := 3) rfl, rfl, _, rfl, iteF ⟨by show 2 ≤ sizeLine; decide, fun p2 np2 => ?_⟩⟩
      have s2 := same_upd (o := .tup [.int 0, .int 1]) np2
      have o0 : OkF (0, 1) := sz_zero.okf (by decide) (by decide)
      have o1 : OkF (1, 1) := sz_one.okf (by decide) (by decide)
      refine ⟨.ref p1, .ref p2, 1, 1, 0, 1, rfl, (Cpl.mk upd_same).same s2, .mk upd_same, o1.fr, o0.fr, o1.bn, o1.bd, o0.bn, o0.bd, fun p3 H3 s3 _ e3 => ?_⟩
      rw [rest_none] at e3
      have c3 : Cpl K H3 (.ref p3) (restF none).1 (restF none).2 := .mk e3
      have S13 := (s1.trans s2).trans s3
      have s3 := S13
      refine ⟨_, rfl, r, _, 1, _, rfl, rfl, s3.seqT h0, atI_nat (j := 1) rfl, _, rfl, x, .ref p3, a.1, a.2, _, _, rfl, hx.same s3, c3, oa.sz.fr, rz.fr, oa.ok.bn, oa.ok.bd, rz.bn (by decide), rz.bd (by decide), by omega, fun p4 H4 s4 _ e4 => ?_⟩
      have s14 := s3.trans s4
      cases cap with
      | none =>
        cases (show y = .non from hy)
        exact ⟨_, rfl, r, _, 2, _, rfl, rfl, s14.seqT h0, atI_nat (j := 2) rfl, rfl, _, rfl, iteT ⟨_, rfl, k _ _ s14 (.mk e4)⟩⟩
      | some c =>
        have nc := oc c rfl
        obtain ⟨yc, rfl, hyc⟩ : Cpl K H y c.1 c.2 := hy
        have hyc : Cpl K H (.ref yc) c.1 c.2 := ⟨yc, rfl, hyc⟩
        have mz := sp.mul oa.sz
        have cz := cap_sz oa nc sp
        refine ⟨_, rfl, r, _, 2, _, rfl, rfl, s14.seqT h0, atI_nat (j := 2) rfl, rfl, _, rfl, iteF ?_⟩
        refine ⟨_, rfl, _, rfl, _, rfl, r, _, 1, _, rfl, rfl, s14.seqT h0, atI_nat (j := 1) rfl, p, x, pf.1, pf.2, a.1, a.2, rfl, hp.same s14, hx.same s14, sp.fr, oa.sz.fr, sp.bn (by decide), sp.bd (by decide), oa.ok.bn, oa.ok.bd, fun p5 H5 s5 _ e5 => ?_⟩
        have s15 := s14.trans s5
        refine ⟨_, rfl, r, _, 2, _, rfl, rfl, s15.seqT h0, atI_nat (j := 2) rfl, .ref p5, .ref yc, _, _, c.1, c.2, rfl, .mk e5, hyc.same s15, mz.fr, nc.sz.fr, mz.bn (by decide), mz.bd (by decide), nc.ok.bn, nc.ok.bd, by have := nc.pos; omega, fun p6 H6 s6 _ e6 => ?_⟩
        exact ⟨.ref p4, .ref p6, leastF a _, capF a c pf, rfl, (((Cpl.mk e4).same s5).same s6), .mk e6, lz.okf (by decide) (by decide), cz.okf (by decide) (by decide), fun v hv => k _ _ (s15.trans s6) hv⟩
    | some dd =>
      have pd := od dd rfl
      obtain ⟨zc, rfl, hzc⟩ : Cpl K H z dd.1 dd.2 := hz
      have hzc : Cpl K H (.ref zc) dd.1 dd.2 := ⟨zc, rfl, hzc⟩
      have o1 : OkF (1, 1) := sz_one.okf (by decide) (by decide)
      refine ⟨_, rfl, r, _, 3, _, rfl, rfl, s1.seqT h0, atI_nat (j := 3) rfl, rfl, _, rfl, iteT ⟨_, rfl, r, _, 3, _, rfl, rfl, s1.seqT h0, atI_nat (j := 3) rfl, ?_⟩⟩
      refine ⟨.ref p1, .ref zc, 1, 1, dd.1, dd.2, rfl, .mk upd_same, hzc.same s1, o1.fr, pd.sz.fr, o1.bn, o1.bd, pd.ok.bn, pd.ok.bd, fun p3 H3 s3 _ e3 => ?_⟩
      have c3 : Cpl K H3 (.ref p3) (restF (some dd)).1 (restF (some dd)).2 := .mk e3
      have S13 := s1.trans s3
      have s3 := S13
      refine ⟨_, rfl, r, _, 1, _, rfl, rfl, s3.seqT h0, atI_nat (j := 1) rfl, _, rfl, x, .ref p3, a.1, a.2, _, _, rfl, hx.same s3, c3, oa.sz.fr, rz.fr, oa.ok.bn, oa.ok.bd, rz.bn (by decide), rz.bd (by decide), by omega, fun p4 H4 s4 _ e4 => ?_⟩
      have s14 := s3.trans s4
      cases cap with
      | none =>
        cases (show y = .non from hy)
        exact ⟨_, rfl, r, _, 2, _, rfl, rfl, s14.seqT h0, atI_nat (j := 2) rfl, rfl, _, rfl, iteT ⟨_, rfl, k _ _ s14 (.mk e4)⟩⟩
      | some c =>
        have nc := oc c rfl
        obtain ⟨yc, rfl, hyc⟩ : Cpl K H y c.1 c.2 := hy
        have hyc : Cpl K H (.ref yc) c.1 c.2 := ⟨yc, rfl, hyc⟩
        have mz := sp.mul oa.sz
        have cz := cap_sz oa nc sp
        refine ⟨_, rfl, r, _, 2, _, rfl, rfl, s14.seqT h0, atI_nat (j := 2) rfl, rfl, _, rfl, iteF ?_⟩
        refine ⟨_, rfl, _, rfl, _, rfl, r, _, 1, _, rfl, rfl, s14.seqT h0, atI_nat (j := 1) rfl, p, x, pf.1, pf.2, a.1, a.2, rfl, hp.same s14, hx.same s14, sp.fr, oa.sz.fr, sp.bn (by decide), sp.bd (by decide), oa.ok.bn, oa.ok.bd, fun p5 H5 s5 _ e5 => ?_⟩
        have s15 := s14.trans s5
        refine ⟨_, rfl, r, _, 2, _, rfl, rfl, s15.seqT h0, atI_nat (j := 2) rfl, .ref p5, .ref yc, _, _, c.1, c.2, rfl, .mk e5, hyc.same s15, mz.fr, nc.sz.fr, mz.bn (by decide), mz.bd (by decide), nc.ok.bn, nc.ok.bd, by have := nc.pos; omega, fun p6 H6 s6 _ e6 => ?_⟩
        exact ⟨.ref p4, .ref p6, leastF a _, capF a c pf, rfl, (((Cpl.mk e4).same s5).same s6), .mk e6, lz.okf (by decide) (by decide), cz.okf (by decide) (by decide), fun v hv => k _ _ (s15.trans s6) hv⟩
  | kept c o =>
    obtain ⟨r, x, y, rfl, h0, hx, hy⟩ := ht
    obtain ⟨nc, no⟩ : Nu c ∧ Nu o := ho
    have k : ∀ v' H', Same H H' → Cpl K H' v' (kepF c o pf).1 (kepF c o pf).2 → Q v' H' := k
    rw [← kep_eq] at k
    have mz : Sz 40 40 (maxF pf o) := sp.max (no.sz.mono (by decide) (by decide))
    refine ⟨_, rfl, r, _, 0, _, rfl, rfl, h0, atI_nat (j := 0) rfl, rfl, _, rfl, iteP (vstr_ne (by decide)) fun _ => ?_⟩
    refine ⟨_, rfl, r, _, 0, _, rfl, rfl, h0, atI_nat (j := 0) rfl, rfl, _, rfl, iteP (vstr_ne (by decide)) fun _ => ?_⟩
    refine ⟨_, rfl, r, _, 0, _, rfl, rfl, h0, atI_nat (j := 0) rfl, rfl, _, rfl, iteP (fun _ => ?_) fun z => absurd rfl z⟩
    refine ⟨_, rfl, r, _, 1, _, rfl, rfl, h0, atI_nat (j := 1) rfl, _, rfl, _, rfl, r, _, 2, _, rfl, rfl, h0, atI_nat (j := 2) rfl, p, y, pf, o, rfl, hp, hy, sp.okf (by decide) (by decide), no.ok, fun v1 h1 => ?_⟩
    exact ⟨x, v1, c.1, c.2, _, _, rfl, hx, h1, nc.sz.fr, mz.fr, nc.ok.bn, nc.ok.bd, mz.bn (by decide), mz.bd (by decide), res_by (.refl H) k⟩
  | weighed c o t =>
    obtain ⟨r, x, y, z, rfl, h0, hx, hy, hz⟩ := ht
    obtain ⟨nc, no, nt⟩ : Nu c ∧ Nu o ∧ Nu t := ho
    have k : ∀ v' H', Same H H' → Cpl K H' v' (wegF c o t pf m).1 (wegF c o t pf m).2 → Q v' H' := k
    refine ⟨_, rfl, r, _, 0, _, rfl, rfl, h0, atI_nat (j := 0) rfl, rfl, _, rfl, iteP (vstr_ne (by decide)) fun _ => ?_⟩
    refine ⟨_, rfl, r, _, 0, _, rfl, rfl, h0, atI_nat (j := 0) rfl, rfl, _, rfl, iteP (vstr_ne (by decide)) fun _ => ?_⟩
    refine ⟨_, rfl, r, _, 0, _, rfl, rfl, h0, atI_nat (j := 0) rfl, rfl, _, rfl, iteP (vstr_ne (by decide)) fun _ => ?_⟩
    refine ⟨_, rfl, _, rfl, r, _, 2, _, rfl, rfl, h0, atI_nat (j := 2) rfl, p, y, pf.1, pf.2, o.1, o.2, rfl, hp, hy, sp.bn (by decide), sp.bd (by decide), no.ok.bn, no.ok.bd, ?_⟩
    unfold wegF cmpF at k
    by_cases hb : pf.1 * o.2 < o.1 * pf.2
    · rw [if_pos hb, if_neg (by omega), div_mul (nc.sz.mul no.sz).fr (wei_sz sp nt om.sz).fr (wei_sz no.sz nt om.sz).fr (by have := wei_pos no nt om; omega)] at k
      rw [decide_eq_true hb]
      refine ⟨_, rfl, iteF ?_⟩
      have bz := nc.sz.mul no.sz
      have tpz := nt.sz.mul sp
      have xz := wei_sz sp nt om.sz
      have toz := nt.sz.mul no.sz
      have yz := wei_sz no.sz nt om.sz
      have y0 := wei_pos no nt om
      have dz := xz.div yz (by omega)
      refine ⟨_, rfl, r, _, 3, _, rfl, rfl, h0, atI_nat (j := 3) rfl, _, rfl, z, p, t.1, t.2, pf.1, pf.2, rfl, hz, hp, nt.sz.fr, sp.fr, nt.ok.bn, nt.ok.bd, sp.bn (by decide), sp.bd (by decide), fun p3 H3 s3 _ e3 => ?_⟩
      refine ⟨_, rfl, _, mv, _, _, m.1, m.2, rfl, .mk e3, hm.same s3, tpz.fr, om.sz.fr, tpz.bn (by decide), tpz.bd (by decide), om.ok.bn, om.ok.bd, fun p4 H4 s4 _ e4 => ?_⟩
      have s14 := s3.trans s4
      refine ⟨_, rfl, r, _, 3, _, rfl, rfl, s14.seqT h0, atI_nat (j := 3) rfl, _, rfl, r, _, 2, _, rfl, rfl, s14.seqT h0, atI_nat (j := 2) rfl, z, y, t.1, t.2, o.1, o.2, rfl, hz.same s14, hy.same s14, nt.sz.fr, no.sz.fr, nt.ok.bn, nt.ok.bd, no.ok.bn, no.ok.bd, fun p5 H5 s5 _ e5 => ?_⟩
      have s15 := s14.trans s5
      refine ⟨_, rfl, _, mv, _, _, m.1, m.2, rfl, .mk e5, hm.same s15, toz.fr, om.sz.fr, toz.bn (by decide), toz.bd (by decide), om.ok.bn, om.ok.bd, fun p6 H6 s6 _ e6 => ?_⟩
      have s16 := s15.trans s6
      refine ⟨_, _, _, _, _, _, rfl, ((Cpl.mk e4).same s5).same s6, .mk e6, xz.fr, yz.fr, xz.bn (by decide), xz.bd (by decide), yz.bn (by decide), yz.bd (by decide), by unfold weiF at y0; omega, fun p7 H7 s7 _ e7 => ?_⟩
      have s17 := s16.trans s7
      refine ⟨_, rfl, r, _, 1, _, rfl, rfl, s17.seqT h0, atI_nat (j := 1) rfl, _, rfl, r, _, 2, _, rfl, rfl, s17.seqT h0, atI_nat (j := 2) rfl, x, y, c.1, c.2, o.1, o.2, rfl, hx.same s17, hy.same s17, nc.sz.fr, no.sz.fr, nc.ok.bn, nc.ok.bd, no.ok.bn, no.ok.bd, fun p8 H8 s8 _ e8 => ?_⟩
      refine ⟨_, rfl, _, _, _, _, _, _, rfl, .mk e8, (Cpl.mk e7).same s8, bz.fr, dz.fr, bz.bn (by decide), bz.bd (by decide), dz.bn (by decide), dz.bd (by decide), res_by (s17.trans s8) k⟩
    · rw [if_neg hb, if_pos (by split <;> omega)] at k
      rw [decide_eq_false hb]
      exact ⟨_, rfl, iteT ⟨_, rfl, _, rfl, r, _, 1, _, rfl, rfl, h0, atI_nat (j := 1) rfl, p, x, pf.1, pf.2, c.1, c.2, rfl, hp, hx, sp.fr, nc.sz.fr, sp.bn (by decide), sp.bd (by decide), nc.ok.bn, nc.ok.bd, res_by (.refl H) k⟩⟩
end
end K49
namespace K49
open PySem PySem.Spec PyProof.Rows L2 Sw StX RZ
section
variable {P : Program} {w : World} {K : PySem.W.Frag} {mg : Str → Option Value} {base : Heap}
abbrev s_law_worths : Stmt := topS 54
theorem sc__law_worths : FnScope ["deal", "price", "worth", "money", "things", "count", "part", "found", "thing", "filled"] ["deal", "price"] (defScope s_law_worths) := ⟨rfl, rfl, rfl, by decide +kernel, rfl, by decide +kernel, by decide +kernel⟩
theorem ok__law_worths {f : Addr} {fd : FuncData} (F : Fun K "_law_worths" "_law_worths" s_law_worths f fd) (B : Bt mg) (c__law_worth_of : CalG P w K mg base 4 "_law_worth_of" (spLW K)) (c__law_divided : CalG P w K mg base 3 "_law_divided" (spDiv K)) (c__law_multiplied : CalG P w K mg base 3 "_law_multiplied" (spTwo K mulF)) (c__law_added : CalG P w K mg base 3 "_law_added" (spTwo K addF)) (c__law_total : CalG P w K mg base 4 "_law_total" (spTotal K)) (c__law_lessened : CalG P w K mg base 3 "_law_lessened" (spTwo K subF)) (c__law_greater : CalG P w K mg base 2 "_law_greater" (spGr K)) :
    FnG P w K mg base 5 f fd ["deal", "price"] (spWs K) := by
  refine Fun.okG F sc__law_worths (fun vs H Q E h => ?_) (fun cdv A outer s H vs Q E hg hr h => ?_)
  · obtain ⟨_, _, _, _, rfl, _⟩ := h
    rfl
  obtain ⟨v, p, D, pf, rfl, ⟨r, x, y, rt, rp, vs, c, q, rfl, d⟩, ok, hp, sp, k⟩ := h
  refine ⟨_, (pss_cons (ps_asg (pv 0) (pg_tup (n := 4) rfl (pgs_cons (pg_name (i := 2) sc__law_worths.nd rfl (Or.inl rfl)) (pgs_cons (pg_name (i := 3) sc__law_worths.nd rfl (Or.inr rfl)) (pgs_cons (pg_name (i := 4) sc__law_worths.nd rfl (Or.inl rfl)) (pgs_cons (pg_tup (n := 2) rfl (pgs_cons (pg_name (i := 5) sc__law_worths.nd rfl (Or.inl rfl)) (pgs_cons (pg_name (i := 6) sc__law_worths.nd rfl (Or.inl rfl)) pgs_nil))) pgs_nil))))))
    (pss_cons (ps_setLc (i := 7) (own := [("thing", 8)]) rfl sc__law_worths.nd rfl rfl (sw_true rfl rfl rfl (by decide +kernel)) (pi_tup (pv 4)) (blkOk_by (own := [("thing", 8)]) (N := ["deal", "price", "worth", "money", "things", "count", "part", "found", "thing", "filled"]) (sc := (defScope s_law_worths)) (by decide +kernel)) (fun _ _ _ _ _ => (pg_name (i := 8) sc__law_worths.nd rfl (Or.inl rfl))) (fun _ _ _ _ _ => pts_nil) (fun _ _ _ _ _ => (pc c__law_worth_of hg hr (by decide) (by rfl) (pa_cons (pv 8) (pa_cons (pv 3) (pa_cons (pv 1) pa_nil))))))
    (pss_cons (ps_set (i := 9) sc__law_worths.nd rfl (Or.inl rfl) (pc c__law_divided hg hr (by decide) (by rfl) (pa_cons (pc c__law_multiplied hg hr (by decide) (by rfl) (pa_cons (pv 6) (pa_cons (pc c__law_added hg hr (by decide) (by rfl) (pa_cons (pc c__law_total hg hr (by decide) (by rfl) (pa_cons (pv 7) pa_nil)) (pa_cons (pv 3) pa_nil))) pa_nil))) (pa_cons (pc c__law_lessened hg hr (by decide) (by rfl) (pa_cons (pe_tup (pa_cons pe_int (pa_cons pe_int pa_nil))) (pa_cons (pv 6) pa_nil))) pa_nil))))
    (pss_one (ps_ret (pe_callTy call_tuple_of (by rfl) B.tuple bb_tuple (pa_cons (pe_op op_cat (pv 7) (pe_lst (pa_cons (pc c__law_greater hg hr (by decide) (by rfl) (pa_cons (pc c__law_multiplied hg hr (by decide) (by rfl) (pa_cons (pv 1) (pa_cons (pv 5) pa_nil))) (pa_cons (pv 9) pa_nil))) pa_nil))) pa_nil))))))), ?_⟩
  have W := w_all ok sp
  have hlen := d.ts.len
  have e1 : (rowF D pf).length = D.things.length := row_len D pf
  have l6 := ok.len
  refine ⟨_, rfl, r, _, rfl, d.at_, rfl, _, _, rfl, _, _, rfl, _, _, rfl, _, _, rfl, rp, _, rfl, d.p, rfl, _, _, rfl, _, _, rfl, rfl, rfl, ?_⟩
  refine ⟨_, rfl, rt, rfl, ⟨vs, d.t⟩, fun D0 hD => lc_it (walk_tup (K := K) (xs := vs) (a := rt)) (fun i H' => Same H H' ∧ ∃ ws : List V, H' D0 = some (.lst ws) ∧ ws.length = i ∧ RowF K H' ws ((rowF D pf).take i)) ?_ (fun i H' _ h => h.1.seqT d.t) ?_ ?_⟩
  · exact ⟨same_upd hD, [], upd_same, rfl, True.intro⟩
  · rintro i x' H2 H3 hi ⟨sm, ws, hDa, hwl, hws⟩ ⟨rfl, hx⟩
    obtain ⟨t, et, ht⟩ := d.ts.get hx
    have d2 := d.same sm
    have tok := ok.things t (List.mem_of_getElem? et)
    refine ⟨rfl, _, rfl, _, rfl, _, rfl, x', y, p, t, D.money, pf, rfl, ht.same sm, tok, hp.same sm, sp, d2.m, ok.money, fun v' H4 s4 e4 => ?_⟩
    have hD4 := s4 _ _ hDa
    have et2 : (rowF D pf)[i]? = some (wTh pf D.money t) := by
      unfold rowF
      rw [List.getElem?_map, et]
      rfl
    have tk : (rowF D pf).take (i + 1) = (rowF D pf).take i ++ [wTh pf D.money t] := by
      rw [List.take_add_one, et2]
      rfl
    refine ⟨ws, hD4, small1000 (by omega), fun a o e => ?_, ws ++ [v'], upd_same, by rw [List.length_append, hwl]; rfl, ?_⟩
    · rw [upd_ne (ne_of_none e hD)]
      exact s4 _ _ (sm _ _ e)
    · rw [tk]
      exact rowF_snoc ((hws.same s4).fut (fut_grow hD4)) (e4.fut (fut_grow hD4))
  rintro H2 ⟨sm, ws, hDa, hwl, hws⟩
  rw [hlen, ← e1, List.take_length] at hws
  have hlw : ws.length ≤ 6 := by omega
  have d2 := d.same sm
  have hq : SqL K H2 D0 ws := .inl (.inl hDa)
  have sw := W.part _ (Nat.le_refl _)
  rw [List.take_length] at sw
  have z := fill_sz ok (sw.mono (by decide) (by decide))
  have mz := z.mul
  have az := z.add
  have rz := z.rest
  have cz := sp.mul ok.count.sz
  have o1 : OkF (1, 1) := sz_one.okf (by decide) (by decide)
  refine ⟨_, rfl, _, rfl, D0, rowF D pf, rfl, ⟨ws, .inl hq, hws⟩, (fun f hf => (W.row f hf).okf (by decide) (by decide)), (fun i hi => (W.part i (Nat.le_of_lt hi)).okf (by decide) (by decide)), fun v3 H3 s3 e3 => ?_⟩
  have d3 := d2.same s3
  refine ⟨_, rfl, v3, y, _, _, D.money.1, D.money.2, rfl, e3, d3.m, sw.fr, ok.money.sz.fr, sw.bn (by decide), sw.bd (by decide), ok.money.ok.bn, ok.money.ok.bd, fun p4 H4 s4 _ e4 => ?_⟩
  have d4 := d3.same s4
  refine ⟨q, _, D.part.1, D.part.2, _, _, rfl, d4.q, .mk e4, ok.part.sz.fr, az.fr, ok.part.ok.bn, ok.part.ok.bd, az.bn (by decide), az.bd (by decide), fun p5 H5 s5 _ e5 => ?_⟩
  have d5 := d4.same s5
  refine ⟨by show 2 ≤ sizeLine; decide, fun t6 n6 => ?_⟩
  have s6 := same_upd (o := .tup [.int 1, .int 1]) n6
  have d6 := d5.same s6
  refine ⟨_, rfl, .ref t6, q, 1, 1, D.part.1, D.part.2, rfl, .mk upd_same, d6.q, o1.fr, ok.part.sz.fr, o1.bn, o1.bd, ok.part.ok.bn, ok.part.ok.bd, fun p7 H7 s7 _ e7 => ?_⟩
  have d7 := d6.same s7
  refine ⟨_, _, _, _, _, _, rfl, ((Cpl.mk e5).same s6).same s7, .mk e7, mz.fr, rz.fr, mz.bn (by decide), mz.bd (by decide), rz.bn (by decide), rz.bd (by decide), by have := z.pos; exact Int.ne_of_gt this, fun p8 H8 s8 _ e8 => ?_⟩
  have d8 := d7.same s8
  have s28 := ((((s3.trans s4).trans s5).trans s6).trans s7).trans s8
  have hD8 := s28 _ _ hDa
  have hws8 := hws.same s28
  refine ⟨_, rfl, _, rfl, _, rfl, p, c, pf.1, pf.2, D.count.1, D.count.2, rfl, hp.same (sm.trans s28), d8.c, sp.fr, ok.count.sz.fr, sp.bn (by decide), sp.bd (by decide), ok.count.ok.bn, ok.count.ok.bd, fun p9 H9 s9 _ e9 => ?_⟩
  refine ⟨_, rfl, .ref p9, .ref p8, _, fillF D (sumF (rowF D pf)), rfl, .mk e9, (Cpl.mk e8).same s9, cz.okf (by decide) (by decide), z.fill.okf (by decide) (by decide), fun v10 h10 => ?_⟩
  refine ⟨by show 1 ≤ sizeLine; decide, fun l1 n1 => ?_⟩
  have s10 := same_upd (o := .lst [v10]) n1
  refine ⟨D0, l1, ws, [v10], rfl, rfl, s10 _ _ (s9 _ _ hD8), upd_same, Nat.le_of_lt (small1000 (by show ws.length + 1 ≤ 1000; omega)), fun l2 n2 => ⟨l2, ws ++ [v10], rfl, .inl ⟨.inl (.inl upd_same), fun t nt => ?_⟩⟩⟩
  have s11 := same_upd (o := .lst (ws ++ [v10])) n2
  have s12 := same_upd (o := .tup (ws ++ [v10])) nt
  have sz := ((s9.trans s10).trans s11).trans s12
  exact k t (ws ++ [v10]) _ ((sm.trans s28).trans sz) (.of upd_same) (rowF_snoc (hws8.same sz) (h10.same ((s10.trans s11).trans s12)))
end
end K49
namespace K49
open PySem PySem.Spec PyProof.Rows L2 Sw StX RZ
theorem cutV_from (xs : List V) (n : Nat) : cutV xs (some (n : Int)) none = xs.drop n := by
  unfold cutV
  rw [HT.sIx_none, HT.sIx_nat]
  by_cases h : n ≤ xs.length
  · rw [Nat.min_eq_left h]
    exact List.take_of_length_le (by rw [List.length_drop]; omega)
  · rw [List.drop_eq_nil_of_le (by omega), List.drop_eq_nil_of_le (by omega), List.take_nil]
theorem slA_use {K : PySem.W.Frag} {H : Hp} {r : Addr} {xs : List V} {lo hi : Option Int} {Q : VK} (h : SqT K H r xs) (k : ∀ p H', Same H H' → SqT K H' p (cutV xs lo hi) → Q (.ref p) H') : rSlA K (.ref r) lo hi H Q := by
  refine ⟨r, xs, rfl, h, fun z => ?_, fun _ p np => k p _ (same_upd np) (.of upd_same)⟩
  refine k r H (.refl H) ?_
  have : cutV xs lo hi = xs := by
    unfold cutV
    rw [z.1, z.2, List.drop_zero, Nat.sub_zero, List.take_length]
  rw [this]
  exact h
theorem len_wt : ∀ ds : List PyData, ds.length ≤ PyData.weightAll ds
  | [] => Nat.le_refl _
  | d :: ds => by
    have := len_wt ds
    simp only [PyData.weightAll, List.length_cons] at this ⊢
    omega
def isNon : PyData → Bool
  | .none => true
  | _ => false
theorem dt_non {K : PySem.W.Frag} {mu : Addr → Prop} {H : Hp} {v : V} {d : PyData} (h : Dt K mu H v d) : decide (v = V.non) = isNon d := by
  cases h <;> first | exact decide_eq_true rfl | exact decide_eq_false (fun z => nomatch z)
/-- below one -/
def isBl : PyData → Bool
  | .tuple [.int n, .int d] => isAmt (.tuple [.int n, .int d]) && decide (n < d)
  | _ => false
theorem isBl_eq (n d : Int) : isBl (.tuple [.int n, .int d]) = (isAmt (.tuple [.int n, .int d]) && decide (n < d)) := rfl
def isPool : PyData → Bool
  | .tuple [a, b] => isAmt a && isBl b
  | _ => false
def partD (k : Str) (d : PyData) : Bool := if k = "above" then isAb d else if isNon d = true then true else if k = "cap" then isAb d else isBl d
def thT : List (Str × List Str) := [("shares", ["above"]), ("note", ["above", "cap", "discount"]), ("kept", ["above", "above"]), ("weighed", ["above", "above", "above"])]
def thK (z : Str) : Option (List Str) := thT.lookup z
def ptsD : List Str → List PyData → Bool
  | k :: ks, p :: ps => partD k p && ptsD ks ps
  | _, _ => true
def isTh : PyData → Bool
  | .tuple (.str w :: ps) => (match thK w with | some ks => decide (ps.length = ks.length) && ptsD ks ps | none => false)
  | _ => false
theorem isTh_str (w : Str) (ps : List PyData) : isTh (.tuple (.str w :: ps)) = (match thK w with | some ks => decide (ps.length = ks.length) && ptsD ks ps | none => false) := rfl
def isSh : PyData → Bool
  | .tuple (.str w :: _) => decide (w = "shares")
  | _ => false
def isThs : PyData → Bool
  | .tuple ds => ds.all isTh && ds.any isSh
  | _ => false
def isRd : PyData → Bool
  | .tuple [w, m, t, p] => isAb w && isAmt m && isPool p && isThs t
  | _ => false
theorem rd_len {xs : List V} {ds : List PyData} (hl : xs.length = ds.length) (hn : (xs.length : Int) ≠ 4) : isRd (.tuple ds) = false := by
  match ds, hl with
  | [], _ => rfl
  | [_], _ => rfl
  | [_, _], _ => rfl
  | [_, _, _], _ => rfl
  | [_, _, _, _], hl => exact absurd (by rw [hl]; rfl) hn
  | _ :: _ :: _ :: _ :: _ :: _, _ => rfl
theorem dt_four {K : PySem.W.Frag} {mu : Addr → Prop} {H : Hp} {xs : List V} {ds : List PyData} (hA : DtA K mu H xs ds) (hn : (xs.length : Int) = 4) : ∃ x1 x2 x3 x4 d1 d2 d3 d4, xs = [x1, x2, x3, x4] ∧ ds = [d1, d2, d3, d4] ∧ Dt K mu H x1 d1 ∧ Dt K mu H x2 d2 ∧ Dt K mu H x3 d3 ∧ Dt K mu H x4 d4 := by
  cases hA with
  | nil => exact absurd hn (by simp)
  | cons r1 hA => cases hA with
    | nil => exact absurd hn (by simp)
    | cons r2 hA => cases hA with
      | nil => exact absurd hn (by simp)
      | cons r3 hA => cases hA with
        | nil => exact absurd hn (by simp)
        | cons r4 hA => cases hA with
          | nil => exact ⟨_, _, _, _, _, _, _, _, rfl, rfl, r1, r2, r3, r4⟩
          | cons _ _ => exact absurd hn (by simp only [List.length_cons]; omega)
/-- the table of the things' parts, as the top has written it -/
structure TPs (K : PySem.W.Frag) (w : World) (mg : Str → Option Value) (d0 : Addr) (es : Array DictEntry) (n : Nat) : Prop where
  at_ : mg "THING_PARTS" = some (.ref d0)
  kd : KDict K w d0 es n
  no : ∀ z, thK z = none → PySem.W.nsIn K d0 z = some none
  yes : ∀ z ks, thK z = some ks → ∃ a, PySem.W.nsIn K d0 z = some (some (.ref a)) ∧ KTup K a (ks.map V.str)
def spPart (K : PySem.W.Frag) : Sp := fun vs H Q _ => ∃ (k : Str) (v : V) (mu : Addr → Prop) (d : PyData), vs = [.str k, v] ∧ Dt K mu H v d ∧ Ok d ∧ ∀ H', Same H H' → Q (.bl (partD k d)) H'
theorem th_len {z : Str} {ks : List Str} (h : thK z = some ks) : ks.length ≤ 3 := by
  have : ∀ p ∈ thT, p.2.length ≤ 3 := by decide
  unfold thK at h
  have key : ∀ l : List (Str × List Str), l.lookup z = some ks → (z, ks) ∈ l := by
    intro l
    induction l with
    | nil => intro h; cases h
    | cons p l ih =>
      intro h
      rw [List.lookup_cons] at h
      split at h
      · rename_i e
        rw [beq_iff_eq] at e
        cases h
        rw [e]
        exact List.mem_cons_self
      · exact List.mem_cons_of_mem _ (ih h)
  exact this _ (key _ h)
section
variable {P : Program} {w : World} {K : PySem.W.Frag} {mg : Str → Option Value} {base : Heap}
abbrev sis_below_one : Stmt := topS 24
theorem sc_is_below_one : FnScope ["thing"] ["thing"] (defScope sis_below_one) := ⟨rfl, rfl, rfl, by decide +kernel, rfl, by decide +kernel, by decide +kernel⟩
theorem ok_is_below_one {f : Addr} {fd : FuncData} (F : Fun K "is_below_one" "is_below_one" sis_below_one f fd) (B : Bt mg) (c_is_amount : CalG P w K mg base 3 "is_amount" (spP K isAmt)) : FnG P w K mg base 4 f fd ["thing"] (spP K isBl) := by
  refine Fun.okG F sc_is_below_one spP_len (fun cdv A outer s H vs Q E hg hr h => ?_)
  obtain ⟨v, mu, d, rfl, hd, ho, k⟩ := h
  refine ⟨_, (pss_one (ps_ret (pe_and (pc c_is_amount hg hr (by decide) (by rfl) (pa_cons (pv 0) pa_nil)) (pe_one (pe_cmpR op_lt (pe_ix ix_tup (pv 0) pe_int (fun _ _ => rfl)) (pe_ix ix_tup (pv 0) pe_int (fun _ _ => rfl)) (nomark _)))))), ?_⟩
  refine ⟨v, rfl, v, mu, d, rfl, hd, ho, fun H1 s1 => ⟨_, rfl, iteB (fun h1 => ?_) fun h1 => ?_⟩⟩
  · have k1 := k H1 s1
    obtain ⟨n, m, rfl⟩ : ∃ n m, d = .tuple [.int n, .int m] := by
      unfold isAmt at h1
      split at h1
      · exact ⟨_, _, rfl⟩
      · cases h1
    · obtain ⟨a, xs, rfl, hS, hA⟩ := (hd.fut (.of_same s1)).tupAt
      obtain ⟨x, y, d1, d2, rfl, e2, r1, r2⟩ := hA.two rfl
      injection e2 with e3 e4
      injection e4 with e4 _
      subst e3 e4
      cases r1
      cases r2
      refine ⟨_, rfl, a, _, 0, .int n, rfl, rfl, hS, atI_nat (j := 0) rfl, _, rfl, a, _, 1, .int m, rfl, rfl, hS, atI_nat (j := 1) rfl, _, _, rfl, rfl, ?_⟩
      rw [isBl_eq, h1, Bool.true_and] at k1
      exact k1
  · have k1 := k H1 s1
    have e : isBl d = false := by
      unfold isBl
      split
      · rw [h1, Bool.false_and]
      · rfl
    rw [e] at k1
    exact k1
abbrev sis_pool : Stmt := topS 23
theorem sc_is_pool : FnScope ["thing"] ["thing"] (defScope sis_pool) := ⟨rfl, rfl, rfl, by decide +kernel, rfl, by decide +kernel, by decide +kernel⟩
theorem ok_is_pool {f : Addr} {fd : FuncData} (F : Fun K "is_pool" "is_pool" sis_pool f fd) (B : Bt mg) (c_is_amount : CalG P w K mg base 3 "is_amount" (spP K isAmt)) (c_is_below_one : CalG P w K mg base 4 "is_below_one" (spP K isBl)) : FnG P w K mg base 5 f fd ["thing"] (spP K isPool) := by
  refine Fun.okG F sc_is_pool spP_len (fun cdv A outer s H vs Q E hg hr h => ?_)
  obtain ⟨v, mu, d, rfl, hd, ho, k⟩ := h
  refine ⟨_, (pss_one (ps_ret (pe_and (pe_callB call_isD (by rfl) B.isin bb_isin (pa_cons (pv 0) (pa_cons (pe_bltn (v := .ty "tuple") rfl B.tuple bb_tuple rfl) pa_nil))) (pe_and (pe_cmpR op_eq (pe_callB call_lenA (by rfl) B.len boot_len (pa_cons (pv 0) pa_nil)) pe_int (nomark _)) (pe_and (pc c_is_amount hg hr (by decide) (by rfl) (pa_cons (pe_ix ix_tup (pv 0) pe_int (fun _ _ => rfl)) pa_nil)) (pe_one (pc c_is_below_one hg hr (by decide) (by rfl) (pa_cons (pe_ix ix_tup (pv 0) pe_int (fun _ _ => rfl)) pa_nil)))))))), ?_⟩
  refine ⟨_, rfl, _, "tuple", mu, d, rfl, by decide, hd, _, rfl, ?_⟩
  have k0 := k H (Same.refl H)
  refine iteB (fun ht => ?_) fun ht => ?_
  rotate_left
  · have e : isPool d = false := by
      cases d <;> first | rfl | (simp [isT, tyName] at ht)
    rw [e] at k0
    exact k0
  obtain ⟨ds, rfl⟩ := (isTup d).mp ht
  obtain ⟨a, xs, rfl, hS, hA⟩ := hd.tupAt
  have hl := hA.length
  refine ⟨_, rfl, _, xs.length, rfl, .inr ⟨_, hS, rfl⟩, rfl, _, rfl, iteEq (fun hn => ?_) fun hn => ?_⟩
  · obtain ⟨x, y, d1, d2, rfl, rfl, r1, r2⟩ := hA.two (by omega)
    have e : isPool (.tuple [d1, d2]) = (isAmt d1 && isBl d2) := rfl
    rw [e] at k
    refine ⟨_, rfl, a, _, 0, x, rfl, rfl, hS, atI_nat (j := 0) rfl, x, mu, d1, rfl, r1, ho.inT (by simp), fun H1 s1 => ⟨_, rfl, iteB (fun h1 => ?_) fun h1 => ?_⟩⟩
    · rw [h1, Bool.true_and] at k
      exact ⟨_, rfl, a, _, 1, y, rfl, rfl, s1.seqT hS, atI_nat (j := 1) rfl, y, mu, d2, rfl, r2.fut (.of_same s1), ho.inT (by simp), fun H2 s2 => k H2 (s1.trans s2)⟩
    · have k1 := k H1 s1
      rw [h1, Bool.false_and] at k1
      exact k1
  · have e : isPool (.tuple ds) = false := by
      match ds, hl with
      | [], _ => rfl
      | [_], _ => rfl
      | [_, _], hl => exact absurd (by rw [hl]; rfl) hn
      | _ :: _ :: _ :: _, _ => rfl
    rw [e] at k0
    exact k0
abbrev sis_part : Stmt := topS 26
theorem sc_is_part : FnScope ["kind", "thing"] ["kind", "thing"] (defScope sis_part) := ⟨rfl, rfl, rfl, by decide +kernel, rfl, by decide +kernel, by decide +kernel⟩
theorem ok_is_part {f : Addr} {fd : FuncData} (F : Fun K "is_part" "is_part" sis_part f fd) (B : Bt mg) (c_is_above_zero : CalG P w K mg base 3 "is_above_zero" (spP K isAb)) (c_is_below_one : CalG P w K mg base 4 "is_below_one" (spP K isBl)) : FnG P w K mg base 5 f fd ["kind", "thing"] (spPart K) := by
  refine Fun.okG F sc_is_part (fun vs H Q E h => ?_) (fun cdv A outer s H vs Q E hg hr h => ?_)
  · obtain ⟨_, _, _, _, rfl, _⟩ := h
    rfl
  obtain ⟨kd, v, mu, d, rfl, hd, ho, k⟩ := h
  refine ⟨_, (pss_cons (ps_if (pt_cmpR op_eq (pv 0) pe_str (nomark _))
      (pss_one (ps_ret (pc c_is_above_zero hg hr (by decide) (by rfl) (pa_cons (pv 1) pa_nil))))
      pss_nil)
    (pss_cons (ps_if (pt_cmpR op_isN (pv 1) pe_non (nomark _))
      (pss_one (ps_ret pe_bl))
      pss_nil)
    (pss_one (ps_ret (pe_ifExp (pt_cmpR op_eq (pv 0) pe_str (nomark _)) (pc c_is_above_zero hg hr (by decide) (by rfl) (pa_cons (pv 1) pa_nil)) (pc c_is_below_one hg hr (by decide) (by rfl) (pa_cons (pv 1) pa_nil))))))), ?_⟩
  unfold partD at k
  refine ⟨_, rfl, rfl, _, rfl, iteP (fun e => ?_) fun e => ?_⟩
  · rw [if_pos (V.str.inj e)] at k
    exact ⟨_, rfl, v, mu, d, rfl, hd, ho, k⟩
  rw [if_neg (fun z => e (by rw [z]))] at k
  refine ⟨_, rfl, rfl, _, rfl, ?_⟩
  rw [dt_non hd]
  refine iteB (fun e => ?_) fun e => ?_
  · rw [if_pos e] at k
    exact k H (.refl H)
  rw [if_neg (by rw [e]; exact Bool.false_ne_true)] at k
  refine ⟨_, rfl, rfl, _, rfl, iteP (fun e => ?_) fun e => ?_⟩
  · rw [if_pos (V.str.inj e)] at k
    exact ⟨_, rfl, v, mu, d, rfl, hd, ho, k⟩
  · rw [if_neg (fun z => e (by rw [z]))] at k
    exact ⟨_, rfl, v, mu, d, rfl, hd, ho, k⟩
abbrev sis_thing : Stmt := topS 25
theorem sc_is_thing : FnScope ["thing", "kinds", "kind", "part"] ["thing"] (defScope sis_thing) := ⟨rfl, rfl, rfl, by decide +kernel, rfl, by decide +kernel, by decide +kernel⟩
theorem ok_is_thing {f : Addr} {fd : FuncData} {d0 : Addr} {es : Array DictEntry} {n : Nat} (F : Fun K "is_thing" "is_thing" sis_thing f fd) (B : Bt mg) (TA : mg "all" = none) (T : TPs K w mg d0 es n) (c_is_part : CalG P w K mg base 5 "is_part" (spPart K)) : FnG P w K mg base 6 f fd ["thing"] (spP K isTh) := by
  refine Fun.okG F sc_is_thing spP_len (fun cdv A outer s H vs Q E hg hr h => ?_)
  obtain ⟨v, mu, d, rfl, hd, ho, k⟩ := h
  refine ⟨_, (pss_cons (ps_if (PW.pt (pw_or (pt_not (pt_val (pe_callB call_isD (by rfl) B.isin bb_isin (pa_cons (pv 0) (pa_cons (pe_bltn (v := .ty "tuple") rfl B.tuple bb_tuple rfl) pa_nil))))) (pw_or (pt_cmpR op_eq (pe_callB call_lenA (by rfl) B.len boot_len (pa_cons (pv 0) pa_nil)) pe_int (nomark _)) (pw_or1 (pt_not (pt_val (pe_callB call_isD (by rfl) B.isin bb_isin (pa_cons (pe_ix ix_tup (pv 0) pe_int (fun _ _ => rfl)) (pa_cons (pe_bltn (v := .ty "str") rfl B.str bb_str rfl) pa_nil)))))))))
      (pss_one (ps_ret pe_bl))
      pss_nil)
    (pss_cons (ps_if (pt_cmpR (op_notIn_kd T.kd) (pe_ix ix_tup (pv 0) pe_int (fun _ _ => rfl)) (pe_glob (v := .ref d0) (by rfl) T.at_ rfl) (by rfl))
      (pss_one (ps_ret pe_bl))
      pss_nil)
    (pss_cons (ps_set (i := 1) sc_is_thing.nd rfl (Or.inl rfl) (pe_ix ix_kdict (pe_glob (v := .ref d0) (by rfl) T.at_ rfl) (pe_ix ix_tup (pv 0) pe_int (fun _ _ => rfl)) (fun _ _ => rfl)))
    (pss_one (ps_ret (pe_and (pe_cmpR op_eq (pe_callB call_lenA (by rfl) B.len boot_len (pa_cons (pv 0) pa_nil)) (pe_op op_add pe_int (pe_callB call_lenA (by rfl) B.len boot_len (pa_cons (pv 1) pa_nil))) (nomark _)) (pe_one (pe_callB (cr_all rfl) (by rfl) TA bb_all (pa_cons (pe_lc (own := [("kind", 2), ("part", 3)]) rfl sc_is_thing.nd (pi_zipA (by rfl) B.zip (pa_cons (pv 1) (pa_cons (pe_slice sl_tupA (pv 0) (po_some pe_int) po_none) pa_nil))) (blkOk_by (own := [("kind", 2), ("part", 3)]) (N := ["thing", "kinds", "kind", "part"]) (sc := (defScope sis_thing)) (by decide +kernel)) (fun _ _ _ _ _ => (pg_tupK (K := K) (hK := rfl) (n := 2) rfl (pgs_cons (pg_name (i := 2) sc_is_thing.nd rfl (Or.inl rfl)) (pgs_cons (pg_name (i := 3) sc_is_thing.nd rfl (Or.inl rfl)) pgs_nil)))) (fun _ _ _ _ _ => pts_nil) (fun _ _ _ _ _ => (pc c_is_part hg hr (by decide) (by rfl) (pa_cons (pv 2) (pa_cons (pv 3) pa_nil))))) pa_nil))))))))), ?_⟩
  refine ⟨_, rfl, _, "tuple", mu, d, rfl, by decide, hd, _, rfl, ?_⟩
  have k0 := k H (Same.refl H)
  refine iteN (fun ht => ?_) fun ht => ?_
  · have e : isTh d = false := by
      cases d <;> first | rfl | (simp [isT, tyName] at ht)
    rw [e] at k0
    exact iteT k0
  obtain ⟨ds, rfl⟩ := (isTup d).mp ht
  obtain ⟨a, xs, rfl, hS, hA⟩ := hd.tupAt
  have hl := hA.length
  refine ⟨_, rfl, _, xs.length, rfl, .inr ⟨_, hS, rfl⟩, rfl, _, rfl, iteEq (fun hn => ?_) fun hn => ?_⟩
  · have e : ds = [] := List.eq_nil_of_length_eq_zero (by omega)
    subst e
    exact k0
  cases hA with
  | nil => exact absurd rfl hn
  | @cons x xs' dw ps hx hxs =>
  refine ⟨_, rfl, a, _, 0, x, rfl, rfl, hS, atI_nat (j := 0) rfl, _, "str", mu, dw, rfl, by decide, hx, _, rfl, iteN (fun hs => ?_) fun hs => ?_⟩
  · have e : isTh (.tuple (dw :: ps)) = false := by
      cases dw <;> first | rfl | (simp [isT, tyName] at hs)
    rw [e] at k0
    exact k0
  obtain ⟨z, rfl⟩ := (isStr dw).mp hs
  cases hx
  rw [isTh_str] at k k0
  have hl' := hxs.length
  cases hz : thK z with
  | none =>
    rw [hz] at k k0
    have e := T.no z hz
    refine ⟨_, rfl, a, _, 0, _, rfl, rfl, hS, atI_nat (j := 0) rfl, z, none, rfl, rfl, e, _, rfl, iteT k0⟩
  | some ks =>
    rw [hz] at k k0
    dsimp only at k k0
    obtain ⟨t, e, ht⟩ := T.yes z ks hz
    have hk6 := th_len hz
    refine ⟨_, rfl, a, _, 0, _, rfl, rfl, hS, atI_nat (j := 0) rfl, z, _, rfl, rfl, e, _, rfl, iteF ?_⟩
    refine ⟨_, rfl, a, _, 0, _, rfl, rfl, hS, atI_nat (j := 0) rfl, d0, z, .ref t, rfl, rfl, ⟨es, n, _, T.kd.at_, T.kd.lit, e, rfl⟩, ?_⟩
    refine ⟨_, rfl, _, (V.str z :: xs').length, rfl, .inr ⟨_, hS, rfl⟩, _, rfl, _, (ks.map V.str).length, rfl, .inr ⟨_, KTup.sqT ht, rfl⟩, _, _, rfl, rfl, rfl, _, rfl, iteEq (fun h1 => ?_) fun h1 => ?_⟩
    rotate_left
    · have : ps.length ≠ ks.length := fun z => by
        rw [List.length_map, List.length_cons] at h1
        omega
      rw [decide_eq_false this, Bool.false_and] at k0
      exact k0
    have hlen : ps.length = ks.length := by
      rw [List.length_map, List.length_cons] at h1
      omega
    rw [decide_eq_true hlen, Bool.true_and] at k
    refine ⟨_, rfl, _, rfl, 1, rfl, ?_⟩
    dsimp only [tNoPart]
    refine slA_use hS fun p H1 s1 h1 => ?_
    rw [show (1 : Int) = ((1 : Nat) : Int) from rfl, cutV_from] at h1
    have h1 : SqT K H1 p xs' := h1
    have hxs1 := hxs.fut (.of_same (mu := mu) s1)
    have hk1 : SqT K H1 t (ks.map V.str) := KTup.sqT ht
    have lz : (ks.zip ps).length = ks.length := by rw [List.length_zip, hlen, Nat.min_self]
    refine ⟨t, p, ks.map V.str, xs', rfl, .inr ⟨hk1, h1, fun D nD => lc_it (walk_zipT (K := K) (a := t) (b := p) (xs := ks.map V.str) (ys := xs') (n := ks.length) (by rw [List.length_map]; omega)) (fun i H' => Same H1 H' ∧ H' D = some (.lst ((((ks.zip ps).take i).map fun q => partD q.1 q.2).map V.bl))) ?_ (fun i H' _ h => ⟨h.1.seqT hk1, h.1.seqT h1⟩) ?_ ?_⟩⟩
    · exact ⟨same_upd nD, by rw [upd_same]; rfl⟩
    · rintro i x' H2 H3 hi ⟨sm, hD⟩ ⟨T2, x2, y2, rfl, nT, rfl, hx2, hy2⟩
      have hx2 : (ks.map V.str)[i]? = some x2 := hx2
      have hy2 : xs'[i]? = some y2 := hy2
      obtain ⟨e2, he2, hye⟩ := hxs1.get hy2
      have hki : ks[i]? = some ks[i] := List.getElem?_eq_getElem hi
      rw [List.getElem?_map, hki] at hx2
      cases hx2
      have TD : T2 ≠ D := fun e => by
        rw [e, hD] at nT
        cases nT
      have sT := same_upd (o := .tup [.str ks[i], y2]) nT
      refine ⟨T2, _, rfl, .inl (.inl upd_same), rfl, _, _, rfl, _, _, rfl, rfl, rfl, ?_⟩
      have hD2 := sT _ _ hD
      have sm2 := sm.trans sT
      revert hD2 sm2
      generalize upd H2 T2 (.tup [.str ks[i], y2]) = H3
      intro hD2 sm2
      refine ⟨_, rfl, _, rfl, ks[i], y2, mu, e2, rfl, hye.fut (.of_same sm2), ho.inT (List.mem_cons_of_mem _ (List.mem_of_getElem? he2)), fun H4 s4 => ?_⟩
      refine ⟨_, s4 _ _ hD2, ?_, fun b o q => ?_, ?_⟩
      · rw [List.length_map, List.length_map, List.length_take]
        exact small1000 (by omega)
      · rw [upd_ne (ne_of_none q nD)]
        exact s4 _ _ (sm2 b o q)
      · have hz2 : (ks.zip ps)[i]? = some (ks[i], e2) := List.getElem?_zip_eq_some.mpr ⟨hki, he2⟩
        rw [upd_same, List.take_add_one, hz2, List.map_append, List.map_append]
        rfl
    · rintro H2 ⟨sm, hD⟩
      rw [List.take_of_length_le (by omega)] at hD
      refine ⟨D, _, rfl, .inl (.inl hD), ?_⟩
      have k1 := k H2 (s1.trans sm)
      have e : ∀ (ks : List Str) (ps : List PyData), ((ks.zip ps).map fun q => partD q.1 q.2).all id = ptsD ks ps := by
        intro ks
        induction ks with
        | nil =>
          intro ps
          cases ps <;> rfl
        | cons a l ih =>
          intro ps
          cases ps with
          | nil => rfl
          | cons b r =>
            rw [List.zip_cons_cons, List.map_cons, List.all_cons, ih r]
            rfl
      rw [e]
      exact k1
abbrev sis_round : Stmt := topS 22
theorem sc_is_round : FnScope ["thing", "worth", "money", "things", "pool", "one"] ["thing"] (defScope sis_round) := ⟨rfl, rfl, rfl, by decide +kernel, rfl, by decide +kernel, by decide +kernel⟩
theorem ok_is_round {f : Addr} {fd : FuncData} (F : Fun K "is_round" "is_round" sis_round f fd) (B : Bt mg) (TA : mg "all" = none) (TY : mg "any" = none) (c_is_above_zero : CalG P w K mg base 3 "is_above_zero" (spP K isAb)) (c_is_amount : CalG P w K mg base 3 "is_amount" (spP K isAmt)) (c_is_pool : CalG P w K mg base 5 "is_pool" (spP K isPool)) (c_is_thing : CalG P w K mg base 6 "is_thing" (spP K isTh)) : FnG P w K mg base 7 f fd ["thing"] (spP K isRd) := by
  refine Fun.okG F sc_is_round spP_len (fun cdv A outer s H vs Q E hg hr h => ?_)
  obtain ⟨v, mu, d, rfl, hd, ho, k⟩ := h
  refine ⟨_, (pss_cons (ps_if (PW.pt (pw_or (pt_not (pt_val (pe_callB call_isD (by rfl) B.isin bb_isin (pa_cons (pv 0) (pa_cons (pe_bltn (v := .ty "tuple") rfl B.tuple bb_tuple rfl) pa_nil))))) (pw_or1 (pt_cmpR op_ne (pe_callB call_lenA (by rfl) B.len boot_len (pa_cons (pv 0) pa_nil)) pe_int (nomark _)))))
      (pss_one (ps_ret pe_bl))
      pss_nil)
    (pss_cons (ps_asg (pv 0) (pg_tup (n := 4) rfl (pgs_cons (pg_name (i := 1) sc_is_round.nd rfl (Or.inl rfl)) (pgs_cons (pg_name (i := 2) sc_is_round.nd rfl (Or.inl rfl)) (pgs_cons (pg_name (i := 3) sc_is_round.nd rfl (Or.inl rfl)) (pgs_cons (pg_name (i := 4) sc_is_round.nd rfl (Or.inl rfl)) pgs_nil))))))
    (pss_cons (ps_if (PW.pt (pw_or (pt_not (pt_val (pc c_is_above_zero hg hr (by decide) (by rfl) (pa_cons (pv 1) pa_nil)))) (pw_or (pt_not (pt_val (pc c_is_amount hg hr (by decide) (by rfl) (pa_cons (pv 2) pa_nil)))) (pw_or1 (pt_not (pt_val (pc c_is_pool hg hr (by decide) (by rfl) (pa_cons (pv 4) pa_nil))))))))
      (pss_one (ps_ret pe_bl))
      pss_nil)
    (pss_cons (ps_if (PW.pt (pw_or (pt_not (pt_val (pe_callB call_isD (by rfl) B.isin bb_isin (pa_cons (pv 3) (pa_cons (pe_bltn (v := .ty "tuple") rfl B.tuple bb_tuple rfl) pa_nil))))) (pw_or1 (pt_not (pt_val (pe_callB (cr_all rfl) (by rfl) TA bb_all (pa_cons (pe_lc (own := [("one", 5)]) rfl sc_is_round.nd (pi_tup (pv 3)) (blkOk_by (own := [("one", 5)]) (N := ["thing", "worth", "money", "things", "pool", "one"]) (sc := (defScope sis_round)) (by decide +kernel)) (fun _ _ _ _ _ => (pg_name (i := 5) sc_is_round.nd rfl (Or.inl rfl))) (fun _ _ _ _ _ => pts_nil) (fun _ _ _ _ _ => (pc c_is_thing hg hr (by decide) (by rfl) (pa_cons (pv 5) pa_nil)))) pa_nil)))))))
      (pss_one (ps_ret pe_bl))
      pss_nil)
    (pss_one (ps_ret (pe_callB (cr_any rfl) (by rfl) TY bb_any (pa_cons (pe_lc (own := [("one", 5)]) rfl sc_is_round.nd (pi_tup (pv 3)) (blkOk_by (own := [("one", 5)]) (N := ["thing", "worth", "money", "things", "pool", "one"]) (sc := (defScope sis_round)) (by decide +kernel)) (fun _ _ _ _ _ => (pg_name (i := 5) sc_is_round.nd rfl (Or.inl rfl))) (fun _ _ _ _ _ => pts_nil) (fun _ _ _ _ _ => (pe_cmpR op_eq (pe_ix (ix_tupK (K := K) rfl) (pv 5) pe_int (fun _ _ => rfl)) pe_str (nomark _)))) pa_nil)))))))), ?_⟩
  refine ⟨_, rfl, _, "tuple", mu, d, rfl, by decide, hd, _, rfl, ?_⟩
  have k0 := k H (Same.refl H)
  refine iteN (fun ht => ?_) fun ht => ?_
  · have e : isRd d = false := by
      cases d <;> first | rfl | (simp [isT, tyName] at ht)
    rw [e] at k0
    exact iteT k0
  obtain ⟨ds, rfl⟩ := (isTup d).mp ht
  obtain ⟨a, xs, rfl, hS, hA⟩ := hd.tupAt
  have hl := hA.length
  refine ⟨_, rfl, _, xs.length, rfl, .inr ⟨_, hS, rfl⟩, rfl, _, rfl, iteNe (fun hn => ?_) fun hn => ?_⟩
  · have e : isRd (.tuple ds) = false := by
      match ds, hl with
      | [], _ => rfl
      | [_], _ => rfl
      | [_, _], _ => rfl
      | [_, _, _], _ => rfl
      | [_, _, _, _], hl => exact absurd (by rw [hl]; rfl) hn
      | _ :: _ :: _ :: _ :: _ :: _, _ => rfl
    rw [e] at k0
    exact k0
  obtain ⟨x1, x2, x3, x4, d1, d2, d3, d4, rfl, rfl, r1, r2, r3, r4⟩ : ∃ x1 x2 x3 x4 d1 d2 d3 d4, xs = [x1, x2, x3, x4] ∧ ds = [d1, d2, d3, d4] ∧ Dt K mu H x1 d1 ∧ Dt K mu H x2 d2 ∧ Dt K mu H x3 d3 ∧ Dt K mu H x4 d4 := by
    cases hA with
    | nil => exact absurd hn (by simp)
    | cons r1 hA => cases hA with
      | nil => exact absurd hn (by simp)
      | cons r2 hA => cases hA with
        | nil => exact absurd hn (by simp)
        | cons r3 hA => cases hA with
          | nil => exact absurd hn (by simp)
          | cons r4 hA => cases hA with
            | nil => exact ⟨_, _, _, _, _, _, _, _, rfl, rfl, r1, r2, r3, r4⟩
            | cons _ _ => exact absurd hn (by simp only [List.length_cons]; omega)
  have e : isRd (.tuple [d1, d2, d3, d4]) = (isAb d1 && isAmt d2 && isPool d4 && isThs d3) := rfl
  rw [e] at k
  refine ⟨_, rfl, a, _, rfl, hS, rfl, _, _, rfl, _, _, rfl, _, _, rfl, _, _, rfl, rfl, ?_⟩
  refine ⟨_, rfl, x1, mu, d1, rfl, r1, ho.inT (by simp), fun H1 s1 => ⟨_, rfl, iteN (fun h1 => ?_) fun h1 => ?_⟩⟩
  · have kk := k H1 s1
    rw [h1, Bool.false_and, Bool.false_and, Bool.false_and] at kk
    exact kk
  refine ⟨_, rfl, x2, mu, d2, rfl, r2.fut (.of_same s1), ho.inT (by simp), fun H2 s2 => ⟨_, rfl, iteN (fun h2 => ?_) fun h2 => ?_⟩⟩
  · have kk := k H2 (s1.trans s2)
    rw [h1, h2, Bool.true_and, Bool.false_and, Bool.false_and] at kk
    exact kk
  have s12 := s1.trans s2
  refine ⟨_, rfl, x4, mu, d4, rfl, r4.fut (.of_same s12), ho.inT (by simp), fun H3 s3 => ⟨_, rfl, iteN (fun h3 => ?_) fun h3 => ?_⟩⟩
  · have kk := k H3 (s12.trans s3)
    rw [h1, h2, h3, Bool.true_and, Bool.true_and, Bool.false_and] at kk
    exact kk
  have s13 := s12.trans s3
  rw [h1, h2, h3, Bool.true_and, Bool.true_and, Bool.true_and] at k
  have r3' := r3.fut (.of_same (mu := mu) s13)
  have o3 : Ok d3 := ho.inT (by simp)
  refine ⟨_, rfl, _, "tuple", mu, d3, rfl, by decide, r3', _, rfl, iteN (fun ht3 => ?_) fun ht3 => ?_⟩
  · have e : isThs d3 = false := by
      cases d3 <;> first | rfl | (simp [isT, tyName] at ht3)
    have kk := k H3 s13
    rw [e] at kk
    exact iteT kk
  obtain ⟨es, rfl⟩ := (isTup d3).mp ht3
  obtain ⟨b, ys, rfl, hS3, hA3⟩ := r3'.tupAt
  have hl3 := hA3.length
  have hw := len_wt es
  have hw2 : PyData.weightAll es ≤ 27000 := o3.wt
  have sl := sizeLine_eq
  have e3 : isThs (.tuple es) = (es.all isTh && es.any isSh) := rfl
  rw [e3] at k
  refine ⟨_, rfl, b, rfl, ⟨ys, hS3⟩, fun D nD => lc_it (walk_tup (K := K) (xs := ys) (a := b)) (fun i H' => Same H3 H' ∧ H' D = some (.lst (((es.take i).map isTh).map V.bl))) ?_ (fun i H' _ h => h.1.seqT hS3) ?_ ?_⟩
  · exact ⟨same_upd nD, by rw [upd_same]; rfl⟩
  · rintro i x H4 H5 hi ⟨sm, hD⟩ ⟨rfl, hx⟩
    obtain ⟨e, he, hxe⟩ := hA3.get hx
    refine ⟨rfl, _, rfl, x, mu, e, rfl, hxe.fut (.of_same sm), o3.inT (List.mem_of_getElem? he), fun H6 s6 => ?_⟩
    refine ⟨_, s6 _ _ hD, ?_, fun b o z => ?_, ?_⟩
    · rw [List.length_map, List.length_map, List.length_take]
      omega
    · rw [upd_ne (ne_of_none z nD)]
      exact s6 _ _ (sm b o z)
    · rw [upd_same, List.take_add_one, he, List.map_append, List.map_append]
      rfl
  · rintro H4 ⟨sm, hD⟩
    rw [List.take_of_length_le (by omega)] at hD
    refine ⟨D, (es.map isTh), rfl, .inl (.inl hD), ?_⟩
    rw [List.all_map, show (id ∘ isTh) = isTh from rfl]
    have s14 := s13.trans sm
    refine ⟨_, rfl, iteN (fun hall => ?_) fun hall => ?_⟩
    · have kk := k H4 s14
      rw [hall, Bool.false_and] at kk
      exact kk
    rw [hall, Bool.true_and] at k
    have hS4 := sm.seqT hS3
    have hA4 := hA3.fut (.of_same (mu := mu) sm)
    refine ⟨_, rfl, b, rfl, ⟨ys, hS4⟩, fun D2 nD2 => lc_it (walk_tup (K := K) (xs := ys) (a := b)) (fun i H' => Same H4 H' ∧ H' D2 = some (.lst (((es.take i).map isSh).map V.bl))) ?_ (fun i H' _ h => h.1.seqT hS4) ?_ ?_⟩
    · exact ⟨same_upd nD2, by rw [upd_same]; rfl⟩
    · rintro i x H5 H6 hi ⟨sm2, hD2⟩ ⟨rfl, hx⟩
      obtain ⟨e, he, hxe⟩ := hA4.get hx
      have hth : isTh e = true := List.all_eq_true.mp hall e (List.mem_of_getElem? he)
      obtain ⟨z, ps, rfl⟩ : ∃ z ps, e = .tuple (.str z :: ps) := by
        unfold isTh at hth
        split at hth
        · exact ⟨_, _, rfl⟩
        · cases hth
      obtain ⟨c, zs, rfl, hSc, hAc⟩ := (hxe.fut (.of_same (mu := mu) sm2)).tupAt
      cases hAc with
      | cons rc hAc' =>
        cases rc
        refine ⟨rfl, _, rfl, c, _, 0, .str z, rfl, rfl, hSc, atI_nat (j := 0) rfl, rfl, _, hD2, ?_, fun b o z => ?_, ?_⟩
        · rw [List.length_map, List.length_map, List.length_take]
          omega
        · rw [upd_ne (ne_of_none z nD2)]
          exact sm2 b o z
        · rw [upd_same, List.take_add_one, he, List.map_append, List.map_append]
          have ez : isSh (.tuple (.str z :: ps)) = decide (V.str z = V.str "shares") := by
            show decide (z = "shares") = _
            rw [decide_eq_decide]
            exact ⟨fun e => by rw [e], V.str.inj⟩
          show _ = some (HO.lst (_ ++ [V.bl (isSh (.tuple (.str z :: ps)))]))
          rw [ez]
    · rintro H5 ⟨sm2, hD2⟩
      rw [List.take_of_length_le (by omega)] at hD2
      refine ⟨D2, (es.map isSh), rfl, .inl (.inl hD2), ?_⟩
      have k1 := k H5 (s14.trans sm2)
      rw [List.any_map, show (id ∘ isSh) = isSh from rfl]
      exact k1
end
end K49
namespace K49
open PySem PySem.Spec PyProof.Rows L2 Sw StX RZ
theorem valP {kvs : List (Key × V)} {k k2 : Key} {v : V} (h : k2 = k) : valV ((k2, v) :: kvs) k = some v := valV_pos h
def szT : List (Key × V) := [(.inr "shares", .int 2), (.inr "kept", .int 3), (.inr "weighed", .int 4)]
theorem th_sz (z : Str) (hz : z ≠ "note") : (valV szT (.inr z) = none ∧ thK z = none) ∨ ∃ m : Nat, valV szT (.inr z) = some (.int ((m : Int) + 1)) ∧ thK z = some (List.replicate m ("above" : Str)) := by
  have no : ∀ {x : Str}, z ≠ x → ¬ (Sum.inr x : Key) = Sum.inr z := fun h e => h (Sum.inr.inj e).symm
  have nb : ∀ {x : Str}, z ≠ x → (z == x) = false := fun h => beq_eq_false_iff_ne.mpr h
  by_cases h1 : z = "shares"
  · subst h1
    exact .inr ⟨1, valV_pos rfl, by decide +kernel⟩
  by_cases h2 : z = "kept"
  · subst h2
    exact .inr ⟨2, (valV_neg (no h1)).trans (valV_pos rfl), by decide +kernel⟩
  by_cases h3 : z = "weighed"
  · subst h3
    exact .inr ⟨3, (valV_neg (no h1)).trans ((valV_neg (no h2)).trans (valV_pos rfl)), by decide +kernel⟩
  refine .inl ⟨(valV_neg (no h1)).trans ((valV_neg (no h2)).trans ((valV_neg (no h3)).trans rfl)), ?_⟩
  unfold thK thT
  rw [List.lookup_cons, nb h1]
  show List.lookup z _ = none
  rw [List.lookup_cons, nb hz]
  show List.lookup z _ = none
  rw [List.lookup_cons, nb h2]
  show List.lookup z _ = none
  rw [List.lookup_cons, nb h3]
  rfl
theorem pts_ab : ∀ ps : List PyData, ptsD (List.replicate ps.length ("above" : Str)) ps = ps.all isAb
  | [] => rfl
  | p :: ps => by
    show (isAb p && ptsD (List.replicate ps.length ("above" : Str)) ps) = _
    rw [pts_ab ps]
    rfl
theorem th_note (ps : List PyData) : isTh (.tuple (.str "note" :: ps)) = (decide (ps.length = 3) && ptsD ["above", "cap", "discount"] ps) := rfl
section
variable {P : Program} {w : World} {K : PySem.W.Frag} {mg : Str → Option Value} {base : Heap}
abbrev s_law_is_above : Stmt := topS 58
theorem sc__law_is_above : FnScope ["thing"] ["thing"] (defScope s_law_is_above) := ⟨rfl, rfl, rfl, by decide +kernel, rfl, by decide +kernel, by decide +kernel⟩
theorem ok__law_is_above {f : Addr} {fd : FuncData} (F : Fun K "_law_is_above" "_law_is_above" s_law_is_above f fd) (B : Bt mg) (c__law_is_fraction : CalG P w K mg base 2 "_law_is_fraction" (spP K isFrac)) : FnG P w K mg base 3 f fd ["thing"] (spP K isAb) := by
  refine Fun.okG F sc__law_is_above spP_len (fun cdv A outer s H vs Q E hg hr h => ?_)
  obtain ⟨v, mu, d, rfl, hd, ho, k⟩ := h
  refine ⟨_, (pss_one (ps_ret (pe_and (pc c__law_is_fraction hg hr (by decide) (by rfl) (pa_cons (pv 0) pa_nil)) (pe_one (pe_cmpR op_gt (pe_ix ix_tup (pv 0) pe_int (fun _ _ => rfl)) pe_int (nomark _)))))), ?_⟩
  refine ⟨v, rfl, v, mu, d, rfl, hd, ho, fun H1 s1 => ⟨_, rfl, iteB (fun h1 => ?_) fun h1 => ?_⟩⟩
  · have k1 := k H1 s1
    obtain ⟨n, m, rfl⟩ : ∃ n m, d = .tuple [.int n, .int m] := by
      unfold isFrac at h1
      split at h1
      · exact ⟨_, _, rfl⟩
      · cases h1
    · obtain ⟨a, xs, rfl, hS, hA⟩ := (hd.fut (.of_same s1)).tupAt
      obtain ⟨x, y, d1, d2, rfl, e2, r1, r2⟩ := hA.two rfl
      injection e2 with e3 e4
      injection e4 with e4 _
      subst e3 e4
      cases r1
      refine ⟨_, rfl, a, _, 0, .int n, rfl, rfl, hS, atI_nat (j := 0) rfl, _, _, rfl, rfl, ?_⟩
      have e : isAb (.tuple [.int n, .int m]) = (isFrac (.tuple [.int n, .int m]) && decide (0 < n)) := rfl
      rw [e, h1, Bool.true_and] at k1
      exact k1
  · have k1 := k H1 s1
    have e : isAb d = false := by
      unfold isAb
      split
      · rw [h1, Bool.false_and]
      · rfl
    rw [e] at k1
    exact k1

abbrev s_law_is_part : Stmt := topS 59
theorem sc__law_is_part : FnScope ["thing"] ["thing"] (defScope s_law_is_part) := ⟨rfl, rfl, rfl, by decide +kernel, rfl, by decide +kernel, by decide +kernel⟩
theorem ok__law_is_part {f : Addr} {fd : FuncData} (F : Fun K "_law_is_part" "_law_is_part" s_law_is_part f fd) (B : Bt mg) (c__law_is_fraction : CalG P w K mg base 2 "_law_is_fraction" (spP K isFrac)) : FnG P w K mg base 3 f fd ["thing"] (spP K isBl) := by
  refine Fun.okG F sc__law_is_part spP_len (fun cdv A outer s H vs Q E hg hr h => ?_)
  obtain ⟨v, mu, d, rfl, hd, ho, k⟩ := h
  refine ⟨_, (pss_one (ps_ret (pe_and (pc c__law_is_fraction hg hr (by decide) (by rfl) (pa_cons (pv 0) pa_nil)) (pe_one (pe_chain op_le op_lt pe_int (pe_ix ix_tup (pv 0) pe_int (fun _ _ => rfl)) (pe_ix ix_tup (pv 0) pe_int (fun _ _ => rfl))))))), ?_⟩
  refine ⟨v, rfl, v, mu, d, rfl, hd, ho, fun H1 s1 => ⟨_, rfl, iteB (fun h1 => ?_) fun h1 => ?_⟩⟩
  · have k1 := k H1 s1
    obtain ⟨n, m, rfl⟩ : ∃ n m, d = .tuple [.int n, .int m] := by
      unfold isFrac at h1
      split at h1
      · exact ⟨_, _, rfl⟩
      · cases h1
    · obtain ⟨a, xs, rfl, hS, hA⟩ := (hd.fut (.of_same s1)).tupAt
      obtain ⟨x, y, d1, d2, rfl, e2, r1, r2⟩ := hA.two rfl
      injection e2 with e3 e4
      injection e4 with e4 _
      subst e3 e4
      cases r1
      cases r2
      rw [isBl_eq, isAmt_eq, h1, Bool.true_and] at k1
      refine ⟨_, rfl, a, _, 0, .int n, rfl, rfl, hS, atI_nat (j := 0) rfl, _, _, rfl, rfl, _, rfl, iteP (fun h2 => ?_) fun h2 => ?_⟩
      · rw [decide_eq_true h2, Bool.true_and] at k1
        exact ⟨_, rfl, a, _, 1, .int m, rfl, rfl, hS, atI_nat (j := 1) rfl, _, _, rfl, rfl, k1⟩
      · rw [decide_eq_false h2, Bool.false_and] at k1
        exact k1
  · have k1 := k H1 s1
    have e : isBl d = false := by
      unfold isBl
      split
      · rw [isAmt_eq, h1, Bool.false_and, Bool.false_and]
      · rfl
    rw [e] at k1
    exact k1
abbrev s_law_is_thing : Stmt := topS 60
theorem sc__law_is_thing : FnScope ["thing", "size", "one"] ["thing"] (defScope s_law_is_thing) := ⟨rfl, rfl, rfl, by decide +kernel, rfl, by decide +kernel, by decide +kernel⟩
theorem ok__law_is_thing {f : Addr} {fd : FuncData} (F : Fun K "_law_is_thing" "_law_is_thing" s_law_is_thing f fd) (B : Bt mg) (c__law_is_above : CalG P w K mg base 3 "_law_is_above" (spP K isAb)) (c__law_is_part : CalG P w K mg base 3 "_law_is_part" (spP K isBl)) : FnG P w K mg base 4 f fd ["thing"] (spP K isTh) := by
  refine Fun.okG F sc__law_is_thing spP_len (fun cdv A outer s H vs Q E hg hr h => ?_)
  obtain ⟨v, mu, d, rfl, hd, ho, k⟩ := h
  have hu := Room.u64 hr
  have hu1 : (A.deeper (envOfC "_law_is_thing" (defScope s_law_is_thing) s.heap.objs.size f cdv)).units + 1 < cLine := by omega
  refine ⟨_, (pss_cons (ps_if (PW.pt (pw_or (pt_not (pt_val (pe_callB call_isD (by rfl) B.isin bb_isin (pa_cons (pv 0) (pa_cons (pe_bltn (v := .ty "tuple") rfl B.tuple bb_tuple rfl) pa_nil))))) (pw_or (pt_cmpR (op_eqNilT (K := K) rfl hu) (pv 0) (pe_tup pa_nil) (nomark _)) (pw_or1 (pt_not (pt_val (pe_callB call_isD (by rfl) B.isin bb_isin (pa_cons (pe_ix ix_tup (pv 0) pe_int (fun _ _ => rfl)) (pa_cons (pe_bltn (v := .ty "str") rfl B.str bb_str rfl) pa_nil)))))))))
      (pss_one (ps_ret pe_bl))
      pss_nil)
    (pss_cons (ps_if (pt_cmpR op_eq (pe_ix ix_tup (pv 0) pe_int (fun _ _ => rfl)) pe_str (nomark _))
      (pss_cons (ps_if (PW.pt (pw_or (pt_cmpR op_ne (pe_callB call_lenA (by rfl) B.len boot_len (pa_cons (pv 0) pa_nil)) pe_int (nomark _)) (pw_or (pt_not (pt_val (pc c__law_is_above hg hr (by decide) (by rfl) (pa_cons (pe_ix ix_tup (pv 0) pe_int (fun _ _ => rfl)) pa_nil)))) (pw_or1 (PW.pt (pw_and (pt_cmpR op_notN (pe_ix ix_tup (pv 0) pe_int (fun _ _ => rfl)) pe_non (nomark _)) (pw_and1 (pt_not (pt_val (pc c__law_is_above hg hr (by decide) (by rfl) (pa_cons (pe_ix ix_tup (pv 0) pe_int (fun _ _ => rfl)) pa_nil)))))))))))
        (pss_one (ps_ret pe_bl))
        pss_nil)
      (pss_one (ps_ret (pe_or (pe_cmpR op_isN (pe_ix ix_tup (pv 0) pe_int (fun _ _ => rfl)) pe_non (nomark _)) (pe_one (pc c__law_is_part hg hr (by decide) (by rfl) (pa_cons (pe_ix ix_tup (pv 0) pe_int (fun _ _ => rfl)) pa_nil)))))))
      pss_nil)
    (pss_cons (ps_set (i := 1) sc__law_is_thing.nd rfl (Or.inl rfl) (pe_dget2 hu1 (pe_disp (pps_cons pe_str pe_int (pps_cons pe_str pe_int (pps_cons pe_str pe_int pps_nil))) rfl rfl (fun z => nomatch z) (by decide)) (pe_ix ix_tup (pv 0) pe_int (fun _ _ => rfl)) pe_int ⟨rfl, rfl, rfl, rfl⟩))
    (pss_one (ps_ret (pe_and (pe_cmpR op_eq (pe_callB call_lenA (by rfl) B.len boot_len (pa_cons (pv 0) pa_nil)) (pv 1) (nomark _)) (pe_one (pe_cmpR (op_eqNil (K := K) rfl hu) (pe_lc (own := [("one", 2)]) rfl sc__law_is_thing.nd (pi_tup (pe_slice sl_tupA (pv 0) (po_some pe_int) po_none)) (blkOk_by (own := [("one", 2)]) (N := ["thing", "size", "one"]) (sc := (defScope s_law_is_thing)) (by decide +kernel)) (fun _ _ _ _ _ => (pg_name (i := 2) sc__law_is_thing.nd rfl (Or.inl rfl))) (fun _ _ _ _ _ => (pts_one (pt_not (pt_val (pc c__law_is_above hg hr (by decide) (by rfl) (pa_cons (pv 2) pa_nil)))))) (fun _ _ _ _ _ => (pv 2))) (pe_lst pa_nil) (nomark _))))))))), ?_⟩
  refine ⟨_, rfl, _, "tuple", mu, d, rfl, by decide, hd, _, rfl, ?_⟩
  have k0 := k H (Same.refl H)
  refine iteN (fun ht => ?_) fun ht => ?_
  · have e : isTh d = false := by
      cases d <;> first | rfl | (simp [isT, tyName] at ht)
    rw [e] at k0
    exact k0
  obtain ⟨ds, rfl⟩ := (isTup d).mp ht
  obtain ⟨a, xs, rfl, hS, hA⟩ := hd.tupAt
  refine ⟨_, rfl, Nat.zero_le _, fun q nq => ?_⟩
  have s0 := same_upd (o := .tup []) nq
  have hS0 := s0.seqT hS
  have hA0 := hA.fut (.of_same (mu := mu) s0)
  have k1 := fun H2 s2 => k H2 (s0.trans s2)
  have hq0 : SqT K (upd H q (.tup [])) q [] := .of upd_same
  revert hS0 hA0 k1 hq0
  generalize upd H q (.tup []) = H0
  intro hS0 hA0 k1 hq0
  refine ⟨a, q, xs, rfl, rfl, hS0, hq0, _, rfl, iteP (fun hn => ?_) fun hn => ?_⟩
  · subst hn
    cases hA
    exact k1 H0 (.refl H0)
  cases hA0 with
  | nil => exact absurd rfl hn
  | @cons x xs' dw ps hx hxs =>
  clear hA hS k k0
  refine ⟨_, rfl, a, _, 0, x, rfl, rfl, hS0, atI_nat (j := 0) rfl, _, "str", mu, dw, rfl, by decide, hx, _, rfl, iteN (fun hs => ?_) fun hs => ?_⟩
  · have kk := k1 H0 (.refl H0)
    have e : isTh (.tuple (dw :: ps)) = false := by
      cases dw <;> first | rfl | (simp [isT, tyName] at hs)
    rw [e] at kk
    exact kk
  obtain ⟨z, rfl⟩ := (isStr dw).mp hs
  cases hx
  rw [isTh_str] at k1
  have hl' := hxs.length
  refine ⟨_, rfl, a, _, 0, _, rfl, rfl, hS0, atI_nat (j := 0) rfl, rfl, _, rfl, iteP (fun e => ?_) fun e1 => ?_⟩
  · cases e
    have k1 : ∀ H2, Same H0 H2 → Q (.bl (decide (ps.length = 3) && ptsD ["above", "cap", "discount"] ps)) H2 := k1
    have il : ((V.str "note" :: xs').length : Int) = 4 ↔ ps.length = 3 := by
      rw [List.length_cons]
      omega
    refine ⟨_, rfl, _, (V.str "note" :: xs').length, rfl, .inr ⟨_, hS0, rfl⟩, rfl, _, rfl, iteNe (fun hn => ?_) fun hn => ?_⟩
    · have kk := k1 H0 (.refl H0)
      rw [decide_eq_false (fun z => hn (il.mpr z)), Bool.false_and] at kk
      exact kk
    obtain ⟨x, y, z, d1, d2, d3, rfl, rfl, r1, r2, r3⟩ := hxs.three (il.mp hn)
    have e3 : (decide ([d1, d2, d3].length = 3) && ptsD ["above", "cap", "discount"] [d1, d2, d3]) = (isAb d1 && ((if isNon d2 = true then true else isAb d2) && (if isNon d3 = true then true else isBl d3))) := by
      show (true && (isAb d1 && ((if isNon d2 = true then true else isAb d2) && ((if isNon d3 = true then true else isBl d3) && true)))) = _
      rw [Bool.true_and, Bool.and_true]
    rw [e3] at k1
    refine ⟨_, rfl, a, _, 1, x, rfl, rfl, hS0, atI_nat (j := 1) rfl, x, mu, d1, rfl, r1, ho.inT (by simp), fun H1 s1 => ⟨_, rfl, iteN (fun h1 => ?_) fun h1 => ?_⟩⟩
    · have kk := k1 H1 s1
      rw [h1, Bool.false_and] at kk
      exact kk
    rw [h1, Bool.true_and] at k1
    have hS1 := s1.seqT hS0
    have hS1 := s1.seqT hS0
    refine ⟨_, rfl, a, _, 2, y, rfl, rfl, hS1, atI_nat (j := 2) rfl, rfl, _, rfl, ?_⟩
    rw [dt_non r2]
    refine iteN (fun h2 => ?_) fun h2 => ?_
    · rw [if_neg (by rw [h2]; exact Bool.false_ne_true)] at k1
      refine ⟨_, rfl, a, _, 2, y, rfl, rfl, hS1, atI_nat (j := 2) rfl, y, mu, d2, rfl, r2.fut (.of_same s1), ho.inT (by simp), fun H2 s2 => ⟨_, rfl, iteN (fun h3 => ?_) fun h3 => ?_⟩⟩
      · have kk := k1 H2 (s1.trans s2)
        rw [h3, Bool.false_and] at kk
        exact kk
      · rw [h3, Bool.true_and] at k1
        have s12 := s1.trans s2
        have hS2 := s12.seqT hS0
        have r3' := r3.fut (.of_same (mu := mu) s12)
        refine ⟨_, rfl, a, _, 3, z, rfl, rfl, hS2, atI_nat (j := 3) rfl, rfl, _, rfl, ?_⟩
        rw [dt_non r3]
        refine iteB (fun h4 => ?_) fun h4 => ?_
        · have kk := k1 H2 s12
          rw [if_pos h4] at kk
          exact kk
        · rw [if_neg (by rw [h4]; exact Bool.false_ne_true)] at k1
          exact ⟨_, rfl, a, _, 3, z, rfl, rfl, hS2, atI_nat (j := 3) rfl, z, mu, d3, rfl, r3', ho.inT (by simp), fun H4 s4 => k1 H4 (s12.trans s4)⟩
    · rw [if_pos h2, Bool.true_and] at k1
      have hS2 := s1.seqT hS0
      have r3' := r3.fut (.of_same (mu := mu) s1)
      refine ⟨_, rfl, a, _, 3, z, rfl, rfl, hS2, atI_nat (j := 3) rfl, rfl, _, rfl, ?_⟩
      rw [dt_non r3]
      refine iteB (fun h4 => ?_) fun h4 => ?_
      · have kk := k1 H1 s1
        rw [if_pos h4] at kk
        exact kk
      · rw [if_neg (by rw [h4]; exact Bool.false_ne_true)] at k1
        exact ⟨_, rfl, a, _, 3, z, rfl, rfl, hS2, atI_nat (j := 3) rfl, z, mu, d3, rfl, r3', ho.inT (by simp), fun H4 s4 => k1 H4 (s1.trans s4)⟩
  have hz : z ≠ "note" := fun y => e1 (by rw [y])
  have il : ((V.str z :: xs').length : Int) = (ps.length : Int) + 1 := by
    rw [List.length_cons, hl']
    omega
  refine fun p np => ⟨upd_same, [(.inr "shares", .int 2), (.inr "kept", .int 3), (.inr "weighed", .int 4)], rfl, (show 3 ≤ 15 by decide), p, rfl, ?_⟩
  rw [show mergeK [] [(.inr "shares", .int 2), (.inr "kept", .int 3), (.inr "weighed", .int 4)] = szT from rfl]
  have s5 : Same H0 (upd (upd H0 p (.dK [])) p (.dK szT)) := fun b o e => by
    rw [upd_ne (ne_of_none e np), upd_ne (ne_of_none e np)]
    exact e
  have hp5 : (upd (upd H0 p (.dK [])) p (.dK szT)) p = some (.dK szT) := upd_same
  revert s5 hp5
  generalize upd (upd H0 p (.dK [])) p (.dK szT) = H5
  intro s5 hp5
  have hS5 := s5.seqT hS0
  have hxs5 := hxs.fut (.of_same (mu := mu) s5)
  have k5 := fun H2 s2 => k1 H2 (s5.trans s2)
  refine ⟨.inl ⟨_, .inl hp5⟩, _, rfl, a, _, 0, _, rfl, rfl, hS5, atI_nat (j := 0) rfl, ?_⟩
  rcases th_sz z hz with ⟨e, e2⟩ | ⟨m, e, e2⟩
  · refine ⟨none, .inl ⟨_, .inr z, .inl hp5, rfl, e.symm⟩, ?_⟩
    have kk := k5 H5 (.refl H5)
    rw [e2] at kk
    refine ⟨_, rfl, _, (V.str z :: xs').length, rfl, .inr ⟨_, hS5, rfl⟩, _, rfl, rfl, ?_⟩
    exact ⟨_, rfl, iteEq (fun h => absurd h (by rw [il]; omega)) fun _ => kk⟩
  refine ⟨_, .inl ⟨_, .inr z, .inl hp5, rfl, e.symm⟩, ?_⟩
  rw [e2] at k5
  have k5 : ∀ H2, Same H5 H2 → Q (.bl (decide (ps.length = (List.replicate m ("above" : Str)).length) && ptsD (List.replicate m ("above" : Str)) ps)) H2 := k5
  rw [List.length_replicate] at k5
  refine ⟨_, rfl, _, (V.str z :: xs').length, rfl, .inr ⟨_, hS5, rfl⟩, _, rfl, rfl, ?_⟩
  refine ⟨_, rfl, iteEq (fun hm => ?_) fun hm => ?_⟩
  rotate_left
  · have kk := k5 H5 (.refl H5)
    rw [decide_eq_false (fun y => hm (by rw [il, y])), Bool.false_and] at kk
    exact kk
  have hlen : ps.length = m := by rw [il] at hm; omega
  rw [decide_eq_true hlen, Bool.true_and, ← hlen, pts_ab] at k5
  refine ⟨_, rfl, 1, rfl, ?_⟩
  dsimp only [tNoPart]
  refine slA_use hS5 fun t H6 s6 h6 => ?_
  rw [show (1 : Int) = ((1 : Nat) : Int) from rfl, cutV_from] at h6
  have h6 : SqT K H6 t xs' := h6
  have hxs6 := hxs5.fut (.of_same (mu := mu) s6)
  have hw := len_wt (PyData.str z :: ps)
  have hw2 : PyData.weightAll (PyData.str z :: ps) ≤ 27000 := ho.wt
  have sl := sizeLine_eq
  rw [List.length_cons] at hw
  refine ⟨t, rfl, ⟨xs', h6⟩, fun D nD => lc_it (walk_tup (K := K) (xs := xs') (a := t)) (fun i H' => Same H6 H' ∧ ∃ ws, H' D = some (.lst ws) ∧ ws.length ≤ i ∧ (ws = [] ↔ (ps.take i).all isAb = true)) ?_ (fun i H' _ h => h.1.seqT h6) ?_ ?_⟩
  · exact ⟨same_upd nD, [], upd_same, Nat.le_refl _, by simp⟩
  · rintro i x H7 H8 hi ⟨sm, ws, hD, hwl, hall⟩ ⟨rfl, hx2⟩
    obtain ⟨e3, he2, hxe⟩ := hxs6.get hx2
    have oe : Ok e3 := ho.inT (List.mem_cons_of_mem _ (List.mem_of_getElem? he2))
    have htk : ps.take (i + 1) = ps.take i ++ [e3] := by
      rw [List.take_add_one, he2]
      rfl
    refine ⟨rfl, _, rfl, x, mu, e3, rfl, hxe.fut (.of_same sm), oe, fun H9 s9 => ⟨_, rfl, iteN (fun hc => ?_) fun hc => ?_⟩⟩
    · refine ⟨_, rfl, ws, s9 _ _ hD, by omega, fun b o z => ?_, ws ++ [x], upd_same, by rw [List.length_append]; show ws.length + 1 ≤ i + 1; omega, ?_⟩
      · rw [upd_ne (ne_of_none z nD)]
        exact s9 _ _ (sm b o z)
      · rw [htk, List.all_append, List.all_cons, hc]
        constructor
        · intro q
          simp at q
        · intro q
          simp at q
    · refine ⟨sm.trans s9, ws, s9 _ _ hD, by omega, ?_⟩
      rw [htk, List.all_append, List.all_cons, hc, List.all_nil, Bool.and_true, Bool.and_true]
      exact hall
  · rintro H7 ⟨sm, ws, hD, hwl, hall⟩
    rw [List.take_of_length_le (by omega)] at hall
    refine ⟨Nat.zero_le _, fun q2 nq2 => ?_⟩
    have s2 := same_upd (o := .lst []) nq2
    refine ⟨D, q2, ws, rfl, rfl, .inl (.inl (s2 _ _ hD)), .inl (.inl upd_same), ?_⟩
    have kk := k5 _ ((s6.trans sm).trans s2)
    rw [show decide (ws = []) = ps.all isAb by
      rw [Bool.eq_iff_iff, decide_eq_true_eq]
      exact hall]
    exact kk
abbrev s_law_is_round : Stmt := topS 61
theorem sc__law_is_round : FnScope ["thing", "one", "pool"] ["thing"] (defScope s_law_is_round) := ⟨rfl, rfl, rfl, by decide +kernel, rfl, by decide +kernel, by decide +kernel⟩
theorem ok__law_is_round {f : Addr} {fd : FuncData} (F : Fun K "_law_is_round" "_law_is_round" s_law_is_round f fd) (B : Bt mg) (c__law_is_above : CalG P w K mg base 3 "_law_is_above" (spP K isAb)) (c__law_is_part : CalG P w K mg base 3 "_law_is_part" (spP K isBl)) (c__law_is_fraction : CalG P w K mg base 2 "_law_is_fraction" (spP K isFrac)) (c__law_is_thing : CalG P w K mg base 4 "_law_is_thing" (spP K isTh)) : FnG P w K mg base 5 f fd ["thing"] (spP K isRd) := by
  refine Fun.okG F sc__law_is_round spP_len (fun cdv A outer s H vs Q E hg hr h => ?_)
  obtain ⟨v, mu, d, rfl, hd, ho, k⟩ := h
  have hu := Room.u64 hr
  refine ⟨_, (pss_cons (ps_if (PW.pt (pw_or (pt_not (pt_val (pe_callB call_isD (by rfl) B.isin bb_isin (pa_cons (pv 0) (pa_cons (pe_bltn (v := .ty "tuple") rfl B.tuple bb_tuple rfl) pa_nil))))) (pw_or (pt_cmpR op_ne (pe_callB call_lenA (by rfl) B.len boot_len (pa_cons (pv 0) pa_nil)) pe_int (nomark _)) (pw_or1 (pt_not (pt_val (pc c__law_is_above hg hr (by decide) (by rfl) (pa_cons (pe_ix ix_tup (pv 0) pe_int (fun _ _ => rfl)) pa_nil))))))))
      (pss_one (ps_ret pe_bl))
      pss_nil)
    (pss_cons (ps_if (PW.pt (pw_or (pt_not (pt_val (pc c__law_is_fraction hg hr (by decide) (by rfl) (pa_cons (pe_ix ix_tup (pv 0) pe_int (fun _ _ => rfl)) pa_nil)))) (pw_or (pt_cmpR op_lt (pe_ix ix_tup (pe_ix ix_tup (pv 0) pe_int (fun _ _ => rfl)) pe_int (fun _ _ => rfl)) pe_int (nomark _)) (pw_or1 (pt_not (pt_val (pe_callB call_isD (by rfl) B.isin bb_isin (pa_cons (pe_ix ix_tup (pv 0) pe_int (fun _ _ => rfl)) (pa_cons (pe_bltn (v := .ty "tuple") rfl B.tuple bb_tuple rfl) pa_nil)))))))))
      (pss_one (ps_ret pe_bl))
      pss_nil)
    (pss_cons (ps_if (PW.pt (pw_or (pt_cmpR (op_neNil (K := K) rfl hu) (pe_lc (own := [("one", 1)]) rfl sc__law_is_round.nd (pi_tup (pe_ix ix_tup (pv 0) pe_int (fun _ _ => rfl))) (blkOk_by (own := [("one", 1)]) (N := ["thing", "one", "pool"]) (sc := (defScope s_law_is_round)) (by decide +kernel)) (fun _ _ _ _ _ => (pg_name (i := 1) sc__law_is_round.nd rfl (Or.inl rfl))) (fun _ _ _ _ _ => (pts_one (pt_not (pt_val (pc c__law_is_thing hg hr (by decide) (by rfl) (pa_cons (pv 1) pa_nil)))))) (fun _ _ _ _ _ => (pv 1))) (pe_lst pa_nil) (nomark _)) (pw_or1 (pt_cmpR (op_eqNil (K := K) rfl hu) (pe_lc (own := [("one", 1)]) rfl sc__law_is_round.nd (pi_tup (pe_ix ix_tup (pv 0) pe_int (fun _ _ => rfl))) (blkOk_by (own := [("one", 1)]) (N := ["thing", "one", "pool"]) (sc := (defScope s_law_is_round)) (by decide +kernel)) (fun _ _ _ _ _ => (pg_name (i := 1) sc__law_is_round.nd rfl (Or.inl rfl))) (fun _ _ _ _ _ => (pts_one (pt_cmpR op_eq (pe_ix (ix_tupK (K := K) rfl) (pv 1) pe_int (fun _ _ => rfl)) pe_str (nomark _)))) (fun _ _ _ _ _ => (pv 1))) (pe_lst pa_nil) (nomark _)))))
      (pss_one (ps_ret pe_bl))
      pss_nil)
    (pss_cons (ps_set (i := 2) sc__law_is_round.nd rfl (Or.inl rfl) (pe_ix ix_tup (pv 0) pe_int (fun _ _ => rfl)))
    (pss_cons (ps_if (PW.pt (pw_or (pt_not (pt_val (pe_callB call_isD (by rfl) B.isin bb_isin (pa_cons (pv 2) (pa_cons (pe_bltn (v := .ty "tuple") rfl B.tuple bb_tuple rfl) pa_nil))))) (pw_or (pt_cmpR op_ne (pe_callB call_lenA (by rfl) B.len boot_len (pa_cons (pv 2) pa_nil)) pe_int (nomark _)) (pw_or1 (pt_not (pt_val (pc c__law_is_part hg hr (by decide) (by rfl) (pa_cons (pe_ix ix_tup (pv 2) pe_int (fun _ _ => rfl)) pa_nil))))))))
      (pss_one (ps_ret pe_bl))
      pss_nil)
    (pss_one (ps_ret (pe_and (pc c__law_is_fraction hg hr (by decide) (by rfl) (pa_cons (pe_ix ix_tup (pv 2) pe_int (fun _ _ => rfl)) pa_nil)) (pe_one (pe_cmpR op_ge (pe_ix ix_tup (pe_ix ix_tup (pv 2) pe_int (fun _ _ => rfl)) pe_int (fun _ _ => rfl)) pe_int (nomark _))))))))))), ?_⟩
  refine ⟨_, rfl, _, "tuple", mu, d, rfl, by decide, hd, _, rfl, ?_⟩
  have k0 := k H (Same.refl H)
  refine iteN (fun ht => ?_) fun ht => ?_
  · have e : isRd d = false := by
      cases d <;> first | rfl | (simp [isT, tyName] at ht)
    rw [e] at k0
    exact k0
  obtain ⟨ds, rfl⟩ := (isTup d).mp ht
  obtain ⟨a, xs, rfl, hS, hA⟩ := hd.tupAt
  have hl := hA.length
  refine ⟨_, rfl, _, xs.length, rfl, .inr ⟨_, hS, rfl⟩, rfl, _, rfl, iteNe (fun hn => ?_) fun hn => ?_⟩
  · have e : isRd (.tuple ds) = false := rd_len hl hn
    rw [e] at k0
    exact k0
  obtain ⟨x1, x2, x3, x4, d1, d2, d3, d4, rfl, rfl, r1, r2, r3, r4⟩ := dt_four hA hn
  have e : isRd (.tuple [d1, d2, d3, d4]) = (isAb d1 && isAmt d2 && isPool d4 && isThs d3) := rfl
  rw [e] at k
  refine ⟨_, rfl, a, _, 0, x1, rfl, rfl, hS, atI_nat (j := 0) rfl, x1, mu, d1, rfl, r1, ho.inT (by simp), fun H1 s1 => ⟨_, rfl, iteN (fun h1 => ?_) fun h1 => ?_⟩⟩
  · have kk := k H1 s1
    rw [h1, Bool.false_and, Bool.false_and, Bool.false_and] at kk
    exact kk
  have hS1 := s1.seqT hS
  refine ⟨_, rfl, a, _, 1, x2, rfl, rfl, hS1, atI_nat (j := 1) rfl, x2, mu, d2, rfl, r2.fut (.of_same s1), ho.inT (by simp), fun H2 s2 => ⟨_, rfl, iteN (fun h2 => ?_) fun h2 => ?_⟩⟩
  · have kk := k H2 (s1.trans s2)
    have e : isAmt d2 = false := by
      unfold isAmt
      split
      · rw [h2, Bool.false_and]
      · rfl
    rw [e, Bool.and_false, Bool.false_and, Bool.false_and] at kk
    exact kk
  have s12 := s1.trans s2
  have hS2 := s12.seqT hS
  obtain ⟨n, m, rfl⟩ : ∃ n m, d2 = .tuple [.int n, .int m] := by
    unfold isFrac at h2
    split at h2
    · exact ⟨_, _, rfl⟩
    · cases h2
  obtain ⟨b2, zs, rfl, hSb, hAb⟩ := (r2.fut (.of_same s12)).tupAt
  obtain ⟨y1, y2, f1, f2, rfl, e2, q1, q2⟩ := hAb.two rfl
  injection e2 with e3 e4
  injection e4 with e4 _
  subst e3 e4
  cases q1
  rw [isAmt_eq, h1, h2, Bool.true_and, Bool.true_and] at k
  refine ⟨_, rfl, a, _, 1, _, rfl, rfl, hS2, atI_nat (j := 1) rfl, b2, _, 0, .int n, rfl, rfl, hSb, atI_nat (j := 0) rfl, _, _, rfl, rfl, _, rfl, iteP (fun h3 => ?_) fun h3 => ?_⟩
  · have kk := k H2 s12
    rw [decide_eq_false (show ¬ 0 ≤ n by omega), Bool.false_and, Bool.false_and] at kk
    exact kk
  rw [decide_eq_true (show 0 ≤ n by omega), Bool.true_and] at k
  have r3' := r3.fut (.of_same (mu := mu) s12)
  have o3 : Ok d3 := ho.inT (by simp)
  refine ⟨_, rfl, a, _, 2, x3, rfl, rfl, hS2, atI_nat (j := 2) rfl, _, "tuple", mu, d3, rfl, by decide, r3', _, rfl, iteN (fun ht3 => ?_) fun ht3 => ?_⟩
  · have kk := k H2 s12
    have e : isThs d3 = false := by
      cases d3 <;> first | rfl | (simp [isT, tyName] at ht3)
    rw [e, Bool.and_false] at kk
    exact kk
  obtain ⟨es, rfl⟩ := (isTup d3).mp ht3
  obtain ⟨b, ys, rfl, hS3, hA3⟩ := r3'.tupAt
  have hl3 := hA3.length
  have hw := len_wt es
  have hw2 : PyData.weightAll es ≤ 27000 := o3.wt
  have sl := sizeLine_eq
  have e3 : isThs (.tuple es) = (es.all isTh && es.any isSh) := rfl
  rw [e3] at k
  refine ⟨_, rfl, a, _, 2, .ref b, rfl, rfl, hS2, atI_nat (j := 2) rfl, b, rfl, ⟨ys, hS3⟩, fun D nD => lc_it (walk_tup (K := K) (xs := ys) (a := b)) (fun i H' => Same H2 H' ∧ ∃ ws, H' D = some (.lst ws) ∧ ws.length ≤ i ∧ (ws = [] ↔ (es.take i).all isTh = true)) ?_ (fun i H' _ h => h.1.seqT hS3) ?_ ?_⟩
  · exact ⟨same_upd nD, [], upd_same, Nat.le_refl _, by simp⟩
  · rintro i x H7 H8 hi ⟨sm, ws, hD, hwl, hall⟩ ⟨rfl, hx2⟩
    obtain ⟨e3, he2, hxe⟩ := hA3.get hx2
    have oe : Ok e3 := o3.inT (List.mem_of_getElem? he2)
    have htk : es.take (i + 1) = es.take i ++ [e3] := by
      rw [List.take_add_one, he2]
      rfl
    refine ⟨rfl, _, rfl, x, mu, e3, rfl, hxe.fut (.of_same sm), oe, fun H9 s9 => ⟨_, rfl, iteN (fun hc => ?_) fun hc => ?_⟩⟩
    · refine ⟨_, rfl, ws, s9 _ _ hD, by omega, fun b o z => ?_, ws ++ [x], upd_same, by rw [List.length_append]; show ws.length + 1 ≤ i + 1; omega, ?_⟩
      · rw [upd_ne (ne_of_none z nD)]
        exact s9 _ _ (sm b o z)
      · rw [htk, List.all_append, List.all_cons, hc]
        constructor
        · intro q
          simp at q
        · intro q
          simp at q
    · refine ⟨sm.trans s9, ws, s9 _ _ hD, by omega, ?_⟩
      rw [htk, List.all_append, List.all_cons, hc, List.all_nil, Bool.and_true, Bool.and_true]
      exact hall
  rintro H7 ⟨sm, ws, hD, hwl, hall⟩
  rw [List.take_of_length_le (by omega)] at hall
  refine ⟨Nat.zero_le _, fun q2 nq2 => ?_⟩
  have sq := same_upd (o := .lst []) nq2
  refine ⟨D, q2, ws, rfl, rfl, .inl (.inl (sq _ _ hD)), .inl (.inl upd_same), _, rfl, ?_⟩
  have s8 := (s12.trans sm).trans sq
  have sB := sm.trans sq
  revert s8 sB
  generalize upd H7 q2 (.lst []) = H8
  intro s8 sB
  rw [show decide (ws = []) = es.all isTh by
    rw [Bool.eq_iff_iff, decide_eq_true_eq]
    exact hall]
  refine iteN (fun hth => ?_) fun hth => ?_
  · have kk := k H8 s8
    rw [hth, Bool.false_and, Bool.and_false] at kk
    exact kk
  rw [hth, Bool.true_and] at k
  have hS8 := s8.seqT hS
  have hS38 := sB.seqT hS3
  have hA8 := hA3.fut (.of_same (mu := mu) sB)
  refine ⟨_, rfl, a, _, 2, .ref b, rfl, rfl, hS8, atI_nat (j := 2) rfl, b, rfl, ⟨ys, hS38⟩, fun D2 nD2 => lc_it (walk_tup (K := K) (xs := ys) (a := b)) (fun i H' => Same H8 H' ∧ ∃ ws, H' D2 = some (.lst ws) ∧ ws.length ≤ i ∧ (ws = [] ↔ (es.take i).any isSh = false)) ?_ (fun i H' _ h => h.1.seqT hS38) ?_ ?_⟩
  · exact ⟨same_upd nD2, [], upd_same, Nat.le_refl _, by simp⟩
  · rintro i x H9 H10 hi ⟨sm2, ws2, hD2, hwl2, hany⟩ ⟨rfl, hx2⟩
    obtain ⟨e3, he2, hxe⟩ := hA8.get hx2
    have hthx : isTh e3 = true := List.all_eq_true.mp hth e3 (List.mem_of_getElem? he2)
    have htk : es.take (i + 1) = es.take i ++ [e3] := by
      rw [List.take_add_one, he2]
      rfl
    obtain ⟨z, ps, rfl⟩ : ∃ z ps, e3 = .tuple (.str z :: ps) := by
      unfold isTh at hthx
      split at hthx
      · exact ⟨_, _, rfl⟩
      · cases hthx
    obtain ⟨c, zs, rfl, hSc, hAc⟩ := (hxe.fut (.of_same (mu := mu) sm2)).tupAt
    cases hAc with
    | cons rc hAc' =>
      cases rc
      have ez : isSh (.tuple (.str z :: ps)) = decide (V.str z = V.str "shares") := by
        show decide (z = "shares") = _
        rw [decide_eq_decide]
        exact ⟨fun e => by rw [e], V.str.inj⟩
      refine ⟨rfl, _, rfl, c, _, 0, .str z, rfl, rfl, hSc, atI_nat (j := 0) rfl, rfl, _, rfl, iteP (fun hc => ?_) fun hc => ?_⟩
      · refine ⟨_, rfl, ws2, hD2, by omega, fun b o z => ?_, ws2 ++ [.ref c], upd_same, by rw [List.length_append]; show ws2.length + 1 ≤ i + 1; omega, ?_⟩
        · rw [upd_ne (ne_of_none z nD2)]
          exact sm2 b o z
        · rw [htk, List.any_append, List.any_cons, ez, decide_eq_true hc]
          simp
      · refine ⟨sm2, ws2, hD2, by omega, ?_⟩
        rw [htk, List.any_append, List.any_cons, ez, decide_eq_false hc, List.any_nil, Bool.false_or, Bool.or_false]
        exact hany
  rintro H9 ⟨sm2, ws2, hD2, hwl2, hany⟩
  rw [List.take_of_length_le (by omega)] at hany
  refine ⟨Nat.zero_le _, fun q3 nq3 => ?_⟩
  have sq3 := same_upd (o := .lst []) nq3
  refine ⟨D2, q3, ws2, rfl, rfl, .inl (.inl (sq3 _ _ hD2)), .inl (.inl upd_same), _, rfl, ?_⟩
  have s10 := (s8.trans sm2).trans sq3
  revert s10
  generalize upd H9 q3 (.lst []) = H10
  intro s10
  rw [show decide (ws2 = []) = !es.any isSh by
    rw [Bool.eq_iff_iff, decide_eq_true_eq, Bool.not_eq_true']
    exact hany]
  refine iteN (fun hsh => ?_) fun hsh => ?_
  · have kk := k H10 s10
    rw [hsh, Bool.and_false] at kk
    exact kk
  rw [hsh, Bool.and_true] at k
  have hS10 := s10.seqT hS
  have r4' := r4.fut (.of_same (mu := mu) s10)
  have o4 : Ok d4 := ho.inT (by simp)
  refine ⟨_, rfl, a, _, 3, x4, rfl, rfl, hS10, atI_nat (j := 3) rfl, ?_⟩
  refine ⟨_, rfl, _, "tuple", mu, d4, rfl, by decide, r4', _, rfl, iteN (fun ht4 => ?_) fun ht4 => ?_⟩
  · have kk := k H10 s10
    have e : isPool d4 = false := by
      cases d4 <;> first | rfl | (simp [isT, tyName] at ht4)
    rw [e] at kk
    exact kk
  obtain ⟨ps, rfl⟩ := (isTup d4).mp ht4
  obtain ⟨p, us, rfl, hS4, hA4⟩ := r4'.tupAt
  have hl4 := hA4.length
  refine ⟨_, rfl, _, us.length, rfl, .inr ⟨_, hS4, rfl⟩, rfl, _, rfl, iteNe (fun hn => ?_) fun hn => ?_⟩
  · have e : isPool (.tuple ps) = false := by
      match ps, hl4 with
      | [], _ => rfl
      | [_], _ => rfl
      | [_, _], hl => exact absurd (by rw [hl]; rfl) hn
      | _ :: _ :: _ :: _, _ => rfl
    have kk := k H10 s10
    rw [e] at kk
    exact kk
  obtain ⟨u1, u2, g1, g2, rfl, rfl, t1, t2⟩ := hA4.two (by omega)
  rw [show isPool (.tuple [g1, g2]) = (isAmt g1 && isBl g2) from rfl] at k
  refine ⟨_, rfl, p, _, 1, u2, rfl, rfl, hS4, atI_nat (j := 1) rfl, u2, mu, g2, rfl, t2, o4.inT (by simp), fun H11 s11 => ⟨_, rfl, iteN (fun h5 => ?_) fun h5 => ?_⟩⟩
  · have kk := k H11 (s10.trans s11)
    rw [h5, Bool.and_false] at kk
    exact kk
  rw [h5, Bool.and_true] at k
  have hS41 := s11.seqT hS4
  refine ⟨_, rfl, p, _, 0, u1, rfl, rfl, hS41, atI_nat (j := 0) rfl, u1, mu, g1, rfl, t1.fut (.of_same s11), o4.inT (by simp), fun H12 s12' => ⟨_, rfl, iteB (fun h6 => ?_) fun h6 => ?_⟩⟩
  · have s13 := s11.trans s12'
    obtain ⟨n5, m5, rfl⟩ : ∃ n m, g1 = .tuple [.int n, .int m] := by
      unfold isFrac at h6
      split at h6
      · exact ⟨_, _, rfl⟩
      · cases h6
    obtain ⟨b5, zs5, rfl, hS5, hA5⟩ := (t1.fut (.of_same s13)).tupAt
    obtain ⟨y1, y2, f1, f2, rfl, e2, q1, q2⟩ := hA5.two rfl
    injection e2 with e3 e4
    injection e4 with e4 _
    subst e3 e4
    cases q1
    have kk := k H12 (s10.trans s13)
    rw [isAmt_eq, h6, Bool.true_and] at kk
    exact ⟨_, rfl, p, _, 0, _, rfl, rfl, s13.seqT hS4, atI_nat (j := 0) rfl, b5, _, 0, .int n5, rfl, rfl, hS5, atI_nat (j := 0) rfl, _, _, rfl, rfl, kk⟩
  · have kk := k H12 (s10.trans (s11.trans s12'))
    have e : isAmt g1 = false := by
      unfold isAmt
      split
      · rw [h6, Bool.false_and]
      · rfl
    rw [e] at kk
    exact kk
end
end K49
namespace K49
open PySem PySem.Spec PyProof.Rows L2 Sw StX RZ
abbrev mB (b : Addr) : Addr → Prop := fun a => a = b
theorem mB_ok {H : Hp} {b : Addr} (h : BagAt H b) : MuOk (mB b) H := fun a e => by
  obtain ⟨_, _, _, _, _, q, _⟩ := h
  cases e
  exact .inl (by rw [q]; exact fun z => nomatch z)
theorem OptAt.fut {K : PySem.W.Frag} {mu : Addr → Prop} {H H' : Hp} {v : V} {o : Option F2} (h : OptAt K H v o) (f : Fut mu H H') : OptAt K H' v o := by
  cases o with
  | none => exact h
  | some _ => exact Cpl.fut h f
theorem seqT_fut {K : PySem.W.Frag} {mu : Addr → Prop} {H H' : Hp} {a : Addr} {xs : List V} (h : SqT K H a xs) (f : Fut mu H H') : SqT K H' a xs := by
  rcases h with (r | ⟨o, r⟩) | r
  · exact .inl (.inl (f _ _ r (.inr (.inl ⟨_, rfl⟩))))
  · exact .inl (.inr ⟨o, f _ _ r (.inr (.inr ⟨_, _, rfl⟩))⟩)
  · exact .inr r
theorem ThAt.fut {K : PySem.W.Frag} {mu : Addr → Prop} {H H' : Hp} {v : V} {t : Th} (h : ThAt K H v t) (s : Fut mu H H') : ThAt K H' v t := by
  cases t with
  | shares c => obtain ⟨r, x, rfl, a, b⟩ := h; exact ⟨r, x, rfl, seqT_fut a s, b.fut s⟩
  | note a cap disc => obtain ⟨r, x, y, z, rfl, a, b, c, d⟩ := h; exact ⟨r, x, y, z, rfl, seqT_fut a s, b.fut s, c.fut s, d.fut s⟩
  | kept c o => obtain ⟨r, x, y, rfl, a, b, c⟩ := h; exact ⟨r, x, y, rfl, seqT_fut a s, b.fut s, c.fut s⟩
  | weighed c o t => obtain ⟨r, x, y, z, rfl, a, b, c, d⟩ := h; exact ⟨r, x, y, z, rfl, seqT_fut a s, b.fut s, c.fut s, d.fut s⟩
theorem ThsAt.fut {K : PySem.W.Frag} {mu : Addr → Prop} {H H' : Hp} : ∀ {vs : List V} {ts : List Th}, ThsAt K H vs ts → Fut mu H H' → ThsAt K H' vs ts
  | [], [], _, _ => True.intro
  | v :: vs, t :: ts, h, s => ⟨h.1.fut s, ThsAt.fut h.2 s⟩
  | [], _ :: _, h, _ => h.elim
  | _ :: _, [], h, _ => h.elim
theorem DealIn.fut {K : PySem.W.Frag} {mu : Addr → Prop} {H H' : Hp} {r : Addr} {x y : V} {rt rp : Addr} {vs : List V} {c q : V} {D : Deal} (h : DealIn K H r x y rt rp vs c q D) (s : Fut mu H H') : DealIn K H' r x y rt rp vs c q D :=
  ⟨seqT_fut h.at_ s, h.w.fut s, h.m.fut s, seqT_fut h.t s, h.ts.fut s, seqT_fut h.p s, h.c.fut s, h.q.fut s⟩
theorem _root_.Sw.Rel.fb {b : Addr} {H H' : Hp} (r : Rel b H H') (hb : BagAt H b) : Fut (mB b) H H' := r.fut (mu := mB b) rfl hb
theorem nu_num {n m : Int} (h : NumQ n m) : Nu (n, m) := by
  obtain ⟨h1, h2, h3, h4, h5⟩ := h
  exact ⟨⟨⟨by show 0 < m; omega, gI_cp.mp h5⟩, Nat.lt_of_le_of_lt (show n.natAbs ≤ 1000000000000 by omega) (by decide), Nat.lt_of_le_of_lt (show m.natAbs ≤ 1000 by omega) (by decide)⟩, by show 0 < n; omega⟩
theorem Nu.mo {f : F2} (h : Nu f) : Mo f := ⟨h.sz, Int.le_of_lt h.pos⟩
/-- a drawn number, None or a couple -/
def OptD (p : F2 → Prop) (d : PyData) : Prop := d = .none ∨ ∃ n m, d = .tuple [.int n, .int m] ∧ p (n, m)
theorem OptD.at {K : PySem.W.Frag} {mu : Addr → Prop} {H : Hp} {v : V} {d : PyData} {p : F2 → Prop} (h : OptD p d) (hv : Dt K mu H v d) : ∃ o : Option F2, OptAt K H v o ∧ ∀ f, o = some f → p f := by
  rcases h with rfl | ⟨n, m, rfl, hp⟩
  · cases hv
    exact ⟨none, rfl, fun f e => nomatch e⟩
  · exact ⟨some (n, m), hv.cpl, fun f e => by cases e; exact hp⟩
def CplD (p : F2 → Prop) (d : PyData) : Prop := ∃ n m, d = .tuple [.int n, .int m] ∧ p (n, m)
section
variable {K : PySem.W.Frag} {b : Addr} {mu : Addr → Prop} {σ : L2.St} {H0 : Hp}
theorem gv_numE {D : PyData → Prop} {i : Nat} {n : Int} (hm : mu b) (hσ : σ[i]? = some (some (.ref b))) (h0 : 0 < n) (h1 : n ≤ 100000000) (hD : ∀ n m, NumQ n m → D (.tuple [.int n, .int m])) :
    Gv K b mu σ H0 (tCall (spNumE K) [] E0 (tCons (tVar i) (tCons (tC (.int n)) tNil))) D := fun H hb m Q q =>
  ⟨_, hσ, n, h0, h1, b, mu, rfl, hm, hb.bag, m, fun v H' d hd R hv o => by
    obtain ⟨x, y, rfl, hq⟩ := hd
    exact q v H' _ (hD x y hq) R hv o⟩
theorem gv_cpl {D : PyData → Prop} {n m : Int} (hm : mu b) (h : D (.tuple [.int n, .int m])) : Gv K b mu σ H0 (tTup (tCons (tC (.int n)) (tCons (tC (.int m)) tNil))) D :=
  (ge_tup hm (geA_cons hm ge_int (geA_cons hm ge_int geA_nil)) (show 2 ≤ 1000 by decide)).gv h
end
theorem pt_of {n m : Int} (h1 : 0 ≤ n) (h2 : n < m) (h3 : m ≤ 100) (h4 : gI n m = 1) : Pt (n, m) :=
  ⟨⟨⟨by show 0 < m; omega, gI_cp.mp h4⟩, Nat.lt_of_le_of_lt (show n.natAbs ≤ 100 by omega) (by decide), Nat.lt_of_le_of_lt (show m.natAbs ≤ 100 by omega) (by decide)⟩, h1, h2⟩
section
variable {P : Program} {w : World} {K : PySem.W.Frag} {mg : Str → Option Value} {base : Heap}
def spTh (K : PySem.W.Frag) : Sp := fun vs H Q _ => ∃ b : Addr, vs = [.ref b] ∧ BagAt H b ∧ ∀ v H' t, Th.Ok t → Rel b H H' → ThAt K H' v t → Q v H'
abbrev s_law_thing : Stmt := topS 52
theorem sc__law_thing : FnScope ["bag", "way", "cap", "discount"] ["bag"] (defScope s_law_thing) := ⟨rfl, rfl, rfl, by decide +kernel, rfl, by decide +kernel, by decide +kernel⟩
theorem ok__law_thing {f : Addr} {fd : FuncData} (F : Fun K "_law_thing" "_law_thing" s_law_thing f fd) (B : Bt mg) (c__law_take : CalG P w K mg base 1 "_law_take" spTake) (c__law_some : CalG P w K mg base 2 "_law_some" spSome) (c__law_number : CalG P w K mg base 3 "_law_number" (spNumE K)) : FnG P w K mg base 4 f fd ["bag"] (spTh K) := by
  refine Fun.okG F sc__law_thing (fun vs H Q E h => ?_) (fun cdv A outer s H vs Q E hg hr h => ?_)
  · obtain ⟨_, rfl, _⟩ := h
    rfl
  obtain ⟨b, rfl, hb, k⟩ := h
  refine ⟨_, (pss_cons (ps_set (i := 1) sc__law_thing.nd rfl (Or.inl rfl) (pc c__law_take hg hr (by decide) (by rfl) (pa_cons (pv 0) (pa_cons pe_int pa_nil))))
    (pss_cons (ps_if (pt_cmpR op_lt (pv 1) pe_int (nomark _))
      (pss_one (ps_ret (pe_tup (pa_cons pe_str (pa_cons (pc c__law_number hg hr (by decide) (by rfl) (pa_cons (pv 0) (pa_cons pe_int pa_nil))) pa_nil)))))
      pss_nil)
    (pss_cons (ps_if (pt_cmpR op_lt (pv 1) pe_int (nomark _))
      (pss_cons (ps_par (i := 2) (j := 3) rfl sc__law_thing.nd rfl rfl (by decide) rfl rfl (pa_cons (pc c__law_some hg hr (by decide) (by rfl) (pa_cons (pv 0) (pa_cons (pe_lst (pa_cons pe_non (pa_cons (pc c__law_number hg hr (by decide) (by rfl) (pa_cons (pv 0) (pa_cons pe_int pa_nil))) pa_nil))) pa_nil))) (pa_cons (pc c__law_some hg hr (by decide) (by rfl) (pa_cons (pv 0) (pa_cons (pe_lst (pa_cons pe_non (pa_cons (pe_tup (pa_cons pe_int (pa_cons pe_int pa_nil))) (pa_cons (pe_tup (pa_cons pe_int (pa_cons pe_int pa_nil))) (pa_cons (pe_tup (pa_cons pe_int (pa_cons pe_int pa_nil))) (pa_cons (pe_tup (pa_cons pe_int (pa_cons pe_int pa_nil))) pa_nil)))))) pa_nil))) pa_nil)) (by rfl))
      (pss_one (ps_ret (pe_tup (pa_cons pe_str (pa_cons (pc c__law_number hg hr (by decide) (by rfl) (pa_cons (pv 0) (pa_cons pe_int pa_nil))) (pa_cons (pv 2) (pa_cons (pv 3) pa_nil))))))))
      pss_nil)
    (pss_cons (ps_if (pt_cmpR op_eq (pv 1) pe_int (nomark _))
      (pss_one (ps_ret (pe_tup (pa_cons pe_str (pa_cons (pc c__law_number hg hr (by decide) (by rfl) (pa_cons (pv 0) (pa_cons pe_int pa_nil))) (pa_cons (pc c__law_number hg hr (by decide) (by rfl) (pa_cons (pv 0) (pa_cons pe_int pa_nil))) pa_nil))))))
      pss_nil)
    (pss_one (ps_ret (pe_tup (pa_cons pe_str (pa_cons (pc c__law_number hg hr (by decide) (by rfl) (pa_cons (pv 0) (pa_cons pe_int pa_nil))) (pa_cons (pc c__law_number hg hr (by decide) (by rfl) (pa_cons (pv 0) (pa_cons pe_int pa_nil))) (pa_cons (pc c__law_number hg hr (by decide) (by rfl) (pa_cons (pv 0) (pa_cons pe_int pa_nil))) pa_nil))))))))))), ?_⟩
  have num : ∀ {H1 : Hp} {n : Int} {Q1 : VK} {E1 : XK}, BagAt H1 b → 0 < n → n ≤ 100000000 → (∀ v H' f, Nu f → Rel b H1 H' → Cpl K H' v f.1 f.2 → Q1 v H') → spNumE K [.ref b, .int n] H1 Q1 E1 := fun hb1 h0 h1 q =>
    ⟨_, h0, h1, b, mB b, rfl, rfl, hb1, mB_ok hb1, fun v H' d hd R hv _ => by
      obtain ⟨x, y, rfl, hq⟩ := hd
      exact q v H' (x, y) (nu_num hq) R hv.cpl⟩
  refine ⟨_, rfl, b, _, rfl, hb, by decide, by decide, fun way H1 w0 w1 R1 => ?_⟩
  refine ⟨_, rfl, _, _, rfl, rfl, _, rfl, iteP (fun h1 => ?_) fun h1 => ?_⟩
  · refine ⟨_, rfl, num R1.bag (by decide) (by decide) fun v H2 c hc R2 cc => ⟨by show 2 ≤ sizeLine; decide, fun p np => ?_⟩⟩
    have sp := same_upd (o := .tup [.str "shares", v]) np
    exact k (.ref p) _ (.shares c) hc ((R1.trans R2).same sp) ⟨p, v, rfl, .of upd_same, cc.same sp⟩
  refine ⟨_, rfl, _, _, rfl, rfl, _, rfl, iteP (fun h2 => ?_) fun h2 => ?_⟩
  · refine gv_some (K := K) (mu := mB b) (D := OptD Nu) (n := 2) rfl rfl (gvA_cons rfl (ge_non.gv (.inl rfl)) (gvA_cons rfl (gv_numE rfl rfl (by decide) (by decide) fun n m h => .inr ⟨n, m, rfl, nu_num h⟩) gvA_nil)) (by decide) (by decide) H1 (.refl R1.bag) (mB_ok R1.bag) _ fun vc H2 dc hdc R2 hvc _ => ?_
    obtain ⟨cap, hcap, ocap⟩ := hdc.at hvc
    refine gv_some (K := K) (mu := mB b) (D := OptD Pt) (n := 5) rfl rfl (gvA_cons rfl (ge_non.gv (.inl rfl)) (gvA_cons rfl (gv_cpl rfl (.inr ⟨_, _, rfl, pt_of (by decide) (by decide) (by decide) (by decide)⟩)) (gvA_cons rfl (gv_cpl rfl (.inr ⟨_, _, rfl, pt_of (by decide) (by decide) (by decide) (by decide)⟩)) (gvA_cons rfl (gv_cpl rfl (.inr ⟨_, _, rfl, pt_of (by decide) (by decide) (by decide) (by decide)⟩)) (gvA_cons rfl (gv_cpl rfl (.inr ⟨_, _, rfl, pt_of (by decide) (by decide) (by decide) (by decide)⟩)) gvA_nil))))) (by decide) (by decide) H2 (.refl R2.bag) (mB_ok R2.bag) _ fun vd H3 dd hdd R3 hvd _ => ?_
    obtain ⟨disc, hdisc, odisc⟩ := hdd.at hvd
    have hcap3 := hcap.fut (R3.fb R2.bag)
    refine ⟨_, _, rfl, _, rfl, num R3.bag (by decide) (by decide) fun v H4 c hc R4 cc => ⟨_, rfl, _, rfl, by show 4 ≤ sizeLine; decide, fun p np => ?_⟩⟩
    have sp := same_upd (o := .tup [.str "note", v, vc, vd]) np
    have f4 := R4.fb R3.bag
    exact k (.ref p) _ (.note c cap disc) ⟨hc, ocap, odisc⟩ ((((R1.trans R2).trans R3).trans R4).same sp) ⟨p, v, vc, vd, rfl, .of upd_same, cc.same sp, (hcap3.fut f4).same sp, (hdisc.fut f4).same sp⟩
  refine ⟨_, rfl, rfl, _, rfl, iteEq (fun h3 => ?_) fun h3 => ?_⟩
  · refine ⟨_, rfl, num R1.bag (by decide) (by decide) fun v H2 c hc R2 cc => ⟨_, rfl, num R2.bag (by decide) (by decide) fun v3 H3 o ho R3 co => ⟨by show 3 ≤ sizeLine; decide, fun p np => ?_⟩⟩⟩
    have sp := same_upd (o := .tup [.str "kept", v, v3]) np
    exact k (.ref p) _ (.kept c o) ⟨hc, ho⟩ (((R1.trans R2).trans R3).same sp) ⟨p, v, v3, rfl, .of upd_same, (cc.fut (R3.fb R2.bag)).same sp, co.same sp⟩
  · refine ⟨_, rfl, num R1.bag (by decide) (by decide) fun v H2 c hc R2 cc => ⟨_, rfl, num R2.bag (by decide) (by decide) fun v3 H3 o ho R3 co => ⟨_, rfl, num R3.bag (by decide) (by decide) fun v4 H4 t ht R4 ct => ⟨by show 4 ≤ sizeLine; decide, fun p np => ?_⟩⟩⟩⟩
    have sp := same_upd (o := .tup [.str "weighed", v, v3, v4]) np
    have f4 := R4.fb R3.bag
    exact k (.ref p) _ (.weighed c o t) ⟨hc, ho, ht⟩ ((((R1.trans R2).trans R3).trans R4).same sp) ⟨p, v, v3, v4, rfl, .of upd_same, ((cc.fut (R3.fb R2.bag)).fut f4).same sp, (co.fut f4).same sp, ct.same sp⟩
def spMixed : Sp := fun vs H Q _ => ∃ (b t : Addr) (us : List V), vs = [.ref b, .ref t] ∧ BagAt H b ∧ t ≠ b ∧ H t = some (.lst us) ∧ us.length ≤ 100 ∧ ∀ (p : Addr) (H' : Hp) (zs : List V), Rel b H H' → H' p = some (.lst zs) → (∀ z ∈ zs, z ∈ us) → zs.length = us.length → Q (.ref p) H'
abbrev s_law_mixed : Stmt := topS 37
theorem sc__law_mixed : FnScope ["bag", "things", "found", "thing"] ["bag", "things"] (defScope s_law_mixed) := ⟨rfl, rfl, rfl, by decide +kernel, rfl, by decide +kernel, by decide +kernel⟩
theorem ok__law_mixed {f : Addr} {fd : FuncData} (F : Fun K "_law_mixed" "_law_mixed" s_law_mixed f fd) (B : Bt mg) (c__law_take : CalG P w K mg base 1 "_law_take" spTake) : FnG P w K mg base 2 f fd ["bag", "things"] spMixed := by
  refine Fun.okG F sc__law_mixed (fun vs H Q E h => ?_) (fun cdv A outer s H vs Q E hg hr h => ?_)
  · obtain ⟨_, _, _, rfl, _⟩ := h
    rfl
  obtain ⟨b, t, us, rfl, hb, htb, ht, hl, k⟩ := h
  refine ⟨_, (pss_cons (ps_set (i := 2) sc__law_mixed.nd rfl (Or.inl rfl) (pe_lst pa_nil))
    (pss_cons (ps_for PassesOwn.never rfl (pi_list (pv 1)) (pg_name (i := 3) sc__law_mixed.nd rfl (Or.inl rfl))
      (pss_one (ps_expr (pe_bm PySem.F.plainAttrs_list PySem.F.slot_list_insert PySem.F.type_list_insert mt_insert (pv 2) (pa_cons (pc c__law_take hg hr (by decide) (by rfl) (pa_cons (pv 0) (pa_cons (pe_op op_add (pe_callB call_lenA (by rfl) B.len boot_len (pa_cons (pv 2) pa_nil)) pe_int) pa_nil))) (pa_cons (pv 3) pa_nil))))))
    (pss_one (ps_ret (pv 2))))), ?_⟩
  refine ⟨Nat.zero_le _, fun p np => ?_⟩
  have npb : p ≠ b := fun z => by
    obtain ⟨_, _, _, _, _, q, _⟩ := hb
    rw [z, q] at np
    cases np
  have npt : t ≠ p := ne_of_none ht np
  obtain ⟨x0, y0, z0, l0, cs0, hb0, hl0, _⟩ := id hb
  have hL0 : BagL H b l0 := ⟨_, _, _, hb0⟩
  refine ⟨_, rfl, t, rfl, ⟨_, .inl (.inl (same_upd np _ _ ht))⟩, for_it (walk_list (K := K) (xs := us) (a := t)) (fun i σ H' => ∃ (o : Option V) (zs : List V), σ = [some (.ref b), some (.ref t), some (.ref p), o] ∧ Rel b H H' ∧ H' p = some (.lst (zs)) ∧ (∀ z ∈ zs, z ∈ us) ∧ zs.length = i)
    ⟨none, [], rfl, .of_same hb (same_upd np), upd_same, (fun z h => nomatch h), rfl⟩ (fun i σ H' _ h => by
      obtain ⟨_, _, _, R, _⟩ := h
      exact .inl (.inl (R.keep _ _ htb ht))) (fun i x σ H1 H2 hi h y => ?_) fun σ H1 h => ?_⟩
  · obtain ⟨o, zs, rfl, R, hp, hz, hzl⟩ := h
    obtain ⟨rfl, hx⟩ := y
    have hx : us[i]? = some x := hx
    have hi : i < us.length := hi
    refine ⟨_, rfl, .inl ⟨rfl, _, .inl (.inl hp)⟩, _, rfl, _, rfl, _, (zs).length, rfl, .inl ⟨_, .inl (.inl hp), rfl⟩, _, _, rfl, rfl, b, _, rfl, R.bag, by omega, by omega, fun c H3 c0 c1 R3 => ?_⟩
    have hp3 := R3.keep _ _ npb hp
    refine ⟨_, rfl, p, _, c, _, rfl, rfl, hp3, small1000 (by omega), c0, by omega, ?_⟩
    obtain ⟨cn, rfl⟩ : ∃ cn : Nat, c = (cn : Int) := ⟨c.toNat, by omega⟩
    rw [Int.toNat_natCast]
    refine ⟨_, zs.take cn ++ [x] ++ zs.drop cn, rfl, ?_, ?_, fun z h => ?_, ?_⟩
    · have R13 := R.trans R3
      refine ⟨fun a u n e => ?_, fun l hL => ?_, ?_⟩
      · rw [upd_ne (ne_of_none e np)]
        exact R13.keep a u n e
      · obtain ⟨x, y, z, e⟩ := R13.cell l hL
        exact ⟨x, y, z, by rw [upd_ne npb.symm]; exact e⟩
      · obtain ⟨x, y, z, l, cs, q1, q2, q3, q4⟩ := R13.bag
        by_cases e : l = p
        · exfalso
          have el : l0 = l := (R13.cell l0 hL0).eq q1
          rw [el, e, np] at hl0
          cases hl0
        · exact ⟨x, y, z, l, cs, by rw [upd_ne npb.symm]; exact q1, by rw [upd_ne e]; exact q2, q3, q4⟩
    · rw [upd_same]
    · rcases List.mem_append.mp h with h | h
      · rcases List.mem_append.mp h with h | h
        · exact hz z (List.mem_of_mem_take h)
        · rw [List.mem_singleton.mp h]
          exact List.mem_of_getElem? hx
      · exact hz z (List.mem_of_mem_drop h)
    · rw [List.length_append, List.length_append, List.length_take, List.length_drop, List.length_singleton]
      omega
  · obtain ⟨o, zs, rfl, R, hp, hz, hzl⟩ := h
    exact ⟨_, rfl, k p _ zs R hp hz hzl⟩
theorem ths_of {K : PySem.W.Frag} {H : Hp} : ∀ {vs : List V}, (∀ v ∈ vs, ∃ t, Th.Ok t ∧ ThAt K H v t) → ∃ ts : List Th, ThsAt K H vs ts ∧ ∀ t ∈ ts, t.Ok
  | [], _ => ⟨[], True.intro, fun _ h => nomatch h⟩
  | v :: vs, h => by
    obtain ⟨ts, h1, h2⟩ := ths_of fun x hx => h x (List.mem_cons_of_mem _ hx)
    obtain ⟨t, ot, at_⟩ := h v List.mem_cons_self
    refine ⟨t :: ts, ⟨at_, h1⟩, fun x hx => ?_⟩
    rcases List.mem_cons.mp hx with rfl | hx
    · exact ot
    · exact h2 x hx
def spDeal (K : PySem.W.Frag) : Sp := fun vs H Q _ => ∃ b : Addr, vs = [.ref b] ∧ BagAt H b ∧ ∀ v H' D, Deal.Ok D → Rel b H H' → DealAt K H' v D → Q v H'
abbrev s_law_deal : Stmt := topS 51
theorem sc__law_deal : FnScope ["bag", "some", "things", "turn", "pool", "money"] ["bag"] (defScope s_law_deal) := ⟨rfl, rfl, rfl, by decide +kernel, rfl, by decide +kernel, by decide +kernel⟩
theorem ok__law_deal {f : Addr} {fd : FuncData} (F : Fun K "_law_deal" "_law_deal" s_law_deal f fd) (B : Bt mg) (c__law_some : CalG P w K mg base 2 "_law_some" spSome) (c__law_number : CalG P w K mg base 3 "_law_number" (spNumE K)) (c__law_thing : CalG P w K mg base 4 "_law_thing" (spTh K)) (c__law_mixed : CalG P w K mg base 2 "_law_mixed" spMixed) : FnG P w K mg base 5 f fd ["bag"] (spDeal K) := by
  refine Fun.okG F sc__law_deal (fun vs H Q E h => ?_) (fun cdv A outer s H vs Q E hg hr h => ?_)
  · obtain ⟨_, rfl, _⟩ := h
    rfl
  obtain ⟨b, rfl, hb, k⟩ := h
  refine ⟨_, (pss_cons (ps_set (i := 1) sc__law_deal.nd rfl (Or.inl rfl) (pc c__law_some hg hr (by decide) (by rfl) (pa_cons (pv 0) (pa_cons (pe_lst (pa_cons pe_int (pa_cons pe_int (pa_cons pe_int (pa_cons pe_int pa_nil))))) pa_nil))))
    (pss_cons (ps_set (i := 2) sc__law_deal.nd rfl (Or.inl rfl) (pe_lst (pa_cons (pe_tup (pa_cons pe_str (pa_cons (pc c__law_number hg hr (by decide) (by rfl) (pa_cons (pv 0) (pa_cons pe_int pa_nil))) pa_nil))) pa_nil)))
    (pss_cons (ps_for PassesOwn.never rfl (pi_range1 (by rfl) B.range (pa_cons (pv 1) pa_nil)) (pg_name (i := 3) sc__law_deal.nd rfl (Or.inl rfl))
      (pss_one (ps_expr (pe_bm PySem.F.plainAttrs_list PySem.F.slot_list_append PySem.F.type_list_append mt_append (pv 2) (pa_cons (pc c__law_thing hg hr (by decide) (by rfl) (pa_cons (pv 0) pa_nil)) pa_nil)))))
    (pss_cons (ps_set (i := 4) sc__law_deal.nd rfl (Or.inl rfl) (pe_tup (pa_cons (pc c__law_some hg hr (by decide) (by rfl) (pa_cons (pv 0) (pa_cons (pe_lst (pa_cons (pe_tup (pa_cons pe_int (pa_cons pe_int pa_nil))) (pa_cons (pc c__law_number hg hr (by decide) (by rfl) (pa_cons (pv 0) (pa_cons pe_int pa_nil))) (pa_cons (pe_tup (pa_cons pe_int (pa_cons pe_int pa_nil))) pa_nil)))) pa_nil))) (pa_cons (pc c__law_some hg hr (by decide) (by rfl) (pa_cons (pv 0) (pa_cons (pe_lst (pa_cons (pe_tup (pa_cons pe_int (pa_cons pe_int pa_nil))) (pa_cons (pe_tup (pa_cons pe_int (pa_cons pe_int pa_nil))) (pa_cons (pe_tup (pa_cons pe_int (pa_cons pe_int pa_nil))) (pa_cons (pe_tup (pa_cons pe_int (pa_cons pe_int pa_nil))) (pa_cons (pe_tup (pa_cons pe_int (pa_cons pe_int pa_nil))) pa_nil)))))) pa_nil))) pa_nil))))
    (pss_cons (ps_set (i := 5) sc__law_deal.nd rfl (Or.inl rfl) (pc c__law_some hg hr (by decide) (by rfl) (pa_cons (pv 0) (pa_cons (pe_lst (pa_cons (pe_tup (pa_cons pe_int (pa_cons pe_int pa_nil))) (pa_cons (pc c__law_number hg hr (by decide) (by rfl) (pa_cons (pv 0) (pa_cons pe_int pa_nil))) (pa_cons (pc c__law_number hg hr (by decide) (by rfl) (pa_cons (pv 0) (pa_cons pe_int pa_nil))) pa_nil)))) pa_nil))))
    (pss_one (ps_ret (pe_tup (pa_cons (pc c__law_some hg hr (by decide) (by rfl) (pa_cons (pv 0) (pa_cons (pe_lst (pa_cons (pc c__law_number hg hr (by decide) (by rfl) (pa_cons (pv 0) (pa_cons pe_int pa_nil))) (pa_cons (pc c__law_number hg hr (by decide) (by rfl) (pa_cons (pv 0) (pa_cons pe_int pa_nil))) pa_nil))) pa_nil))) (pa_cons (pv 5) (pa_cons (pe_callTy call_tuple_of (by rfl) B.tuple bb_tuple (pa_cons (pc c__law_mixed hg hr (by decide) (by rfl) (pa_cons (pv 0) (pa_cons (pv 2) pa_nil))) pa_nil)) (pa_cons (pv 4) pa_nil)))))))))))), ?_⟩
  have num : ∀ {H1 : Hp} {n : Int} {Q1 : VK} {E1 : XK}, BagAt H1 b → 0 < n → n ≤ 100000000 → (∀ v H' f, Nu f → Rel b H1 H' → Cpl K H' v f.1 f.2 → Q1 v H') → spNumE K [.ref b, .int n] H1 Q1 E1 := fun hb1 h0 h1 q =>
    ⟨_, h0, h1, b, mB b, rfl, rfl, hb1, mB_ok hb1, fun v H' d hd R hv _ => by
      obtain ⟨x, y, rfl, hq⟩ := hd
      exact q v H' (x, y) (nu_num hq) R hv.cpl⟩
  refine gv_some (K := K) (mu := mB b) (D := fun d => ∃ j : Int, d = .int j ∧ 1 ≤ j ∧ j ≤ 5) (n := 4) rfl rfl (gvA_cons rfl (ge_int.gv ⟨3, rfl, by decide, by decide⟩) (gvA_cons rfl (ge_int.gv ⟨2, rfl, by decide, by decide⟩) (gvA_cons rfl (ge_int.gv ⟨5, rfl, by decide, by decide⟩) (gvA_cons rfl (ge_int.gv ⟨1, rfl, by decide, by decide⟩) gvA_nil)))) (by decide) (by decide) H (.refl hb) (mB_ok hb) _ fun vs H1 ds hds R1 hvs _ => ?_
  obtain ⟨many, rfl, m0, m1⟩ := hds
  cases hvs
  refine ⟨_, rfl, num R1.bag (by decide) (by decide) fun v H2 c hc R2 cc => ⟨by show 2 ≤ sizeLine; decide, fun p np => ⟨by show 1 ≤ sizeLine; decide, fun lt nl => ?_⟩⟩⟩
  have s1 := same_upd (o := .tup [.str "shares", v]) np
  have R2a := (R1.trans R2).same s1
  have t0 : ThAt K (upd H2 p (.tup [.str "shares", v])) (.ref p) (.shares c) := ⟨p, v, rfl, .of upd_same, cc.same s1⟩
  revert R2a t0 nl
  generalize upd H2 p (.tup [.str "shares", v]) = H3
  intro nl R2a t0
  have hb3 := R2a.bag
  have nlb : lt ≠ b := fun z => by
    obtain ⟨_, _, _, _, _, q, _⟩ := hb3
    rw [z, q] at nl
    cases nl
  have sl := same_upd (o := .lst [.ref p]) nl
  refine ⟨_, rfl, many, rfl, by omega, by omega, for_range (lo := 0) (n := many.toNat) (fun i σ H' => ∃ o ws, σ = [some (.ref b), some (.int many), some (.ref lt), o, none, none] ∧ H' lt = some (.lst ws) ∧ ws.length = i + 1 ∧ (∀ v ∈ ws, ∃ t, Th.Ok t ∧ ThAt K H' v t) ∧ Rel b H3 H') ⟨none, [.ref p], rfl, upd_same, rfl, fun v hv => ⟨.shares c, hc, by rw [List.mem_singleton.mp hv]; exact t0.same sl⟩, Rel.of_same hb3 sl⟩ (fun i σ H4 hi h => ?_) fun σ H4 h => ?_⟩
  · obtain ⟨o, ws, rfl, hlt, hwl, hws, R4⟩ := h
    refine ⟨_, rfl, .inl ⟨rfl, _, .inl (.inl hlt)⟩, _, rfl, b, rfl, R4.bag, fun v H5 t ot R5 ht => ?_⟩
    have hlt5 := R5.keep _ _ nlb hlt
    refine ⟨lt, ws, v, rfl, rfl, hlt5, small1000 (by omega), _, ws ++ [v], rfl, upd_same, by rw [List.length_append, hwl]; rfl, fun x hx => ?_, (R4.trans R5).at hb3 nl⟩
    rcases List.mem_append.mp hx with hx | hx
    · obtain ⟨t1, o1, a1⟩ := hws x hx
      exact ⟨t1, o1, (a1.fut (R5.fb R4.bag)).fut (fut_grow hlt5)⟩
    · rw [List.mem_singleton.mp hx]
      exact ⟨t, ot, ht.fut (fut_grow hlt5)⟩
  obtain ⟨o, ws, rfl, hlt, hwl, hws, R4⟩ := h
  obtain ⟨ts, hts, ots⟩ := ths_of hws
  -- the pool
  refine gv_some (K := K) (mu := mB b) (D := CplD Mo) (n := 3) rfl rfl (gvA_cons rfl (gv_cpl rfl ⟨_, _, rfl, ⟨sz_zero.mono (by decide) (by decide), by decide⟩⟩) (gvA_cons rfl (gv_numE rfl rfl (by decide) (by decide) fun n m h => ⟨n, m, rfl, (nu_num h).mo⟩) (gvA_cons rfl (gv_cpl rfl ⟨_, _, rfl, ⟨⟨⟨by decide, gI_cp.mp (by decide)⟩, by decide, by decide⟩, by decide⟩⟩) gvA_nil))) (by decide) (by decide) H4 (.refl R4.bag) (mB_ok R4.bag) _ fun v5 H5 d5 hd5 R5 hv5 _ => ?_
  obtain ⟨n5, m5, rfl, mo5⟩ := hd5
  have c5 := hv5.cpl
  refine gv_some (K := K) (mu := mB b) (D := CplD Pt) (n := 5) rfl rfl (gvA_cons rfl (gv_cpl rfl ⟨_, _, rfl, pt_of (by decide) (by decide) (by decide) (by decide)⟩) (gvA_cons rfl (gv_cpl rfl ⟨_, _, rfl, pt_of (by decide) (by decide) (by decide) (by decide)⟩) (gvA_cons rfl (gv_cpl rfl ⟨_, _, rfl, pt_of (by decide) (by decide) (by decide) (by decide)⟩) (gvA_cons rfl (gv_cpl rfl ⟨_, _, rfl, pt_of (by decide) (by decide) (by decide) (by decide)⟩) (gvA_cons rfl (gv_cpl rfl ⟨_, _, rfl, pt_of (by decide) (by decide) (by decide) (by decide)⟩) gvA_nil))))) (by decide) (by decide) H5 (.refl R5.bag) (mB_ok R5.bag) _ fun v6 H6 d6 hd6 R6 hv6 _ => ?_
  obtain ⟨n6, m6, rfl, pt6⟩ := hd6
  have c6 := hv6.cpl
  have c56 := c5.fut (R6.fb R5.bag)
  refine ⟨by show 2 ≤ sizeLine; decide, fun rp nrp => ?_⟩
  have srp := same_upd (o := .tup [v5, v6]) nrp
  have hrp : SqT K (upd H6 rp (.tup [v5, v6])) rp [v5, v6] := .of upd_same
  have c57 := c56.same srp
  have c67 := c6.same srp
  have R47 := (R5.trans R6).same srp
  revert hrp c57 c67 R47
  generalize upd H6 rp (.tup [v5, v6]) = H7
  intro hrp c57 c67 R47
  -- the money
  refine gv_some (K := K) (mu := mB b) (D := CplD Mo) (n := 3) rfl rfl (gvA_cons rfl (gv_cpl rfl ⟨_, _, rfl, ⟨sz_zero.mono (by decide) (by decide), by decide⟩⟩) (gvA_cons rfl (gv_numE rfl rfl (by decide) (by decide) fun n m h => ⟨n, m, rfl, (nu_num h).mo⟩) (gvA_cons rfl (gv_numE rfl rfl (by decide) (by decide) fun n m h => ⟨n, m, rfl, (nu_num h).mo⟩) gvA_nil))) (by decide) (by decide) H7 (.refl R47.bag) (mB_ok R47.bag) _ fun v8 H8 d8 hd8 R8 hv8 _ => ?_
  obtain ⟨n8, m8, rfl, mo8⟩ := hd8
  have c8 := hv8.cpl
  -- the worth
  refine gv_some (K := K) (mu := mB b) (D := CplD Nu) (n := 2) rfl rfl (gvA_cons rfl (gv_numE rfl rfl (by decide) (by decide) fun n m h => ⟨n, m, rfl, nu_num h⟩) (gvA_cons rfl (gv_numE rfl rfl (by decide) (by decide) fun n m h => ⟨n, m, rfl, nu_num h⟩) gvA_nil)) (by decide) (by decide) H8 (.refl R8.bag) (mB_ok R8.bag) _ fun v9 H9 d9 hd9 R9 hv9 _ => ?_
  obtain ⟨n9, m9, rfl, nu9⟩ := hd9
  have c9 := hv9.cpl
  have R49 := (R47.trans R8).trans R9
  have f79 := (R8.trans R9).fb R47.bag
  have hlt9 := R49.keep _ _ nlb hlt
  have hts9 := hts.fut (R49.fb R4.bag)
  refine ⟨_, rfl, _, rfl, _, rfl, b, lt, ws, rfl, R49.bag, nlb, hlt9, by omega, fun pz Hz zs Rz hz hmem hzl => ?_⟩
  have fz := Rz.fb R49.bag
  have hzs : ∀ v ∈ zs, ∃ t, Th.Ok t ∧ ThAt K Hz v t := fun v hv => by
    obtain ⟨t, ot, at_⟩ := hws v (hmem v hv)
    exact ⟨t, ot, (at_.fut (R49.fb R4.bag)).fut fz⟩
  obtain ⟨us, hus, ous⟩ := ths_of hzs
  refine ⟨pz, zs, rfl, .inl ⟨.inl (.inl hz), fun rt nrt => ⟨_, rfl, by show 4 ≤ sizeLine; decide, fun r nr => ?_⟩⟩⟩
  have srt := same_upd (o := .tup zs) nrt
  have sr := same_upd (o := .tup [v9, v8, .ref rt, .ref rp]) nr
  have sz := srt.trans sr
  refine k (.ref r) _ ⟨(n9, m9), (n8, m8), us, (n5, m5), (n6, m6)⟩ ⟨nu9, mo8, ?_, ous, mo5, pt6⟩ (((R2a.trans R4).trans R49).trans Rz |>.same sz) ⟨r, v9, v8, rt, rp, zs, v5, v6, rfl, .of upd_same, (c9.fut fz).same sz, ((c8.fut (R9.fb R8.bag)).fut fz).same sz, sr.seqT (.of upd_same), hus.same sz, sz.seqT (seqT_fut (seqT_fut hrp f79) fz), ((c57.fut f79).fut fz).same sz, ((c67.fut f79).fut fz).same sz⟩
  rw [← hus.len, hzl]
  show ws.length ≤ 6
  omega
end
end K49
namespace K49
open PySem PySem.Spec PyProof.Rows L2 Sw StX RZ
def below (o g : Int × Int) : Bool := decide (g.1 * o.2 < o.1 * g.2)
def Srt (gs : List (Int × Int)) : Prop := gs.Pairwise fun f g => ¬ LeF g f
theorem below_iff {o g : Int × Int} : below o g = true ↔ ¬ LeF o g := by
  unfold below LeF
  rw [decide_eq_true_eq]
  omega
/-- those below stand ahead -/
theorem cut_at (o : Int × Int) (po : 0 < o.2) : ∀ gs : List (Int × Int), Srt gs → (∀ g ∈ gs, 0 < g.2) → (∀ g ∈ gs.take (gs.filter (below o)).length, below o g = true) ∧ (∀ g ∈ gs.drop (gs.filter (below o)).length, below o g = false)
  | [], _, _ => ⟨fun g h => (by simp at h), fun g h => (by simp at h)⟩
  | x :: gs, hs, hp => by
    have hs' := List.pairwise_cons.mp hs
    obtain ⟨i1, i2⟩ := cut_at o po gs hs'.2 fun g h => hp g (List.mem_cons_of_mem _ h)
    have px := hp x List.mem_cons_self
    cases hx : below o x with
    | true =>
      rw [List.filter_cons_of_pos (by rw [hx])]
      refine ⟨fun g h => ?_, fun g h => ?_⟩
      · rw [List.length_cons, List.take_succ_cons] at h
        rcases List.mem_cons.mp h with rfl | h
        · exact hx
        · exact i1 g h
      · rw [List.length_cons, List.drop_succ_cons] at h
        exact i2 g h
    | false =>
      have all : ∀ g ∈ gs, below o g = false := fun g h => by
        refine Bool.eq_false_iff.mpr fun z => below_iff.mp z ?_
        have ox : LeF o x := Classical.not_not.mp fun q => by
          rw [below_iff.mpr q] at hx
          cases hx
        have xg : LeF x g := by
          have := hs'.1 g h
          unfold LeF at *
          omega
        exact leF_trans po px (hp g (List.mem_cons_of_mem _ h)) ox xg
      have e : (x :: gs).filter (below o) = [] := by
        rw [List.filter_cons_of_neg (by rw [hx]; exact Bool.false_ne_true), List.filter_eq_nil_iff]
        intro g h z
        rw [all g h] at z
        cases z
      rw [e]
      refine ⟨fun g h => (by simp at h), fun g h => ?_⟩
      rcases List.mem_cons.mp h with rfl | h
      · exact hx
      · exact all g h
theorem Srt.ins {gs : List (Int × Int)} {o : Int × Int} (h : Srt gs) (c : Nat) (h1 : ∀ g ∈ gs.take c, ¬ LeF o g) (h2 : ∀ g ∈ gs.drop c, ¬ LeF g o) (po : 0 < o.2) (hp : ∀ g ∈ gs, 0 < g.2) : Srt (gs.take c ++ o :: gs.drop c) := by
  unfold Srt at *
  have e := h
  rw [← List.take_append_drop c gs] at e
  obtain ⟨a, b, d⟩ := List.pairwise_append.mp e
  refine List.pairwise_append.mpr ⟨a, List.pairwise_cons.mpr ⟨h2, b⟩, fun g hg k hk => ?_⟩
  rcases List.mem_cons.mp hk with rfl | hk
  · exact h1 g hg
  · exact d g hg k hk
def spAsc (K : PySem.W.Frag) : Sp := fun vs H Q _ => ∃ (a : Addr) (xs : List V) (fs : List (Int × Int)), vs = [.ref a] ∧ SqL K H a xs ∧ RowF K H xs fs ∧ (∀ f ∈ fs, OkF f) ∧ fs.length ≤ 200 ∧
  ∀ p H' ys gs, Same H H' → H' p = some (.lst ys) → RowF K H' ys gs → (∀ g ∈ gs, g ∈ fs) → (∀ g ∈ fs, g ∈ gs) → Srt gs → Q (.ref p) H'
section
variable {P : Program} {w : World} {K : PySem.W.Frag} {mg : Str → Option Value} {base : Heap}
abbrev s_law_ascending : Stmt := topS 49
theorem sc__law_ascending : FnScope ["fractions", "found", "one", "at", "other"] ["fractions"] (defScope s_law_ascending) := ⟨rfl, rfl, rfl, by decide +kernel, rfl, by decide +kernel, by decide +kernel⟩
theorem ok__law_ascending {f : Addr} {fd : FuncData} (F : Fun K "_law_ascending" "_law_ascending" s_law_ascending f fd) (B : Bt mg) (c__law_is_below : CalG P w K mg base 1 "_law_is_below" (spBelow K)) : FnG P w K mg base 2 f fd ["fractions"] (spAsc K) := by
  refine Fun.okG F sc__law_ascending (fun vs H Q E h => ?_) (fun cdv A outer s H vs Q E hg hr h => ?_)
  · obtain ⟨_, _, _, rfl, _⟩ := h
    rfl
  obtain ⟨a, xs, fs, rfl, hq, hr0, hs, hl, k⟩ := h
  have hu := Room.u64 hr
  refine ⟨_, (pss_cons (ps_set (i := 1) sc__law_ascending.nd rfl (Or.inl rfl) (pe_lst pa_nil))
    (pss_cons (ps_for PassesOwn.never rfl (pi_list (pv 0)) (pg_name (i := 2) sc__law_ascending.nd rfl (Or.inr rfl))
      (pss_cons (ps_set (i := 3) sc__law_ascending.nd rfl (Or.inl rfl) (pe_callB call_lenA (by rfl) B.len boot_len (pa_cons (pe_lc (own := [("other", 4)]) rfl sc__law_ascending.nd (pi_list (pv 1)) (blkOk_by (own := [("other", 4)]) (N := ["fractions", "found", "one", "at", "other"]) (sc := (defScope s_law_ascending)) (by decide +kernel)) (fun _ _ _ _ _ => (pg_name (i := 4) sc__law_ascending.nd rfl (Or.inl rfl))) (fun _ _ _ _ _ => (pts_one (pt_val (pc c__law_is_below hg hr (by decide) (by rfl) (pa_cons (pv 4) (pa_cons (pv 2) pa_nil)))))) (fun _ _ _ _ _ => pe_int)) pa_nil)))
      (pss_one (ps_if (PW.pt (pw_or (pt_cmpR op_eq (pv 3) (pe_callB call_lenA (by rfl) B.len boot_len (pa_cons (pv 1) pa_nil)) (nomark _)) (pw_or1 (pt_cmpR (op_neW hu) (pe_ix ix_list (pv 1) (pv 3) (fun _ _ => rfl)) (pv 2) (nomark _)))))
        (pss_one (ps_expr (pe_bm PySem.F.plainAttrs_list PySem.F.slot_list_insert PySem.F.type_list_insert mt_insert (pv 1) (pa_cons (pv 3) (pa_cons (pv 2) pa_nil)))))
        pss_nil))))
    (pss_one (ps_ret (pv 1))))), ?_⟩
  refine ⟨Nat.zero_le _, fun p np => ?_⟩
  have s0 := same_upd (o := .lst []) np
  refine ⟨_, rfl, a, rfl, ⟨_, s0.seq hq⟩, for_it (walk_list (K := K) (xs := xs) (a := a)) (fun i σ H' => ∃ o2 o3 ys gs, σ = [some (.ref a), some (.ref p), o2, o3, none] ∧ Same H H' ∧ H' p = some (.lst ys) ∧ RowF K H' ys gs ∧ (∀ g ∈ gs, g ∈ fs.take i) ∧ (∀ g ∈ fs.take i, g ∈ gs) ∧ Srt gs ∧ gs.length ≤ i)
    ⟨none, none, [], [], rfl, s0, upd_same, True.intro, (fun g h => nomatch h), (fun g h => by simp at h), .nil, Nat.le_refl _⟩ (fun i σ H' _ h => by
      obtain ⟨_, _, _, _, _, s, _⟩ := h
      exact s.seq hq) (fun i x σ H1 H2 hi h y => ?_) fun σ H1 h => ?_⟩
  · obtain ⟨o2, o3, ys, gs, rfl, s1, hp, hrow, g1, g2, srt, gl⟩ := h
    obtain ⟨rfl, hx⟩ := y
    obtain ⟨o, eo, co⟩ := hr0.get hx
    have om := List.mem_of_getElem? eo
    have so := hs o om
    have et : fs.take (i + 1) = fs.take i ++ [o] := by
      rw [List.take_add_one, eo]
      rfl
    have hi10 : i ≤ 200 := by rw [hr0.len] at hi; omega
    have co1 := co.same s1
    have gsm : ∀ g ∈ gs, OkF g := fun g h => hs g (List.mem_of_mem_take (g1 g h))
    -- at
    refine ⟨_, rfl, p, rfl, ⟨_, .inl (.inl hp)⟩, fun D nD => ?_⟩
    have nDp : p ≠ D := fun z => by
      rw [← z, hp] at nD
      cases nD
    refine lc_it (walk_list (K := K) (xs := ys) (a := p)) (fun j H' => Same H2 H' ∧ H' D = some (.lst (List.replicate ((gs.take j).filter (below o)).length (.int 1)))) ⟨same_upd nD, by rw [upd_same]; rfl⟩ (fun _ _ _ h => .inl (.inl (h.1 _ _ hp))) (fun j y H3 H4 hj h y' => ?_) fun H3 h => ?_
    · obtain ⟨h1, h2⟩ := h
      obtain ⟨rfl, hy⟩ := y'
      obtain ⟨g, eg, cg⟩ := hrow.get hy
      have sg := gsm g (List.mem_of_getElem? eg)
      have ej : gs.take (j + 1) = gs.take j ++ [g] := by
        rw [List.take_add_one, eg]
        rfl
      have hlen : ((gs.take j).filter (below o)).length ≤ 200 := Nat.le_trans (List.length_filter_le _ _) (by rw [List.length_take]; omega)
      refine ⟨rfl, _, rfl, _, rfl, y, x, g.1, g.2, o.1, o.2, rfl, cg.same h1, co1.same h1, sg.bn, sg.bd, so.bn, so.bd, _, rfl, ?_⟩
      show if below o g = true then _ else _
      have sD : ∀ {ob : HO}, Same H2 (upd H4 D ob) := fun {ob} q u e => by
        rw [upd_ne (ne_of_none e nD)]
        exact h1 q u e
      cases hb : below o g with
      | true =>
        refine iteT ⟨_, h2, Nat.lt_of_le_of_lt (by rw [List.length_replicate]; exact Nat.le_refl _) (small1000 (by omega)), sD, ?_⟩
        rw [upd_same, ej, List.filter_append, List.filter_cons_of_pos hb, List.length_append]
        show _ = some (HO.lst (List.replicate (_ + 1) _))
        rw [List.replicate_succ']
      | false =>
        refine iteF ⟨h1, ?_⟩
        rw [h2, ej, List.filter_append, List.filter_cons_of_neg (by rw [hb]; exact Bool.false_ne_true), List.filter_nil, List.append_nil]
    obtain ⟨h1, h2⟩ := h
    rw [hrow.len, List.take_length] at h2
    refine ⟨_, _, rfl, .inl ⟨_, .inl (.inl h2), rfl⟩, ?_⟩
    obtain ⟨t1, t2⟩ := cut_at o so.fr.pos gs srt fun g h => (gsm g h).fr.pos
    have cle : (gs.filter (below o)).length ≤ gs.length := List.length_filter_le _ _
    rw [List.length_replicate]
    generalize (gs.filter (below o)).length = c at t1 t2 cle
    have hp3 := h1 _ _ hp
    have hrow3 := hrow.same h1
    have co3 := co1.same h1
    have s3 := s1.trans h1
    -- found.insert
    have ins : (∀ g ∈ gs.drop c, ¬ LeF g o) → ∃ ys' gs', ys.take c ++ [x] ++ ys.drop c = ys' ∧ Same H (upd H3 p (.lst ys')) ∧ RowF K (upd H3 p (.lst ys')) ys' gs' ∧ (∀ g ∈ gs', g ∈ fs.take (i + 1)) ∧ (∀ g ∈ fs.take (i + 1), g ∈ gs') ∧ Srt gs' ∧ gs'.length ≤ i + 1 := fun hgt => by
      refine ⟨_, gs.take c ++ o :: gs.drop c, rfl, fun q u e => ?_, ?_, fun g h => ?_, fun g h => ?_, ?_, ?_⟩
      · rw [upd_ne (ne_of_none e np)]
        exact s3 q u e
      · have z := (RowF.ins co3 c hrow3).fut (fut_at (o' := .lst (ys.take c ++ [x] ++ ys.drop c)) hp3)
        have e : ys.take c ++ x :: ys.drop c = ys.take c ++ [x] ++ ys.drop c := by simp
        rw [e] at z
        exact z
      · rw [et]
        rcases List.mem_append.mp h with h | h
        · exact List.mem_append.mpr (.inl (g1 g (List.mem_of_mem_take h)))
        · rcases List.mem_cons.mp h with rfl | h
          · exact List.mem_append.mpr (.inr List.mem_cons_self)
          · exact List.mem_append.mpr (.inl (g1 g (List.mem_of_mem_drop h)))
      · rw [et] at h
        rcases List.mem_append.mp h with h | h
        · have z := g2 g h
          rw [← List.take_append_drop c gs] at z
          rcases List.mem_append.mp z with z | z
          · exact List.mem_append.mpr (.inl z)
          · exact List.mem_append.mpr (.inr (List.mem_cons_of_mem _ z))
        · rw [List.mem_singleton.mp h]
          exact List.mem_append.mpr (.inr List.mem_cons_self)
      · exact srt.ins c (fun g h => below_iff.mp (t1 g h)) hgt so.fr.pos fun g h => (gsm g h).fr.pos
      · rw [List.length_append, List.length_cons, List.length_take, List.length_drop]
        omega
    have put : (∀ g ∈ gs.drop c, ¬ LeF g o) → ∃ (l : Addr) (zs : List V) (j : Int) (y : V), V.ref p = .ref l ∧ [V.int (c : Int), x] = [.int j, y] ∧ H3 l = some (.lst zs) ∧ zs.length < sizeLine ∧ 0 ≤ j ∧ j < 2 ^ 63 ∧
        ∃ o2 o3 ys gs, [some (.ref a), some (.ref p), some x, some (.int (c : Int)), none] = [some (.ref a), some (.ref p), o2, o3, none] ∧ Same H (upd H3 l (.lst (zs.take j.toNat ++ [y] ++ zs.drop j.toNat))) ∧ (upd H3 l (.lst (zs.take j.toNat ++ [y] ++ zs.drop j.toNat))) p = some (.lst ys) ∧ RowF K (upd H3 l (.lst (zs.take j.toNat ++ [y] ++ zs.drop j.toNat))) ys gs ∧ (∀ g ∈ gs, g ∈ fs.take (i + 1)) ∧ (∀ g ∈ fs.take (i + 1), g ∈ gs) ∧ Srt gs ∧ gs.length ≤ i + 1 := fun hgt => by
      obtain ⟨ys', gs', e, z1, z2, z3, z4, z5, z6⟩ := ins hgt
      refine ⟨p, ys, c, x, rfl, rfl, hp3, small1000 (by rw [hrow.len]; omega), by omega, by omega, _, _, ys', gs', rfl, ?_⟩
      rw [Int.toNat_natCast, e]
      exact ⟨z1, upd_same, z2, z3, z4, z5, z6⟩
    refine ⟨_, rfl, _, rfl, _, ys.length, rfl, .inl ⟨_, .inl (.inl hp3), rfl⟩, rfl, _, rfl, iteEq (fun e => ?_) fun e => ?_⟩
    · -- at the end
      refine iteT ⟨_, rfl, .inl ⟨rfl, _, .inl (.inl hp3)⟩, _, rfl, _, rfl, ?_⟩
      refine put fun g h => ?_
      have : c = gs.length := by rw [hrow.len] at e; omega
      rw [this, List.drop_length] at h
      cases h
    · have hc : c < gs.length := by rw [hrow.len] at e; omega
      obtain ⟨v, ev, cv⟩ := hrow3.getD (List.getElem?_eq_getElem hc)
      have hgc : gs[c] ∈ gs.drop c := by
        rw [List.drop_eq_getElem_cons hc]
        exact List.mem_cons_self
      refine ⟨_, rfl, _, rfl, p, ys, c, v, rfl, rfl, .inl (.inl hp3), atI_nat ev, _, rfl, (fun _ => False), _, _, cv.dt, co3.dt, shaped_cpl _ _, shaped_cpl _ _, ?_⟩
      rw [eqv_cpl]
      refine ⟨_, rfl, iteN (fun z => ?_) fun z => ?_⟩
      · have ne : gs[c] ≠ o := fun q => by
          rw [decide_eq_false_iff_not] at z
          exact z (by rw [q])
        refine ⟨_, rfl, .inl ⟨rfl, _, .inl (.inl hp3)⟩, _, rfl, _, rfl, ?_⟩
        refine put fun g h hle => ?_
        have pc := (gsm _ (List.getElem_mem hc)).fr
        have nb := t2 _ hgc
        have ole : LeF o gs[c] := Classical.not_not.mp fun q => by
          rw [below_iff.mpr q] at nb
          cases nb
        rw [List.drop_eq_getElem_cons hc] at h
        rcases List.mem_cons.mp h with rfl | h
        · exact ne (leF_anti pc so.fr hle ole)
        · have sr := srt
          unfold Srt at sr
          rw [← List.take_append_drop c gs, List.drop_eq_getElem_cons hc] at sr
          have lt := (List.pairwise_cons.mp (List.pairwise_append.mp sr).2.1).1 g h
          have pg := (gsm g (List.mem_of_mem_drop h)).fr
          exact lt (leF_trans pg.pos so.fr.pos pc.pos hle ole)
      · have q : gs[c] = o := by
          have := of_decide_eq_true z
          exact Prod.ext (congrArg Prod.fst this) (congrArg Prod.snd this)
        have oin : o ∈ gs := by
          rw [← q]
          exact List.getElem_mem hc
        refine ⟨_, _, ys, gs, rfl, s3, hp3, hrow3, fun g h => ?_, fun g h => ?_, srt, by omega⟩
        · rw [et]
          exact List.mem_append.mpr (.inl (g1 g h))
        · rw [et] at h
          rcases List.mem_append.mp h with h | h
          · exact g2 g h
          · rw [List.mem_singleton.mp h]
            exact oin
  · obtain ⟨o2, o3, ys, gs, rfl, s1, hp, hrow, g1, g2, srt, _⟩ := h
    rw [hr0.len, List.take_length] at g1 g2
    exact ⟨_, rfl, k p _ ys gs s1 hp hrow g1 g2 srt⟩
def shortF (f : F2) : Bool := decide (f.1.natAbs < 1000000000000) && decide (f.2 < 1000000000000)
def spShort (K : PySem.W.Frag) : Sp := fun vs H Q _ => ∃ (v : V) (f : F2), vs = [v] ∧ Cpl K H v f.1 f.2 ∧ Q (.bl (shortF f)) H
abbrev s_law_is_short : Stmt := topS 56
theorem sc__law_is_short : FnScope ["one"] ["one"] (defScope s_law_is_short) := ⟨rfl, rfl, rfl, by decide +kernel, rfl, by decide +kernel, by decide +kernel⟩
theorem ok__law_is_short {f : Addr} {fd : FuncData} (F : Fun K "_law_is_short" "_law_is_short" s_law_is_short f fd) (B : Bt mg) : FnG P w K mg base 1 f fd ["one"] (spShort K) := by
  refine Fun.okG F sc__law_is_short (fun vs H Q E h => ?_) (fun cdv A outer s H vs Q E hg hr h => ?_)
  · obtain ⟨_, _, rfl, _⟩ := h
    rfl
  obtain ⟨v, g, rfl, ⟨a, rfl, ha⟩, k⟩ := h
  refine ⟨_, (pss_one (ps_ret (pe_and (pe_cmpR op_lt (pe_callB call_abs (by rfl) B.abs bb_abs (pa_cons (pe_ix ix_tup (pv 0) pe_int (fun _ _ => rfl)) pa_nil)) (pe_op op_pow pe_int pe_int) (nomark _)) (pe_one (pe_cmpR op_lt (pe_ix ix_tup (pv 0) pe_int (fun _ _ => rfl)) (pe_op op_pow pe_int pe_int) (nomark _)))))), ?_⟩
  obtain ⟨T, hT⟩ : ∃ T : Int, T = 1000000000000 := ⟨_, rfl⟩
  have e12 : (10 : Int) ^ (12 : Int).toNat = T := by rw [hT]; decide
  have ab : (if g.1 < 0 then -g.1 else g.1) = (g.1.natAbs : Int) := by split <;> omega
  refine ⟨_, rfl, a, _, 0, _, rfl, rfl, ha, atI_nat (j := 0) rfl, g.1, rfl, ?_⟩
  rw [ab]
  refine ⟨10, 12, rfl, rfl, ⟨by decide, by decide, by decide⟩, ?_⟩
  dsimp only
  rw [e12]
  refine ⟨_, _, rfl, rfl, ?_⟩
  unfold shortF at k
  refine ⟨_, rfl, iteP (fun h1 => ?_) fun h1 => ?_⟩
  · rw [decide_eq_true (show g.1.natAbs < 1000000000000 by omega), Bool.true_and] at k
    refine ⟨_, rfl, a, _, 1, _, rfl, rfl, ha, atI_nat (j := 1) rfl, 10, 12, rfl, rfl, ⟨by decide, by decide, by decide⟩, ?_⟩
    dsimp only
    rw [e12]
    rw [← hT] at k
    exact ⟨_, _, rfl, rfl, k⟩
  · rw [decide_eq_false (show ¬ g.1.natAbs < 1000000000000 by omega), Bool.false_and] at k
    exact k
theorem short_sz {f : F2} (hf : Fr f.1 f.2) (h : shortF f = true) : Sz 40 40 f := by
  unfold shortF at h
  rw [Bool.and_eq_true, decide_eq_true_eq, decide_eq_true_eq] at h
  have p := hf.pos
  exact ⟨hf, Nat.lt_trans h.1 (by decide), Nat.lt_of_le_of_lt (show f.2.natAbs ≤ 1000000000000 by omega) (by decide)⟩
theorem rowF_app {K : PySem.W.Frag} {H : Hp} : ∀ {vs : List V} {fs : List F2} {ws : List V} {gs : List F2}, RowF K H vs fs → RowF K H ws gs → RowF K H (vs ++ ws) (fs ++ gs)
  | [], [], _, _, _, k => k
  | x :: vs, g :: fs, _, _, h, k => ⟨h.1, rowF_app h.2 k⟩
  | [], _ :: _, _, _, h, _ => h.elim
  | _ :: _, [], _, _, h, _ => h.elim
def spPrices (K : PySem.W.Frag) : Sp := fun vs H Q _ => ∃ (b : Addr) (v : V) (D : Deal), vs = [.ref b, v] ∧ BagAt H b ∧ DealAt K H v D ∧ D.Ok ∧ ∀ p H' xs fs, Rel b H H' → H' p = some (.lst xs) → RowF K H' xs fs → (∀ f ∈ fs, Sz 40 40 f) → Q (.ref p) H'
abbrev s_law_prices : Stmt := topS 55
theorem sc__law_prices : FnScope ["bag", "deal", "found", "thing", "rest", "near", "one"] ["bag", "deal"] (defScope s_law_prices) := ⟨rfl, rfl, rfl, by decide +kernel, rfl, by decide +kernel, by decide +kernel⟩
theorem ok__law_prices {f : Addr} {fd : FuncData} (F : Fun K "_law_prices" "_law_prices" s_law_prices f fd) (B : Bt mg) (c__law_number : CalG P w K mg base 3 "_law_number" (spNumE K)) (c__law_lessened : CalG P w K mg base 3 "_law_lessened" (spTwo K subF)) (c__law_divided : CalG P w K mg base 3 "_law_divided" (spDiv K)) (c__law_multiplied : CalG P w K mg base 3 "_law_multiplied" (spTwo K mulF)) (c__law_some : CalG P w K mg base 2 "_law_some" spSome) (c__law_ascending : CalG P w K mg base 2 "_law_ascending" (spAsc K)) (c__law_is_short : CalG P w K mg base 1 "_law_is_short" (spShort K)) : FnG P w K mg base 4 f fd ["bag", "deal"] (spPrices K) := by
  refine Fun.okG F sc__law_prices (fun vs H Q E h => ?_) (fun cdv A outer s H vs Q E hg hr h => ?_)
  · obtain ⟨_, _, _, rfl, _⟩ := h
    rfl
  obtain ⟨b, v, D, rfl, hb, ⟨r, x, y, rt, rp, vs, c, q, rfl, d⟩, ok, k⟩ := h
  refine ⟨_, (pss_cons (ps_set (i := 2) sc__law_prices.nd rfl (Or.inl rfl) (pe_lst (pa_cons (pe_tup (pa_cons pe_int (pa_cons pe_int pa_nil))) (pa_cons (pc c__law_number hg hr (by decide) (by rfl) (pa_cons (pv 0) (pa_cons pe_int pa_nil))) (pa_cons (pc c__law_number hg hr (by decide) (by rfl) (pa_cons (pv 0) (pa_cons pe_int pa_nil))) pa_nil)))))
    (pss_cons (ps_for PassesOwn.never rfl (pi_tup (pe_ix ix_tup (pv 1) pe_int (fun _ _ => rfl))) (pg_name (i := 3) sc__law_prices.nd rfl (Or.inl rfl))
      (C8.pss_cut (ps_if (PW.pt (pw_and (pt_cmpR op_eq (pe_ix ix_tup (pv 3) pe_int (fun _ _ => rfl)) pe_str (nomark _)) (pw_and1 (pt_cmpR op_notN (pe_ix ix_tup (pv 3) pe_int (fun _ _ => rfl)) pe_non (nomark _)))))
        (pss_cons (ps_set (i := 4) sc__law_prices.nd rfl (Or.inl rfl) (pc c__law_lessened hg hr (by decide) (by rfl) (pa_cons (pe_tup (pa_cons pe_int (pa_cons pe_int pa_nil))) (pa_cons (pe_ifExp (pt_cmpR op_notN (pe_ix ix_tup (pv 3) pe_int (fun _ _ => rfl)) pe_non (nomark _)) (pe_ix ix_tup (pv 3) pe_int (fun _ _ => rfl)) (pe_tup (pa_cons pe_int (pa_cons pe_int pa_nil)))) pa_nil))))
        (pss_one (ps_expr (pe_bm PySem.F.plainAttrs_list PySem.F.slot_list_append PySem.F.type_list_append mt_append (pv 2) (pa_cons (pc c__law_divided hg hr (by decide) (by rfl) (pa_cons (pe_ix ix_tup (pv 3) pe_int (fun _ _ => rfl)) (pa_cons (pv 4) pa_nil))) pa_nil)))))
        pss_nil)
      (pss_one (ps_if (pt_cmpR op_in_seq (pe_ix ix_tup (pv 3) pe_int (fun _ _ => rfl)) (pe_tup (pa_cons pe_str (pa_cons pe_str pa_nil))) (by rfl))
        (pss_one (ps_expr (pe_bm PySem.F.plainAttrs_list PySem.F.slot_list_append PySem.F.type_list_append mt_append (pv 2) (pa_cons (pe_ix ix_tup (pv 3) pe_int (fun _ _ => rfl)) pa_nil))))
        pss_nil))))
    (pss_cons (ps_setLc (i := 5) (own := [("one", 6)]) rfl sc__law_prices.nd rfl rfl (sw_true rfl rfl rfl (by decide +kernel)) (pi_list (pv 2)) (blkOk_by (own := [("one", 6)]) (N := ["bag", "deal", "found", "thing", "rest", "near", "one"]) (sc := (defScope s_law_prices)) (by decide +kernel)) (fun _ _ _ _ _ => (pg_name (i := 6) sc__law_prices.nd rfl (Or.inl rfl))) (fun _ _ _ _ _ => pts_nil) (fun _ _ _ _ _ => (pc c__law_multiplied hg hr (by decide) (by rfl) (pa_cons (pv 6) (pa_cons (pc c__law_some hg hr (by decide) (by rfl) (pa_cons (pv 0) (pa_cons (pe_lst (pa_cons (pe_tup (pa_cons pe_int (pa_cons pe_int pa_nil))) (pa_cons (pe_tup (pa_cons pe_int (pa_cons pe_int pa_nil))) (pa_cons (pe_tup (pa_cons pe_int (pa_cons pe_int pa_nil))) pa_nil)))) pa_nil))) pa_nil)))))
    (pss_one (ps_ret (pc c__law_ascending hg hr (by decide) (by rfl) (pa_cons (pe_lc (own := [("one", 6)]) rfl sc__law_prices.nd (pi_list (pe_op op_cat (pv 2) (pv 5))) (blkOk_by (own := [("one", 6)]) (N := ["bag", "deal", "found", "thing", "rest", "near", "one"]) (sc := (defScope s_law_prices)) (by decide +kernel)) (fun _ _ _ _ _ => (pg_name (i := 6) sc__law_prices.nd rfl (Or.inl rfl))) (fun _ _ _ _ _ => (pts_one (pt_val (pc c__law_is_short hg hr (by decide) (by rfl) (pa_cons (pv 6) pa_nil))))) (fun _ _ _ _ _ => (pv 6))) pa_nil))))))), ?_⟩
  have num : ∀ {H1 : Hp} {n : Int} {Q1 : VK} {E1 : XK}, BagAt H1 b → 0 < n → n ≤ 100000000 → (∀ v H' f, Nu f → Rel b H1 H' → Cpl K H' v f.1 f.2 → Q1 v H') → spNumE K [.ref b, .int n] H1 Q1 E1 := fun hb1 h0 h1 q =>
    ⟨_, h0, h1, b, mB b, rfl, rfl, hb1, mB_ok hb1, fun v H' d hd R hv _ => by
      obtain ⟨x, y, rfl, hq⟩ := hd
      exact q v H' (x, y) (nu_num hq) R hv.cpl⟩
  refine ⟨by show 2 ≤ sizeLine; decide, fun p0 np0 => ?_⟩
  have s0 := same_upd (o := .tup [.int 0, .int 1]) np0
  have R0 := Rel.of_same hb s0
  have c0 : Cpl K (upd H p0 (.tup [.int 0, .int 1])) (.ref p0) 0 1 := .mk upd_same
  revert R0 c0
  generalize upd H p0 (.tup [.int 0, .int 1]) = H0
  intro R0 c0
  refine ⟨_, rfl, num R0.bag (by decide) (by decide) fun v1 H1 f1 n1 R1 c1 => ⟨_, rfl, num R1.bag (by decide) (by decide) fun v2 H2 f2 n2 R2 c2 => ⟨by show 3 ≤ sizeLine; decide, fun lf nlf => ?_⟩⟩⟩
  have R02 := (R0.trans R1).trans R2
  have c0' := c0.fut ((R1.trans R2).fb R0.bag)
  have c1' := c1.fut (R2.fb R1.bag)
  have d2 := d.fut (R02.fb hb)
  have sl := same_upd (o := .lst [.ref p0, v1, v2]) nlf
  have nu60 : ∀ {g : F2}, Nu g → Sz 60 60 g := fun h => h.sz.mono (by decide) (by decide)
  have rowi : RowF K (upd H2 lf (.lst [.ref p0, v1, v2])) [.ref p0, v1, v2] [(0, 1), f1, f2] := ⟨c0'.same sl, c1'.same sl, c2.same sl, True.intro⟩
  refine ⟨_, rfl, r, _, 2, _, rfl, rfl, sl.seqT d2.at_, atI_nat (j := 2) rfl, rt, rfl, ⟨vs, sl.seqT d2.t⟩, for_it (walk_tup (K := K) (xs := vs) (a := rt)) (fun i σ H' => ∃ o3 o4 xs fs, σ = [some (.ref b), some (.ref r), some (.ref lf), o3, o4, none, none] ∧ Same H2 H' ∧ H' lf = some (.lst xs) ∧ RowF K H' xs fs ∧ (∀ f ∈ fs, Sz 60 60 f) ∧ xs.length ≤ 3 + 2 * i)
    ⟨none, none, _, _, rfl, sl, upd_same, rowi, fun g hg => ?_, Nat.le_refl _⟩ (fun i σ H' _ h => by
      obtain ⟨_, _, _, _, _, sm, _⟩ := h
      exact sm.seqT d2.t) (fun i xv σ H3 H3' hi h y => ?_) fun σ H3 h => ?_⟩
  · simp only [List.mem_cons, List.not_mem_nil, or_false] at hg
    rcases hg with rfl | rfl | rfl
    · exact sz_zero.mono (by decide) (by decide)
    · exact nu60 n1
    · exact nu60 n2
  · obtain ⟨o3, o4, xs, fs, rfl, sm, hlf, hrow, hsz, hl⟩ := h
    obtain ⟨rfl, hx⟩ := y
    obtain ⟨t, et, ht0⟩ := d2.ts.get hx
    have ot := ok.things t (List.mem_of_getElem? et)
    have ht := ht0.same sm
    have hlen : i < 6 := by
      have := d2.ts.len
      have := ok.len
      omega
    refine ⟨fun σ H' => ∃ o4 xs fs, σ = [some (.ref b), some (.ref r), some (.ref lf), some xv, o4, none, none] ∧ Same H2 H' ∧ H' lf = some (.lst xs) ∧ RowF K H' xs fs ∧ (∀ f ∈ fs, Sz 60 60 f) ∧ xs.length ≤ 3 + 2 * i + 1, ?_, ?_⟩
    · cases t with
      | shares cc =>
        obtain ⟨a, z, rfl, hS, hz⟩ := ht
        exact ⟨_, rfl, a, _, 0, _, rfl, rfl, hS, atI_nat (j := 0) rfl, rfl, _, rfl, iteP (vstr_ne (by decide)) fun _ => ⟨_, xs, fs, rfl, sm, hlf, hrow, hsz, by omega⟩⟩
      | kept cc oo =>
        obtain ⟨a, z, z2, rfl, hS, hz, hz2⟩ := ht
        exact ⟨_, rfl, a, _, 0, _, rfl, rfl, hS, atI_nat (j := 0) rfl, rfl, _, rfl, iteP (vstr_ne (by decide)) fun _ => ⟨_, xs, fs, rfl, sm, hlf, hrow, hsz, by omega⟩⟩
      | weighed cc oo tt =>
        obtain ⟨a, z, z2, z3, rfl, hS, hz, hz2, hz3⟩ := ht
        exact ⟨_, rfl, a, _, 0, _, rfl, rfl, hS, atI_nat (j := 0) rfl, rfl, _, rfl, iteP (vstr_ne (by decide)) fun _ => ⟨_, xs, fs, rfl, sm, hlf, hrow, hsz, by omega⟩⟩
      | note aa cap disc =>
        obtain ⟨a, z, yv, zv, rfl, hS, hz, hy, hzv⟩ := ht
        obtain ⟨oa, oc, od⟩ := ot
        obtain ⟨rz, rp0⟩ := rest_sz od
        refine ⟨_, rfl, a, _, 0, _, rfl, rfl, hS, atI_nat (j := 0) rfl, rfl, _, rfl, iteP (fun _ => ?_) fun z => absurd rfl z⟩
        cases cap with
        | none =>
          cases (show yv = .non from hy)
          exact ⟨_, rfl, a, _, 2, _, rfl, rfl, hS, atI_nat (j := 2) rfl, rfl, _, rfl, iteF ⟨_, xs, fs, rfl, sm, hlf, hrow, hsz, by omega⟩⟩
        | some cp =>
        have nc := oc cp rfl
        obtain ⟨yc, rfl, hyc⟩ : Cpl K _ yv cp.1 cp.2 := hy
        have hyc : Cpl K _ (.ref yc) cp.1 cp.2 := ⟨yc, rfl, hyc⟩
        refine ⟨_, rfl, a, _, 2, _, rfl, rfl, hS, atI_nat (j := 2) rfl, rfl, _, rfl, iteT ⟨by show 2 ≤ sizeLine; decide, fun p1 np1 => ?_⟩⟩
        have s1 := same_upd (o := .tup [.int 1, .int 1]) np1
        have o1 : OkF (1, 1) := sz_one.okf (by decide) (by decide)
        cases disc with
        | none =>
          cases (show zv = .non from hzv)
          refine ⟨_, rfl, a, _, 3, .non, rfl, rfl, s1.seqT hS, atI_nat (j := 3) rfl, rfl, _, rfl, iteF ⟨by show 2 ≤ sizeLine; decide, fun p2 np2 => ?_⟩⟩
          have s2 := same_upd (o := .tup [.int 0, .int 1]) np2
          have o0 : OkF (0, 1) := sz_zero.okf (by decide) (by decide)
          refine ⟨.ref p1, .ref p2, 1, 1, 0, 1, rfl, (Cpl.mk upd_same).same s2, .mk upd_same, o1.fr, o0.fr, o1.bn, o1.bd, o0.bn, o0.bd, fun p3 H3 s3 _ e3 => ?_⟩
          rw [rest_none] at e3
          have c3 : Cpl K H3 (.ref p3) (restF none).1 (restF none).2 := .mk e3
          have S13 := (s1.trans s2).trans s3
          have hS3 := S13.seqT hS
          refine ⟨_, rfl, .inl ⟨rfl, _, .inl (.inl (S13 _ _ hlf))⟩, _, rfl, a, _, 2, _, rfl, rfl, hS3, atI_nat (j := 2) rfl, _, rfl, .ref yc, .ref p3, cp.1, cp.2, _, _, rfl, hyc.same S13, c3, nc.sz.fr, rz.fr, nc.ok.bn, nc.ok.bd, rz.bn (by decide), rz.bd (by decide), by omega, fun p4 H4 s4 _ e4 => ?_⟩
          have s14 := S13.trans s4
          have hlf4 := s14 _ _ hlf
          have f4 := fut_grow (ys := xs ++ [.ref p4]) hlf4
          refine ⟨lf, xs, .ref p4, rfl, rfl, hlf4, small1000 (by omega), _, xs ++ [.ref p4], fs ++ [divF cp.1 cp.2 (restF _).1 (restF _).2], rfl, fun z o e => ?_, upd_same, rowF_snoc ((hrow.same s14).fut f4) ((Cpl.mk e4).fut f4), fun g hg => ?_, by rw [List.length_append]; show xs.length + 1 ≤ _; omega⟩
          · rw [upd_ne (ne_of_none e nlf)]
            exact s14 _ _ (sm _ _ e)
          · rcases List.mem_append.mp hg with hg | hg
            · exact hsz g hg
            · rw [List.mem_singleton.mp hg]
              exact (nc.sz.div rz (by omega)).mono (by decide) (by decide)
        | some dd =>
          have pd := od dd rfl
          obtain ⟨zc, rfl, hzc⟩ : Cpl K _ zv dd.1 dd.2 := hzv
          have hzc : Cpl K _ (.ref zc) dd.1 dd.2 := ⟨zc, rfl, hzc⟩
          refine ⟨_, rfl, a, _, 3, _, rfl, rfl, s1.seqT hS, atI_nat (j := 3) rfl, rfl, _, rfl, iteT ⟨_, rfl, a, _, 3, _, rfl, rfl, s1.seqT hS, atI_nat (j := 3) rfl, ?_⟩⟩
          refine ⟨.ref p1, .ref zc, 1, 1, dd.1, dd.2, rfl, .mk upd_same, hzc.same s1, o1.fr, pd.sz.fr, o1.bn, o1.bd, pd.ok.bn, pd.ok.bd, fun p3 H3 s3 _ e3 => ?_⟩
          have c3 : Cpl K H3 (.ref p3) (restF (some dd)).1 (restF (some dd)).2 := .mk e3
          have S13 := s1.trans s3
          have hS3 := S13.seqT hS
          refine ⟨_, rfl, .inl ⟨rfl, _, .inl (.inl (S13 _ _ hlf))⟩, _, rfl, a, _, 2, _, rfl, rfl, hS3, atI_nat (j := 2) rfl, _, rfl, .ref yc, .ref p3, cp.1, cp.2, _, _, rfl, hyc.same S13, c3, nc.sz.fr, rz.fr, nc.ok.bn, nc.ok.bd, rz.bn (by decide), rz.bd (by decide), by omega, fun p4 H4 s4 _ e4 => ?_⟩
          have s14 := S13.trans s4
          have hlf4 := s14 _ _ hlf
          have f4 := fut_grow (ys := xs ++ [.ref p4]) hlf4
          refine ⟨lf, xs, .ref p4, rfl, rfl, hlf4, small1000 (by omega), _, xs ++ [.ref p4], fs ++ [divF cp.1 cp.2 (restF _).1 (restF _).2], rfl, fun z o e => ?_, upd_same, rowF_snoc ((hrow.same s14).fut f4) ((Cpl.mk e4).fut f4), fun g hg => ?_, by rw [List.length_append]; show xs.length + 1 ≤ _; omega⟩
          · rw [upd_ne (ne_of_none e nlf)]
            exact s14 _ _ (sm _ _ e)
          · rcases List.mem_append.mp hg with hg | hg
            · exact hsz g hg
            · rw [List.mem_singleton.mp hg]
              exact (nc.sz.div rz (by omega)).mono (by decide) (by decide)
    · rintro σ H4 ⟨o4', xs', fs', rfl, sm4, hlf4, hrow4, hsz4, hl4⟩
      have ht4 := ht0.same sm4
      cases t with
      | shares cc =>
        obtain ⟨a, z, rfl, hS, hz⟩ := ht4
        refine ⟨_, rfl, a, _, 0, _, rfl, rfl, hS, atI_nat (j := 0) rfl, by show 2 ≤ sizeLine; decide, fun tp ntp => ?_⟩
        have s5 := same_upd (o := .tup [.str "kept", .str "weighed"]) ntp
        have hlf5 := s5 _ _ hlf4
        have hrow5 := hrow4.same s5
        have sm5 := sm4.trans s5
        refine ⟨tp, [.str "kept", .str "weighed"], rfl, .inr (.inl (.inl upd_same)), rfl, rfl, _, rfl, ?_⟩
        revert s5 hlf5 hrow5 sm5
        generalize upd H4 tp (.tup [.str "kept", .str "weighed"]) = H5
        intro s5 hlf5 hrow5 sm5
        exact iteB (fun e => absurd e (by decide +kernel)) fun _ => ⟨_, o4', xs', fs', rfl, sm5, hlf5, hrow5, hsz4, by omega⟩
      | note aa cap disc =>
        obtain ⟨a, z, yv, zv, rfl, hS, hz, hy, hzv⟩ := ht4
        refine ⟨_, rfl, a, _, 0, _, rfl, rfl, hS, atI_nat (j := 0) rfl, by show 2 ≤ sizeLine; decide, fun tp ntp => ?_⟩
        have s5 := same_upd (o := .tup [.str "kept", .str "weighed"]) ntp
        have hlf5 := s5 _ _ hlf4
        have hrow5 := hrow4.same s5
        have sm5 := sm4.trans s5
        refine ⟨tp, [.str "kept", .str "weighed"], rfl, .inr (.inl (.inl upd_same)), rfl, rfl, _, rfl, ?_⟩
        revert s5 hlf5 hrow5 sm5
        generalize upd H4 tp (.tup [.str "kept", .str "weighed"]) = H5
        intro s5 hlf5 hrow5 sm5
        exact iteB (fun e => absurd e (by decide +kernel)) fun _ => ⟨_, o4', xs', fs', rfl, sm5, hlf5, hrow5, hsz4, by omega⟩
      | kept cc oo =>
        obtain ⟨a, z, z2, rfl, hS, hz, hz2⟩ := ht4
        have ot2 : Nu oo := ot.2
        refine ⟨_, rfl, a, _, 0, _, rfl, rfl, hS, atI_nat (j := 0) rfl, by show 2 ≤ sizeLine; decide, fun tp ntp => ?_⟩
        have s5 := same_upd (o := .tup [.str "kept", .str "weighed"]) ntp
        have hlf5 := s5 _ _ hlf4
        have hrow5 := hrow4.same s5
        have sm5 := sm4.trans s5
        refine ⟨tp, [.str "kept", .str "weighed"], rfl, .inr (.inl (.inl upd_same)), rfl, rfl, _, rfl, ?_⟩
        revert s5 hlf5 hrow5 sm5
        generalize upd H4 tp (.tup [.str "kept", .str "weighed"]) = H5
        intro s5 hlf5 hrow5 sm5
        refine iteB (fun _ => ?_) fun e => absurd e (by decide +kernel)
        have f5 := fut_grow (ys := xs' ++ [z2]) hlf5
        refine ⟨_, rfl, .inl ⟨rfl, _, .inl (.inl hlf5)⟩, _, rfl, a, _, 2, _, rfl, rfl, s5.seqT hS, atI_nat (j := 2) rfl, lf, xs', z2, rfl, rfl, hlf5, small1000 (by omega), _, o4', xs' ++ [z2], fs' ++ [oo], rfl, fun z o e => ?_, upd_same, rowF_snoc (hrow5.fut f5) ((hz2.same s5).fut f5), fun g hg => ?_, by rw [List.length_append]; show xs'.length + 1 ≤ _; omega⟩
        · rw [upd_ne (ne_of_none e nlf)]
          exact sm5 _ _ e
        · rcases List.mem_append.mp hg with hg | hg
          · exact hsz4 g hg
          · rw [List.mem_singleton.mp hg]
            exact nu60 ot2
      | weighed cc oo tt =>
        obtain ⟨a, z, z2, z3, rfl, hS, hz, hz2, hz3⟩ := ht4
        have ot2 : Nu oo := ot.2.1
        refine ⟨_, rfl, a, _, 0, _, rfl, rfl, hS, atI_nat (j := 0) rfl, by show 2 ≤ sizeLine; decide, fun tp ntp => ?_⟩
        have s5 := same_upd (o := .tup [.str "kept", .str "weighed"]) ntp
        have hlf5 := s5 _ _ hlf4
        have hrow5 := hrow4.same s5
        have sm5 := sm4.trans s5
        refine ⟨tp, [.str "kept", .str "weighed"], rfl, .inr (.inl (.inl upd_same)), rfl, rfl, _, rfl, ?_⟩
        revert s5 hlf5 hrow5 sm5
        generalize upd H4 tp (.tup [.str "kept", .str "weighed"]) = H5
        intro s5 hlf5 hrow5 sm5
        refine iteB (fun _ => ?_) fun e => absurd e (by decide +kernel)
        have f5 := fut_grow (ys := xs' ++ [z2]) hlf5
        refine ⟨_, rfl, .inl ⟨rfl, _, .inl (.inl hlf5)⟩, _, rfl, a, _, 2, _, rfl, rfl, s5.seqT hS, atI_nat (j := 2) rfl, lf, xs', z2, rfl, rfl, hlf5, small1000 (by omega), _, o4', xs' ++ [z2], fs' ++ [oo], rfl, fun z o e => ?_, upd_same, rowF_snoc (hrow5.fut f5) ((hz2.same s5).fut f5), fun g hg => ?_, by rw [List.length_append]; show xs'.length + 1 ≤ _; omega⟩
        · rw [upd_ne (ne_of_none e nlf)]
          exact sm5 _ _ e
        · rcases List.mem_append.mp hg with hg | hg
          · exact hsz4 g hg
          · rw [List.mem_singleton.mp hg]
            exact nu60 ot2
  obtain ⟨o3, o4, xs, fs, rfl, sm, hlf, hrow, hsz, hl⟩ := h
  have hl6 : xs.length ≤ 15 := by
    have := d2.ts.len
    have := ok.len
    omega
  have hb2 := R02.bag
  have hb3 := hb2.same sm
  have nlb : lf ≠ b := fun z => by
    obtain ⟨_, _, _, _, _, q, _⟩ := hb2
    rw [z, q] at nlf
    cases nlf
  have hq3 : SqL K H3 lf xs := .inl (.inl hlf)
  have s99 : Sz 4 4 (9, 10) := ⟨⟨by decide, gI_cp.mp (by decide)⟩, by decide, by decide⟩
  have s11 : Sz 4 4 (11, 10) := ⟨⟨by decide, gI_cp.mp (by decide)⟩, by decide, by decide⟩
  have s12 : Sz 4 4 (1, 2) := ⟨⟨by decide, gI_cp.mp (by decide)⟩, by decide, by decide⟩
  refine ⟨_, rfl, lf, rfl, ⟨xs, hq3⟩, fun Dn nDn => lc_it (walk_list (K := K) (xs := xs) (a := lf)) (fun i H' => ∃ ws gs, H' Dn = some (.lst ws) ∧ RowF K H' ws gs ∧ (∀ g ∈ gs, Sz 70 70 g) ∧ ws.length = i ∧ Rel b H3 H') ⟨[], [], upd_same, True.intro, (fun g h => nomatch h), rfl, Rel.of_same hb3 (same_upd nDn)⟩ (fun i H' _ h => by
      obtain ⟨_, _, _, _, _, _, R⟩ := h
      exact .inl (.inl (R.keep _ _ nlb hlf))) ?_ ?_⟩
  · rintro i xv H4 H4' hi ⟨ws, gs, hDn, hws, hgs, hwl, R4⟩ ⟨rfl, hx⟩
    have nDb : Dn ≠ b := fun z => by
      obtain ⟨_, _, _, _, _, q, _⟩ := hb3
      rw [z, q] at nDn
      cases nDn
    obtain ⟨g, eg, cg⟩ := hrow.get hx
    have sg := hsz g (List.mem_of_getElem? eg)
    refine ⟨rfl, _, rfl, ?_⟩
    refine gv_some (K := K) (mu := mB b) (D := CplD (Sz 4 4)) (n := 3) rfl rfl (gvA_cons rfl (gv_cpl rfl ⟨_, _, rfl, s99⟩) (gvA_cons rfl (gv_cpl rfl ⟨_, _, rfl, s11⟩) (gvA_cons rfl (gv_cpl rfl ⟨_, _, rfl, s12⟩) gvA_nil))) (by decide) (by decide) H4' (.refl R4.bag) (mB_ok R4.bag) _ fun v5 H5 d5 hd5 R5 hv5 _ => ?_
    obtain ⟨n5, m5, rfl, z5⟩ := hd5
    have c5 := hv5.cpl
    have cg5 := (cg.fut (R4.fb hb3)).fut (R5.fb R4.bag)
    have hD5 := R5.keep _ _ nDb hDn
    refine ⟨xv, v5, g.1, g.2, n5, m5, rfl, cg5, c5, sg.fr, z5.fr, sg.bn (by decide), sg.bd (by decide), z5.bn (by decide), z5.bd (by decide), fun p6 H6 s6 _ e6 => ?_⟩
    have hD6 := s6 _ _ hD5
    have f6 := fut_grow (ys := ws ++ [.ref p6]) hD6
    refine ⟨ws, hD6, small1000 (by omega), ws ++ [.ref p6], gs ++ [mulF g.1 g.2 n5 m5], upd_same, rowF_snoc (((hws.fut (R5.fb R4.bag)).same s6).fut f6) ((Cpl.mk e6).fut f6), fun u hu => ?_, by rw [List.length_append, hwl]; rfl, ((R4.trans R5).same s6).at hb3 nDn⟩
    rcases List.mem_append.mp hu with hu | hu
    · exact hgs u hu
    · rw [List.mem_singleton.mp hu]
      exact (sg.mul z5).mono (by decide) (by decide)
  rintro H4 ⟨ws, gs, hDn, hws, hgs, hwl, R4⟩
  have hlf4 := R4.keep _ _ nlb hlf
  have hrow4 := hrow.fut (R4.fb hb3)
  refine ⟨_, rfl, _, rfl, lf, Dn, xs, ws, rfl, rfl, hlf4, hDn, Nat.le_of_lt (small1000 (by omega)), fun la nla => ?_⟩
  have sa := same_upd (o := .lst (xs ++ ws)) nla
  have hrowA := rowF_app (hrow4.same sa) (hws.same sa)
  have R5 := R4.same sa
  have hla : (upd H4 la (.lst (xs ++ ws))) la = some (.lst (xs ++ ws)) := upd_same
  have hszA : ∀ g ∈ fs ++ gs, Sz 70 70 g := fun g hg => by
    rcases List.mem_append.mp hg with hg | hg
    · exact (hsz g hg).mono (by decide) (by decide)
    · exact hgs g hg
  have hlA : (xs ++ ws).length ≤ 30 := by rw [List.length_append]; omega
  revert hrowA R5 hla
  generalize upd H4 la (.lst (xs ++ ws)) = H5
  generalize xs ++ ws = as at hlA
  generalize fs ++ gs = bs at hszA
  intro hrowA R5 hla
  have hqa : SqL K H5 la as := .inl (.inl hla)
  refine ⟨la, rfl, ⟨as, hqa⟩, fun Df nDf => lc_it (walk_list (K := K) (xs := as) (a := la)) (fun i H' => Same H5 H' ∧ ∃ ws gs, H' Df = some (.lst ws) ∧ RowF K H' ws gs ∧ (∀ g ∈ gs, Sz 40 40 g) ∧ ws.length ≤ i) ⟨same_upd nDf, [], [], upd_same, True.intro, (fun g h => nomatch h), Nat.le_refl _⟩ (fun i H' _ h => h.1.seq hqa) ?_ ?_⟩
  · rintro i xv H6 H6' hi ⟨sm6, ws, gs, hDf, hws, hgs, hwl⟩ ⟨rfl, hx⟩
    obtain ⟨g, eg, cg⟩ := hrowA.get hx
    have sg := hszA g (List.mem_of_getElem? eg)
    refine ⟨rfl, _, rfl, xv, g, rfl, cg.same sm6, _, rfl, iteB (fun hs => ?_) fun hs => ⟨sm6, ws, gs, hDf, hws, hgs, by omega⟩⟩
    have f6 := fut_grow (ys := ws ++ [xv]) hDf
    refine ⟨_, rfl, ws, hDf, small1000 (by omega), fun z o e => ?_, ws ++ [xv], gs ++ [g], upd_same, rowF_snoc (hws.fut f6) ((cg.same sm6).fut f6), fun u hu => ?_, by rw [List.length_append]; show ws.length + 1 ≤ i + 1; omega⟩
    · rw [upd_ne (ne_of_none e nDf)]
      exact sm6 _ _ e
    · rcases List.mem_append.mp hu with hu | hu
      · exact hgs u hu
      · rw [List.mem_singleton.mp hu]
        exact short_sz sg.fr hs
  rintro H6 ⟨sm6, ws6, gs6, hDf, hws6, hgs6, hwl6⟩
  refine ⟨Df, ws6, gs6, rfl, .inl (.inl hDf), hws6, (fun f hf => (hgs6 f hf).okf (by decide) (by decide)), by rw [← hws6.len]; omega, fun p7 H7 ys hs s7 hp7 hys hin _ _ => ?_⟩
  exact k p7 H7 ys hs ((((R02.same sm).trans R5).same sm6).same s7) hp7 hys fun f hf => hgs6 f (hin f hf)
end
end K49
namespace K49
open PySem PySem.Spec PyProof.Rows L2 Sw StX RZ
mutual
/-- small integers, short texts -/
def smD : PyData → Bool
  | .none | .bool _ => true
  | .int i => decide (i.natAbs < 10 ^ 40)
  | .str x => PyData.strOk x && decide (1 ≤ x.length ∧ x.length ≤ 13) && x.cps.all (fun c => decide (97 ≤ c ∧ c ≤ 122))
  | .list xs | .tuple xs => smA xs
  | .dict _ => false
def smA : List PyData → Bool
  | [] => true
  | x :: xs => smD x && smA xs
end
mutual
theorem sm_ok : ∀ {d : PyData}, smD d = true → okD d = true
  | .none, _ | .bool _, _ => rfl
  | .int i, h => by
    simp only [smD, decide_eq_true_eq] at h
    simp only [okD, decide_eq_true_eq]
    exact Nat.lt_trans h (by decide +kernel)
  | .str x, h => by
    simp only [smD, Bool.and_eq_true] at h
    simp only [okD]
    exact h.1.1
  | .list xs, h => by
    simp only [smD] at h
    simp only [okD]
    exact smA_ok h
  | .tuple xs, h => by
    simp only [smD] at h
    simp only [okD]
    exact smA_ok h
  | .dict _, h => by simp [smD] at h
theorem smA_ok : ∀ {ds : List PyData}, smA ds = true → okA ds = true
  | [], _ => rfl
  | d :: ds, h => by
    simp only [smA, Bool.and_eq_true] at h
    simp only [okA, sm_ok h.1, smA_ok h.2, Bool.and_self]
end
theorem smA_mem {d : PyData} : ∀ {ds : List PyData}, smA ds = true → d ∈ ds → smD d = true
  | x :: xs, h, hm => by
    simp only [smA, Bool.and_eq_true] at h
    rcases List.mem_cons.mp hm with rfl | hm
    · exact h.1
    · exact smA_mem h.2 hm
/-- a datum of a size -/
structure Od (p w : Nat) (d : PyData) : Prop where
  ok : okD d = true
  dp : d.depth ≤ p
  wt : d.weight ≤ w
abbrev mS (m : Addr → Prop) : Addr → Prop := fun a => m a ∨ a = sysModules
/-- all these places are taken -/
def MuS (m : Addr → Prop) (H : Hp) : Prop := ∀ a, m a → H a ≠ none
theorem MuS.rel {m : Addr → Prop} {b : Addr} {H H' : Hp} (h : MuS m H) (r : Rel b H H') : MuS m H' := fun a z e => h a z (r.some e)
theorem MuS.same {m : Addr → Prop} {H H' : Hp} (h : MuS m H) (r : Same H H') : MuS m H' := fun a z e => h a z (r.free e)
theorem MuS.new {m : Addr → Prop} {H : Hp} (h : MuS m H) {p : Addr} (n : H p = none) : ¬ m p := fun z => h p z n
theorem MuS.ok {m : Addr → Prop} {H : Hp} (h : MuS m H) : MuOk m H := fun a z => .inl (h a z)
theorem MuS.okS {m : Addr → Prop} {H : Hp} (h : MuS m H) : MuOk (mS m) H := fun a z => z.imp (h a) id
/-- a thing with no dict (and lists), or one with no list (and dicts) -/
def Vd (K : PySem.W.Frag) (m0 : Addr → Prop) (H : Hp) (v : V) (d : PyData) : Prop := (d.hasDict = false ∧ Dt K m0 H v d) ∨ Dt K (mS m0) H v d
theorem wt_app : ∀ ds es : List PyData, PyData.weightAll (ds ++ es) = PyData.weightAll ds + PyData.weightAll es
  | [], es => by
    show PyData.weightAll es = 0 + PyData.weightAll es
    omega
  | d :: ds, es => by
    have := wt_app ds es
    simp only [List.cons_append, PyData.weightAll] at this ⊢
    omega
theorem depth_mem {d : PyData} : ∀ {ds : List PyData}, d ∈ ds → d.depth ≤ PyData.depthAll ds
  | x :: ds, h => by
    simp only [PyData.depthAll]
    rcases List.mem_cons.mp h with rfl | h
    · exact Nat.le_max_left _ _
    · exact Nat.le_trans (depth_mem h) (Nat.le_max_right _ _)
theorem okA_app : ∀ ds es : List PyData, okA (ds ++ es) = (okA ds && okA es)
  | [], es => by simp [okA]
  | d :: ds, es => by simp [okA, okA_app ds es, Bool.and_assoc]
theorem nd_app : ∀ ds es : List PyData, PyData.hasDictAll (ds ++ es) = (PyData.hasDictAll ds || PyData.hasDictAll es)
  | [], es => by simp [PyData.hasDictAll]
  | d :: ds, es => by simp [PyData.hasDictAll, nd_app ds es, Bool.or_assoc]
theorem dp_app : ∀ ds es : List PyData, PyData.depthAll (ds ++ es) = max (PyData.depthAll ds) (PyData.depthAll es)
  | [], es => by
    show PyData.depthAll es = max 0 (PyData.depthAll es)
    omega
  | d :: ds, es => by
    have := dp_app ds es
    simp only [List.cons_append, PyData.depthAll] at this ⊢
    omega
mutual
theorem sm_nd : ∀ {d : PyData}, smD d = true → d.hasDict = false
  | .none, _ | .bool _, _ | .int _, _ | .str _, _ => by simp [PyData.hasDict]
  | .list xs, h => by
    simp only [smD] at h
    simp only [PyData.hasDict]
    exact smA_nd h
  | .tuple xs, h => by
    simp only [smD] at h
    simp only [PyData.hasDict]
    exact smA_nd h
  | .dict _, h => by simp [smD] at h
theorem smA_nd : ∀ {ds : List PyData}, smA ds = true → PyData.hasDictAll ds = false
  | [], _ => rfl
  | d :: ds, h => by
    simp only [smA, Bool.and_eq_true] at h
    simp only [PyData.hasDictAll, sm_nd h.1, smA_nd h.2, Bool.or_self]
end
theorem Vd.fut {K : PySem.W.Frag} {m0 : Addr → Prop} {H H' : Hp} {v : V} {d : PyData} (h : Vd K m0 H v d) (f : Fut m0 H H') : Vd K m0 H' v d := by
  rcases h with ⟨n, h⟩ | h
  · exact .inl ⟨n, h.fut f⟩
  · exact .inr (h.fut (f.mono fun a z => .inl z))
theorem od_int {p w : Nat} {i : Int} (h : i.natAbs < 10 ^ 41) (hw : 140 ≤ w) : Od p w (.int i) := by
  refine ⟨?_, by simp [PyData.depth], ?_⟩
  · simp only [okD, decide_eq_true_eq]
    exact Nat.lt_trans h (by decide +kernel)
  · simp only [PyData.weight]
    by_cases hz : i = 0
    · rw [hz]
      exact Nat.zero_le _
    · have hz2 : i.natAbs ≠ 0 := by omega
      have e : i.natAbs.log2 < 137 := (Nat.log2_lt hz2).mpr (Nat.lt_trans h (by decide +kernel))
      split <;> omega
structure OdA (p w : Nat) (ds : List PyData) : Prop where
  ok : okA ds = true
  dp : PyData.depthAll ds ≤ p
  wt : PyData.weightAll ds ≤ w
theorem OdA.tup {p w : Nat} {ds : List PyData} (h : OdA p w ds) : Od (p + 1) w (.tuple ds) := ⟨by simp only [okD]; exact h.ok, by simp only [PyData.depth]; have := h.dp; omega, by simp only [PyData.weight]; exact h.wt⟩
theorem OdA.lst {p w : Nat} {ds : List PyData} (h : OdA p w ds) : Od (p + 1) w (.list ds) := ⟨by simp only [okD]; exact h.ok, by simp only [PyData.depth]; have := h.dp; omega, by simp only [PyData.weight]; exact h.wt⟩
theorem OdA.app {p w1 w2 : Nat} {ds es : List PyData} (h : OdA p w1 ds) (t : OdA p w2 es) : OdA p (w1 + w2) (ds ++ es) := ⟨by rw [okA_app, h.ok, t.ok]; rfl, by rw [dp_app]; have := h.dp; have := t.dp; omega, by rw [wt_app]; have := h.wt; have := t.wt; omega⟩
theorem OdA.one {p w : Nat} {d : PyData} (h : Od p w d) : OdA p (w + 1) [d] := ⟨by simp [okA, h.ok], by simp only [PyData.depthAll]; have := h.dp; omega, by simp only [PyData.weightAll]; have := h.wt; omega⟩
theorem OdA.mono {p w p' w' : Nat} {ds : List PyData} (h : OdA p w ds) (hp : p ≤ p') (hw : w ≤ w') : OdA p' w' ds := ⟨h.ok, Nat.le_trans h.dp hp, Nat.le_trans h.wt hw⟩
theorem oda_take {ds : List PyData} (h : okA ds = true) (n : Nat) : OdA (PyData.depthAll ds) (PyData.weightAll (ds.take n)) (ds.take n) := by
  have e := List.take_append_drop n ds
  have e1 : okA (ds.take n ++ ds.drop n) = true := by rw [e]; exact h
  have e2 : PyData.depthAll (ds.take n ++ ds.drop n) = PyData.depthAll ds := by rw [e]
  rw [okA_app, Bool.and_eq_true] at e1
  rw [dp_app] at e2
  exact ⟨e1.1, by omega, Nat.le_refl _⟩
theorem oda_drop {ds : List PyData} (h : okA ds = true) (n : Nat) : OdA (PyData.depthAll ds) (PyData.weightAll (ds.drop n)) (ds.drop n) := by
  have e := List.take_append_drop n ds
  have e1 : okA (ds.take n ++ ds.drop n) = true := by rw [e]; exact h
  have e2 : PyData.depthAll (ds.take n ++ ds.drop n) = PyData.depthAll ds := by rw [e]
  rw [okA_app, Bool.and_eq_true] at e1
  rw [dp_app] at e2
  exact ⟨e1.2, by omega, Nat.le_refl _⟩
theorem oda_rev : ∀ {ds : List PyData}, okA ds = true → OdA (PyData.depthAll ds) (PyData.weightAll ds) ds.reverse
  | [], _ => ⟨rfl, Nat.zero_le _, Nat.zero_le _⟩
  | d :: ds, h => by
    simp only [okA, Bool.and_eq_true] at h
    have z := oda_rev h.2
    rw [List.reverse_cons]
    have o := OdA.one (p := PyData.depthAll (d :: ds)) (w := d.weight) (d := d) ⟨h.1, by simp only [PyData.depthAll]; omega, Nat.le_refl _⟩
    exact ((z.mono (by simp only [PyData.depthAll]; omega) (Nat.le_refl _)).app o).mono (Nat.le_refl _) (by simp only [PyData.weightAll]; omega)
theorem nd_take {ds : List PyData} (h : PyData.hasDictAll ds = false) (n : Nat) : PyData.hasDictAll (ds.take n) = false ∧ PyData.hasDictAll (ds.drop n) = false := by
  have e := List.take_append_drop n ds
  have e1 : PyData.hasDictAll (ds.take n ++ ds.drop n) = false := by rw [e]; exact h
  rw [nd_app, Bool.or_eq_false_iff] at e1
  exact e1
theorem nd_rev : ∀ {ds : List PyData}, PyData.hasDictAll ds = false → PyData.hasDictAll ds.reverse = false
  | [], _ => rfl
  | d :: ds, h => by
    simp only [PyData.hasDictAll, Bool.or_eq_false_iff] at h
    rw [List.reverse_cons, nd_app, nd_rev h.2]
    simp [PyData.hasDictAll, h.1]
theorem dtA_rev {K : PySem.W.Frag} {mu : Addr → Prop} {H : Hp} : ∀ {vs : List V} {ds : List PyData}, DtA K mu H vs ds → DtA K mu H vs.reverse ds.reverse
  | _, _, .nil => .nil
  | _, _, .cons h t => by
    rw [List.reverse_cons, List.reverse_cons]
    exact (dtA_rev t).append (.cons h .nil)
/-- a tuple around a thing -/
theorem vd_mid {K : PySem.W.Frag} {m0 : Addr → Prop} {H : Hp} {p : Addr} {xs ys : List V} {ds es : List PyData} {v : V} {d : PyData} (hp : SqT K H p (xs ++ [v] ++ ys)) (h : Vd K m0 H v d) (h1 : DtA K (mS m0) H xs ds) (h2 : DtA K (mS m0) H ys es) (n1 : PyData.hasDictAll ds = false) (n2 : PyData.hasDictAll es = false) : Vd K m0 H (.ref p) (.tuple (ds ++ [d] ++ es)) := by
  have tup : ∀ {mu : Addr → Prop}, DtA K mu H (xs ++ [v] ++ ys) (ds ++ [d] ++ es) → Dt K mu H (.ref p) (.tuple (ds ++ [d] ++ es)) := fun z => by
    rcases hp with hp | hp
    · exact .tup hp z
    · exact .tupK hp z
  rcases h with ⟨n, h⟩ | h
  · refine .inl ⟨?_, tup (((h1.less fun a z => .inl z).append (.cons h .nil)).append (h2.less fun a z => .inl z))⟩
    simp only [PyData.hasDict, nd_app, n1, n2, Bool.or_false, Bool.false_or, PyData.hasDictAll, n]
  · exact .inr (tup ((h1.append (.cons h .nil)).append h2))
theorem ok_ofS (s : String) : PyData.strOk (Str.ofString s) = true := by
  unfold PyData.strOk
  rw [Str.ofString_eq_toList]
  simp only [Array.all_eq_true]
  intro i hi
  simp only [List.getElem_toArray, List.getElem_map, decide_eq_true_eq]
  generalize s.toList[i]'(by simpa using hi) = c
  have := c.valid
  have e : c.toNat = c.val.toNat := rfl
  rcases this with h | h
  · show c.val.toNat < _
    have : c.val.toNat < 0xd800 := h
    omega
  · exact h.2
theorem od_num {p : Nat} {i : Int} (h : i.natAbs < 10 ^ 41) : Od p 140 (.str (Str.ofString (toString i))) := by
  refine ⟨by simp only [okD]; exact ok_ofS _, by simp [PyData.depth], ?_⟩
  simp only [PyData.weight]
  have e := int_text_length_le10 (a := i) (k := 41) (by decide) h
  have e2 : (Str.ofString (toString i)).length ≤ 42 := by rw [PySem.ofString_length]; exact e
  show (Str.ofString (toString i)).length ≤ 140
  omega
def Bd (p w : Nat) (d : PyData) : Prop := d.hasDict = false ∧ Od p w d
theorem bd_int {p w : Nat} {i : Int} (h : i.natAbs < 10 ^ 41) (hw : 140 ≤ w) : Bd p w (.int i) := ⟨rfl, od_int h hw⟩
theorem bd_bl {p w : Nat} {i : Bool} : Bd p w (.bool i) := ⟨rfl, rfl, by simp [PyData.depth], by simp [PyData.weight]⟩
theorem bd_non {p w : Nat} : Bd p w .none := ⟨rfl, rfl, by simp [PyData.depth], by simp [PyData.weight]⟩
theorem int500 {i : Int} (h : i.natAbs < 10 ^ 40) : i.natAbs < 10 ^ 500 := Nat.lt_trans h (by decide +kernel)
section
variable {K : PySem.W.Frag} {b : Addr} {mu : Addr → Prop} {σ : L2.St} {H0 : Hp} {te : TE} {ta tr : TA} {d : PyData} {ds : List PyData} {D : PyData → Prop} {n : Nat}
variable (K b mu σ H0) in
def Gn (te : TE) (D : PyData → Prop) : Prop := ∀ H, Rel b H0 H → MuOk mu H → ∀ Q : VK, (∀ v H' d, D d → Rel b H H' → Dt K mu H' v d → Q v H') → te σ H Q
variable (K b mu σ H0) in
def GnA (ta : TA) (D : PyData → Prop) (n : Nat) : Prop := ∀ H, Rel b H0 H → MuOk mu H → ∀ Q : List V → Hp → Prop, (∀ vs H' ds, ds.length = n → (∀ d ∈ ds, D d) → Rel b H H' → DtA K mu H' vs ds → Q vs H') → ta σ H Q
theorem geN (h : Ge K b mu σ H0 te d) (hd : D d) : Gn K b mu σ H0 te D := fun H hb m Q q => h H hb m Q fun v H' r e => q v H' d hd r e
theorem gnA_nil : GnA K b mu σ H0 tNil D 0 := fun H hb _ _ q => q _ H [] rfl (fun _ z => nomatch z) (.refl hb.bag) .nil
theorem gnA_cons (hm : mu b) (h : Gn K b mu σ H0 te D) (t : GnA K b mu σ H0 tr D n) : GnA K b mu σ H0 (tCons te tr) D (n + 1) := fun H hb m _ q =>
  h H hb m _ fun v H1 d hd r1 e1 => t H1 (hb.trans r1) (m.rel r1) _ fun vs H2 ds hl hds r2 e2 => q _ H2 (d :: ds) (by rw [List.length_cons, hl]) (fun x z => by
    rcases List.mem_cons.mp z with rfl | z
    · exact hd
    · exact hds x z) (r1.trans r2) (.cons (e1.fut (r2.fut hm r1.bag)) e2)
theorem ge_intV {i : Nat} {x : Int} (hσ : σ[i]? = some (some (.int x))) : Ge K b mu σ H0 (tVar i) (.int x) := fun H hb _ _ q => ⟨_, hσ, q _ H (.refl hb.bag) (.int x)⟩
theorem ge_add {i : Nat} {x y : Int} (hσ : σ[i]? = some (some (.int x))) : Ge K b mu σ H0 (tOp (rI0 fun i j => .int (i + j)) (tVar i) (tC (.int y))) (.int (x + y)) := fun H hb _ _ q => ⟨_, hσ, _, _, rfl, rfl, q _ H (.refl hb.bag) (.int _)⟩
theorem ge_sub {i : Nat} {x y : Int} (hσ : σ[i]? = some (some (.int x))) : Ge K b mu σ H0 (tOp (rI0 fun i j => .int (i - j)) (tVar i) (tC (.int y))) (.int (x - y)) := fun H hb _ _ q => ⟨_, hσ, _, _, rfl, rfl, q _ H (.refl hb.bag) (.int _)⟩
theorem ge_opp {i : Nat} {x y : Int} (hσ : σ[i]? = some (some (.int x))) : Ge K b mu σ H0 (tOp (rI0 fun i j => .int (i - j)) (tC (.int y)) (tVar i)) (.int (y - x)) := fun H hb _ _ q => ⟨_, hσ, _, _, rfl, rfl, q _ H (.refl hb.bag) (.int _)⟩
end
theorem seq_asg_lst {ta : TA} {g : TG} {u : TS} {D} {σ : L2.St} {H : Hp} (h : ta σ H fun xs H1 => xs.length ≤ sizeLine ∧ ∀ p, H1 p = none → g (.ref p) σ (upd H1 p (.lst xs)) (u D)) : tSeq (tAsg (tLst ta) g) u D σ H := h
theorem arg_cat {r : R2} {ta : TA} {i : Nat} {σ : L2.St} {H : Hp} {Q : List V → Hp → Prop} (h : ta σ H fun xs H1 => xs.length ≤ sizeLine ∧ ∀ p, H1 p = none → tVar i σ (upd H1 p (.lst xs)) fun y H2 => r (.ref p) y H2 fun z H3 => Q [z] H3) : tCons (tOp r (tLst ta) (tVar i)) tNil σ H Q := h
theorem cutV_to (xs : List V) (n : Nat) : cutV xs none (some (n : Int)) = xs.take n := by
  unfold cutV
  rw [HT.sIx_none, HT.sIx_nat, List.drop_zero, Nat.sub_zero]
  by_cases h : n ≤ xs.length
  · rw [Nat.min_eq_left h]
  · rw [Nat.min_eq_right (by omega), List.take_length, List.take_of_length_le (by omega)]
theorem catA_use {K : PySem.W.Frag} {H : Hp} {a c : Addr} {xs ys : List V} {Q : VK} (h1 : SqT K H a xs) (h2 : SqT K H c ys) (hz : xs.length + ys.length ≤ sizeLine) (k : ∀ p H', Same H H' → SqT K H' p (xs ++ ys) → Q (.ref p) H') : rCatA K (.ref a) (.ref c) H Q := by
  refine ⟨a, c, xs, ys, rfl, rfl, h1, h2, hz, fun e => ?_, fun _ e => ?_, fun _ _ p np => k p _ (same_upd np) (.of upd_same)⟩
  · subst e
    exact k c H (.refl H) h2
  · subst e
    refine k a H (.refl H) ?_
    rw [List.append_nil]
    exact h1
theorem nopart {σ : L2.St} {H : Hp} {Q : Option Int → Hp → Prop} (h : Q none H) : tNoPart σ H Q := h
theorem split_at {ds : List PyData} {i : Nat} {e : PyData} (h : ds[i]? = some e) : ds = ds.take i ++ ([e] ++ ds.drop (i + 1)) := by
  obtain ⟨hi, he⟩ := List.getElem?_eq_some_iff.mp h
  have := List.take_append_drop i ds
  rw [List.drop_eq_getElem_cons hi, he] at this
  exact this.symm
theorem split_wt {ds : List PyData} {i : Nat} {e : PyData} (h : ds[i]? = some e) : PyData.weightAll ds = PyData.weightAll (ds.take i) + (e.weight + 1) + PyData.weightAll (ds.drop (i + 1)) := by
  have z := congrArg PyData.weightAll (split_at h)
  rw [wt_app, wt_app] at z
  rw [z]
  simp only [PyData.weightAll]
  omega
theorem dt_tup {K : PySem.W.Frag} {mu : Addr → Prop} {H : Hp} {p : Addr} {xs : List V} {ds : List PyData} (h : SqT K H p xs) (hA : DtA K mu H xs ds) : Dt K mu H (.ref p) (.tuple ds) := by
  rcases h with h | h
  · exact .tup h hA
  · exact .tupK h hA
theorem sok {x : Str} : PyData.strOk x = true ↔ ∀ c ∈ x.cps.toList, c < 0x110000 := by
  unfold PyData.strOk
  rw [← Array.all_toList, List.all_eq_true]
  exact ⟨fun h c m => of_decide_eq_true (h c m), fun h c m => decide_eq_true (h c m)⟩
theorem sok_app {x y : Str} (h1 : PyData.strOk x = true) (h2 : PyData.strOk y = true) : PyData.strOk (x ++ y) = true := by
  rw [sok] at *
  intro c m
  rw [Str.cps_append, Array.toList_append] at m
  rcases List.mem_append.mp m with m | m
  · exact h1 c m
  · exact h2 c m
theorem sok_cut {z : Str} {lo hi : Option Int} (h : PyData.strOk z = true) : PyData.strOk (Txt.slice z lo hi) = true := by
  rw [sok] at *
  rw [← C8.cutS_slice]
  intro c m
  exact h c (List.mem_of_mem_drop (List.mem_of_mem_take m))
theorem len_cut {z : Str} {lo hi : Option Int} : (Txt.slice z lo hi).length ≤ z.length := by
  rw [← C8.cutS_slice]
  show (List.toArray _).size ≤ z.cps.size
  rw [List.size_toArray, List.length_take, List.length_drop, Array.length_toList]
  omega
theorem sok_upper {z : Str} (h : z.cps.all (fun c => decide (97 ≤ c ∧ c ≤ 122)) = true) : PyData.strOk (Txt.upper z) = true := by
  have hz : z = SX.S z.cps.toList := by
    apply PySem.Str.ext'
    rfl
  rw [← Array.all_toList, List.all_eq_true] at h
  rw [hz, SX.upper_S (by
    rw [List.all_eq_true]
    intro c m
    have := of_decide_eq_true (h c m)
    exact decide_eq_true (by omega)), sok]
  intro c m
  obtain ⟨x, hx, rfl⟩ := List.mem_map.mp m
  have := of_decide_eq_true (h x hx)
  unfold PyProof.Rows.up1
  split <;> omega
theorem Od.mono {p w p' w' : Nat} {d : PyData} (h : Od p w d) (hp : p ≤ p') (hw : w ≤ w') : Od p' w' d := ⟨h.ok, Nat.le_trans h.dp hp, Nat.le_trans h.wt hw⟩
theorem od_s {s : String} {p w : Nat} (h : PyData.strOk (Str.ofString s) = true := by decide +kernel) (h2 : (Str.ofString s).length ≤ w := by decide +kernel) : Od p w (.str (Str.ofString s)) := ⟨by simp only [okD]; exact h, by simp [PyData.depth], by simp only [PyData.weight]; exact h2⟩
theorem od_c {n m : Int} (h : n.natAbs < 10 ^ 41 := by decide) (h2 : m.natAbs < 10 ^ 41 := by decide) : Od 3 1000 (.tuple [.int n, .int m]) := ((OdA.one (od_int (p := 0) (w := 140) h (by decide))).app (OdA.one (od_int (p := 0) (w := 140) h2 (by decide)))).tup.mono (by decide) (by decide)
theorem bd_c {p w : Nat} {n m : Int} (hp : 3 ≤ p) (hw : 1000 ≤ w) (h : n.natAbs < 10 ^ 41 := by decide) (h2 : m.natAbs < 10 ^ 41 := by decide) : Bd p w (.tuple [.int n, .int m]) := ⟨rfl, (od_c h h2).mono hp hw⟩
theorem ge_neg {K : PySem.W.Frag} {b : Addr} {mu : Addr → Prop} {σ : L2.St} {H0 : Hp} {x : Int} : Ge K b mu σ H0 (tUn (rU fun i => V.int (-i)) (tC (V.int x))) (.int (-x)) := fun H r m Q q => ⟨x, rfl, q _ H (.refl r.bag) (.int _)⟩
theorem od_e : Od 3 1000 (.tuple []) := ⟨rfl, by simp [PyData.depth, PyData.depthAll], by simp [PyData.weight, PyData.weightAll]⟩
theorem od_d : Od 3 1000 (.dict []) := ⟨by simp [okD, okK], by simp [PyData.depth, PyData.depthKv], by simp [PyData.weight, PyData.weightKv]⟩
def spBent (K : PySem.W.Frag) (n : Nat) : Sp := fun vs H Q _ => ∃ (b : Addr) (v : V) (d : PyData) (m0 : Addr → Prop), vs = [.ref b, v] ∧ BagAt H b ∧ m0 b ∧ MuS m0 H ∧ Dt K (mS m0) H v d ∧ smD d = true ∧ d.depth ≤ n ∧ d.depth ≤ 40 ∧ d.weight ≤ 10000 ∧
  ∀ v' H' d', Rel b H H' → Vd K m0 H' v' d' → Od (d.depth + 3) (2 * d.weight + 1000) d' → Q v' H'
section
variable {P : Program} {w : World} {K : PySem.W.Frag} {mg : Str → Option Value} {base : Heap}
abbrev s_law_bent : Stmt := topS 62
theorem sc__law_bent : FnScope ["bag", "thing", "at"] ["bag", "thing"] (defScope s_law_bent) := ⟨rfl, rfl, rfl, by decide +kernel, rfl, by decide +kernel, by decide +kernel⟩
theorem ok__law_bent {f : Addr} {fd : FuncData} {j n : Nat} {sp : Sp} (hj : 3 ≤ j) (hsp : n = 0 ∨ ∃ m, n = m + 1 ∧ sp = spBent K m) (F : Fun K "_law_bent" "_law_bent" s_law_bent f fd) (B : Bt mg) (c__law_take : CalG P w K mg base 1 "_law_take" spTake) (c__law_some : CalG P w K mg base 2 "_law_some" spSome) (c__law_is_int : CalG P w K mg base 1 "_law_is_int" (spP K isInt)) (c__law_bent : CalG P w K mg base j "_law_bent" sp) : FnG P w K mg base (j + 1) f fd ["bag", "thing"] (spBent K n) := by
  refine Fun.okG F sc__law_bent (fun vs H Q E h => ?_) (fun cdv A outer s H vs Q E hg hr h => ?_)
  · obtain ⟨_, _, _, _, rfl, _⟩ := h
    rfl
  obtain ⟨b, v, d, m0, rfl, hb, hm0, M0, hd, hsm, hdn, hdp, hwt, k⟩ := h
  have hu := Room.u64 hr
  refine ⟨_, (C8.pss_cut (ps_if (PW.pt (pw_and (pt_val (pe_callB call_isD (by rfl) B.isin bb_isin (pa_cons (pv 1) (pa_cons (pe_bltn (v := .ty "tuple") rfl B.tuple bb_tuple rfl) pa_nil)))) (pw_and (pt_cmpR (op_neNilT (K := K) rfl hu) (pv 1) (pe_tup pa_nil) (nomark _)) (pw_and1 (pt_cmpR op_gt (pc c__law_take hg hr (by omega) (by rfl) (pa_cons (pv 0) (pa_cons pe_int pa_nil))) pe_int (nomark _))))))
      (pss_cons (ps_set (i := 2) sc__law_bent.nd rfl (Or.inl rfl) (pc c__law_take hg hr (by omega) (by rfl) (pa_cons (pv 0) (pa_cons (pe_callB call_lenA (by rfl) B.len boot_len (pa_cons (pv 1) pa_nil)) pa_nil))))
      (pss_one (ps_ret (pe_op op_catA (pe_op op_catA (pe_slice sl_tupA (pv 1) po_none (po_some (pv 2))) (pe_tup (pa_cons (pc c__law_bent hg hr (by omega) (by rfl) (pa_cons (pv 0) (pa_cons (pe_ix ix_tup (pv 1) (pv 2) (fun _ _ => rfl)) pa_nil))) pa_nil))) (pe_slice sl_tupA (pv 1) (po_some (pe_op op_add (pv 2) pe_int)) po_none)))))
      pss_nil)
    (pss_cons (ps_if (pt_val (pe_callB call_isD (by rfl) B.isin bb_isin (pa_cons (pv 1) (pa_cons (pe_bltn (v := .ty "tuple") rfl B.tuple bb_tuple rfl) pa_nil))))
      (pss_one (ps_ret (pc c__law_some hg hr (by omega) (by rfl) (pa_cons (pv 0) (pa_cons (pe_lst (pa_cons (pe_callTy call_list_of (by rfl) B.list bb_list (pa_cons (pv 1) pa_nil)) (pa_cons (pe_slice sl_tupA (pv 1) (po_some pe_int) po_none) (pa_cons (pe_op op_catA (pv 1) (pe_slice sl_tupA (pv 1) po_none (po_some pe_int))) (pa_cons (pe_revT (pv 1)) (pa_cons pe_non (pa_cons (pe_tup (pa_cons pe_int (pa_cons pe_int pa_nil))) (pa_cons (pe_tup (pa_cons pe_int (pa_cons pe_int pa_nil))) (pa_cons (pe_tup (pa_cons pe_int (pa_cons pe_int pa_nil))) (pa_cons (pe_tup (pa_cons (pe_un un_neg pe_int) (pa_cons pe_int pa_nil))) pa_nil)))))))))) pa_nil)))))
      pss_nil)
    (pss_cons (ps_if (pt_val (pc c__law_is_int hg hr (by omega) (by rfl) (pa_cons (pv 1) pa_nil)))
      (pss_one (ps_ret (pc c__law_some hg hr (by omega) (by rfl) (pa_cons (pv 0) (pa_cons (pe_lst (pa_cons (pe_op op_add (pv 1) pe_int) (pa_cons (pe_un un_neg (pv 1)) (pa_cons pe_int (pa_cons (pe_cmpR op_eq (pv 1) pe_int (nomark _)) (pa_cons pe_non (pa_cons (pe_callTy call_str_int (by rfl) B.str bb_str (pa_cons (pv 1) pa_nil)) (pa_cons (pe_op op_mulW pe_int (pv 1)) pa_nil)))))))) pa_nil)))))
      pss_nil)
    (pss_one (ps_ret (pc c__law_some hg hr (by omega) (by rfl) (pa_cons (pv 0) (pa_cons (pe_lst (pa_cons pe_non (pa_cons pe_str (pa_cons pe_str (pa_cons pe_str (pa_cons pe_str (pa_cons pe_str (pa_cons pe_int (pa_cons (pe_tup (pa_cons pe_int (pa_cons pe_int pa_nil))) (pa_cons (pe_tup pa_nil) (pa_cons pe_dnewN (pa_cons (pe_tup (pa_cons pe_int (pa_cons pe_int pa_nil))) pa_nil)))))))))))) pa_nil)))))))), ?_⟩
  have nd := sm_nd hsm
  have okd := sm_ok hsm
  have ho : Ok d := ⟨okd, by omega, by omega⟩
  have sl := sizeLine_eq
  have tT : isT "tuple" d = true → ∃ ds, d = .tuple ds := fun h => (isTup d).mp h
  refine ⟨fun σ' H' => σ' = [some (.ref b), some v, none] ∧ Rel b H H', ?_, ?_⟩
  · refine ⟨_, rfl, v, "tuple", mS m0, d, rfl, by decide, hd, _, rfl, iteB (fun ht => ?_) fun ht => ?_⟩
    · obtain ⟨ds, rfl⟩ := tT ht
      obtain ⟨a, xs, rfl, hS, hA⟩ := hd.tupAt
      refine ⟨_, rfl, Nat.zero_le _, fun q nq => ⟨a, q, xs, rfl, rfl, (same_upd nq).seqT hS, .of upd_same, _, rfl, iteB (fun hx => ?_) fun _ => ⟨rfl, (Rel.refl hb).same (same_upd nq)⟩⟩⟩
      have sq := same_upd (o := .tup []) nq
      have Rq := (Rel.refl hb).same sq
      refine ⟨_, rfl, b, 5, rfl, Rq.bag, by decide, by decide, fun m H3 mz m1 R3 => ⟨_, _, rfl, rfl, _, rfl, iteP (fun hm => ?_) fun _ => ⟨rfl, Rq.trans R3⟩⟩⟩
      have Rq3 := Rq.trans R3
      have hS3 := seqT_fut hS (Rq3.fut (mu := mS m0) (.inl hm0) hb)
      have hA3 := hA.fut (Rq3.fut (mu := mS m0) (.inl hm0) hb)
      have hxl := hA.length
      have hx0 : 0 < xs.length := by
        cases xs with
        | nil => exact absurd hx (by decide)
        | cons _ _ => exact Nat.zero_lt_succ _
      have hlw := len_wt ds
      have ew : (PyData.tuple ds).weight = PyData.weightAll ds := by simp [PyData.weight]
      have ed : (PyData.tuple ds).depth = PyData.depthAll ds + 1 := by simp [PyData.depth]
      obtain ⟨n, rfl, rfl⟩ : ∃ m, n = m + 1 ∧ sp = spBent K m := by
        rcases hsp with h0 | h
        · omega
        · exact h
      refine ⟨_, rfl, _, rfl, _, _, rfl, .inr ⟨xs, hS3, rfl⟩, b, _, rfl, Rq3.bag, by omega, by omega, fun at4 H4 a0 a1 R4 => ?_⟩
      obtain ⟨i4, rfl⟩ : ∃ i4 : Nat, at4 = (i4 : Int) := ⟨at4.toNat, by omega⟩
      have Rq4 := Rq3.trans R4
      have hS4 := seqT_fut hS (Rq4.fut (mu := mS m0) (.inl hm0) hb)
      refine ⟨_, rfl, _, rfl, _, rfl, slA_use hS4 fun p1 H5 s5 hp1 => ?_⟩
      rw [cutV_to] at hp1
      have Rq5 := Rq4.same s5
      have hS5 := seqT_fut hS (Rq5.fut (mu := mS m0) (.inl hm0) hb)
      have hA5 := hA.fut (Rq5.fut (mu := mS m0) (.inl hm0) hb)
      have hi4 : i4 < xs.length := by omega
      obtain ⟨e, he, hxe⟩ := hA5.get (List.getElem?_eq_getElem hi4)
      have hem := List.mem_of_getElem? he
      have hde := depth_mem hem
      have hwe := split_wt he
      have hsmA : smA ds = true := by simpa only [smD] using hsm
      refine ⟨_, rfl, _, rfl, _, rfl, a, xs, (i4 : Int), _, rfl, rfl, hS5, atI_nat (List.getElem?_eq_getElem hi4), b, _, e, m0, rfl, Rq5.bag, hm0, M0.rel Rq5, hxe, smA_mem hsmA hem, by omega, by omega, by omega, fun v6 H6 d6 R6 hv6 hd6 => ⟨by show 1 ≤ sizeLine; omega, fun p2 n2 => ?_⟩⟩
      have s6 := same_upd (o := .tup [v6]) n2
      have f56 : Fut (mS m0) H5 H6 := R6.fut (mu := mS m0) (.inl hm0) Rq5.bag
      refine catA_use (s6.seqT (seqT_fut hp1 f56)) (.of upd_same) (by rw [List.length_take]; show _ + 1 ≤ _; omega) fun p3 H7 s7 hp3 => ?_
      have Rq7 := ((Rq5.trans R6).same s6).same s7
      have f7 := Rq7.fut (mu := mS m0) (.inl hm0) hb
      have hS7 := seqT_fut hS f7
      refine ⟨_, rfl, _, rfl, _, _, rfl, rfl, _, rfl, nopart (slA_use hS7 fun p4 H8 s8 hp4 => ?_)⟩
      rw [show (i4 : Int) + 1 = ((i4 + 1 : Nat) : Int) from by omega, cutV_from] at hp4
      refine catA_use (s8.seqT hp3) hp4 (by simp only [List.length_append, List.length_take, List.length_drop, List.length_cons, List.length_nil]; omega) fun p5 H9 s9 hp5 => ?_
      have Rq9 := (Rq7.same s8).same s9
      have f9 := Rq9.fut (mu := mS m0) (.inl hm0) hb
      have hA9 := hA.fut f9
      have hv9 := hv6.fut (.of_same (((s6.trans s7).trans s8).trans s9))
      have ndA : PyData.hasDictAll ds = false := by simpa only [PyData.hasDict] using nd
      have okA1 : okA ds = true := by simpa only [okD] using okd
      refine k _ H9 _ Rq9 (vd_mid hp5 hv9 (hA9.take i4) (hA9.drop (i4 + 1)) (nd_take ndA i4).1 (nd_take ndA (i4 + 1)).2) ?_
      have o1 := (oda_take okA1 i4).mono (p' := PyData.depthAll ds + 3) (w' := PyData.weightAll (ds.take i4)) (by omega) (Nat.le_refl _)
      have o2 := (OdA.one hd6).mono (p' := PyData.depthAll ds + 3) (w' := 2 * e.weight + 1000 + 1) (by omega) (Nat.le_refl _)
      have o3 := (oda_drop okA1 (i4 + 1)).mono (p' := PyData.depthAll ds + 3) (w' := PyData.weightAll (ds.drop (i4 + 1))) (by omega) (Nat.le_refl _)
      exact ((o1.app o2).app o3).tup.mono (by omega) (by omega)
    · exact ⟨rfl, .refl hb⟩
  · rintro σ' H3 ⟨rfl, R3⟩
    have hb3 := R3.bag
    have hd3 := hd.fut (R3.fut (mu := mS m0) (.inl hm0) hb)
    have M3 : MuOk (mS m0) H3 := (M0.rel R3).okS
    refine ⟨_, rfl, v, "tuple", mS m0, d, rfl, by decide, hd3, _, rfl, iteB (fun ht => ?_) fun ht => ?_⟩
    · obtain ⟨ds, rfl⟩ := tT ht
      obtain ⟨a, xs, rfl, hS, hA⟩ := hd.tupAt
      have hxl := hA.length
      have hlw := len_wt ds
      have ew : (PyData.tuple ds).weight = PyData.weightAll ds := by simp [PyData.weight]
      have ed : (PyData.tuple ds).depth = PyData.depthAll ds + 1 := by simp [PyData.depth]
      have ndA : PyData.hasDictAll ds = false := by simpa only [PyData.hasDict] using nd
      have okA1 : okA ds = true := by simpa only [okD] using okd
      have oA : OdA (PyData.depthAll ds) (PyData.weightAll ds) ds := ⟨okA1, Nat.le_refl _, Nat.le_refl _⟩
      have w1 : PyData.weightAll (ds.take 1) + PyData.weightAll (ds.drop 1) = PyData.weightAll ds := by rw [← wt_app, List.take_append_drop]
      have oT := oda_take okA1 1
      have oD := oda_drop okA1 1
      have at3 : ∀ {H'}, Rel b H3 H' → SqT K H' a xs ∧ DtA K (mS m0) H' xs ds := fun {H'} R => by
        have f := (R3.trans R).fut (mu := mS m0) (.inl hm0) hb
        exact ⟨seqT_fut hS f, hA.fut f⟩
      have hm : m0 b := hm0
      have ltA : ∀ {H'}, Rel b H3 H' → DtA K m0 H' xs ds := fun R => (at3 R).2.less fun a z => .inl z
      refine gv_some (K := K) (mu := m0) (D := Bd ((PyData.tuple ds).depth + 3) (2 * (PyData.tuple ds).weight + 1000)) (n := 9) hm rfl (gvA_cons hm ?_ (gvA_cons hm ?_ (gvA_cons hm ?_ (gvA_cons hm ?_ (gvA_cons hm (ge_non.gv bd_non) (gvA_cons hm ?_ (gvA_cons hm ?_ (gvA_cons hm ?_ (gvA_cons hm ?_ gvA_nil))))))))) (by decide) (by decide) H3 (.refl hb3) (M0.rel R3).ok _ fun v' H' d' hd' R hv _ => ?_
      · refine fun H r m Q q => ⟨_, rfl, a, xs, rfl, .inr (at3 r).1, fun p np => q _ _ (.list ds) ⟨?_, oA.lst.mono (by omega) (by omega)⟩ ((Rel.refl r.bag).same (same_upd np)) (.lst (((M0.rel R3).rel r).new np) (.inl upd_same) ((ltA r).fut (.of_same (same_upd np)))) ⟨fun _ e => ⟨p, xs, rfl, upd_same⟩, fun z => nomatch z⟩⟩
        simp only [PyData.hasDict]
        exact ndA
      · refine fun H r m Q q => ⟨_, rfl, _, rfl, nopart (slA_use (at3 r).1 fun p H' s hp => ?_)⟩
        rw [show (1 : Int) = ((1 : Nat) : Int) from rfl, cutV_from] at hp
        refine q _ H' (.tuple (ds.drop 1)) ⟨?_, oD.tup.mono (by omega) (by omega)⟩ ((Rel.refl r.bag).same s) (dt_tup hp (((ltA r).fut (.of_same s)).drop 1)) (own_not (fun _ z => nomatch z) (fun z => nomatch z))
        simp only [PyData.hasDict]
        exact (nd_take ndA 1).2
      · refine fun H r m Q q => ⟨_, rfl, _, rfl, _, rfl, slA_use (at3 r).1 fun p H' s hp => ?_⟩
        rw [show (1 : Int) = ((1 : Nat) : Int) from rfl, cutV_to] at hp
        refine catA_use (s.seqT (at3 r).1) hp (by rw [List.length_take]; omega) fun p2 H2 s2 hp2 => ?_
        refine q _ H2 (.tuple (ds ++ ds.take 1)) ⟨?_, (oA.app oT).tup.mono (by omega) (by omega)⟩ ((Rel.refl r.bag).same (s.trans s2)) (dt_tup hp2 (((ltA r).fut (.of_same (s.trans s2))).append (((ltA r).fut (.of_same (s.trans s2))).take 1))) (own_not (fun _ z => nomatch z) (fun z => nomatch z))
        simp only [PyData.hasDict, nd_app, ndA, (nd_take ndA 1).1, Bool.or_false]
      · refine fun H r m Q q => ⟨_, rfl, a, xs, rfl, (at3 r).1, fun p np => ?_⟩
        refine q _ _ (.tuple ds.reverse) ⟨?_, (oda_rev okA1).tup.mono (by omega) (by omega)⟩ ((Rel.refl r.bag).same (same_upd np)) (dt_tup (.of upd_same) (dtA_rev ((ltA r).fut (.of_same (same_upd np))))) (own_not (fun _ z => nomatch z) (fun z => nomatch z))
        simp only [PyData.hasDict]
        exact nd_rev ndA
      · exact Ge.gv (ge_tup hm (geA_cons hm Sw.ge_int (geA_cons hm Sw.ge_int geA_nil)) (show 2 ≤ 1000 by decide)) (bd_c (by omega) (by omega))
      · exact Ge.gv (ge_tup hm (geA_cons hm Sw.ge_int (geA_cons hm Sw.ge_int geA_nil)) (show 2 ≤ 1000 by decide)) (bd_c (by omega) (by omega))
      · exact Ge.gv (ge_tup hm (geA_cons hm Sw.ge_int (geA_cons hm Sw.ge_int geA_nil)) (show 2 ≤ 1000 by decide)) (bd_c (by omega) (by omega))
      · exact Ge.gv (ge_tup hm (geA_cons hm ge_neg (geA_cons hm Sw.ge_int geA_nil)) (show 2 ≤ 1000 by decide)) (bd_c (by omega) (by omega))
      exact k v' H' d' (R3.trans R) (.inl ⟨hd'.1, hv⟩) hd'.2
    · refine ⟨_, rfl, v, mS m0, d, rfl, hd3, ho, fun H4 s4 => ⟨_, rfl, iteB (fun hi => ?_) fun hi => ?_⟩⟩
      · obtain ⟨i, rfl⟩ := (isIntD d).mp hi
        cases hd
        have hi40 : i.natAbs < 10 ^ 40 := by simpa [smD] using hsm
        have hm : mS m0 b := .inl hm0
        refine gv_some (K := K) (mu := mS m0) (D := Od 3 1000) (n := 7) hm rfl (gvA_cons hm ((ge_add rfl).gv (od_int (by omega) (by decide))) (gvA_cons hm (Ge.gv (d := .int (-i)) (fun H r m Q q => ⟨_, rfl, i, rfl, q _ H (.refl r.bag) (.int _)⟩) (od_int (by omega) (by decide))) (gvA_cons hm (Sw.ge_int.gv (od_int (by decide) (by decide))) (gvA_cons hm (Ge.gv (d := .bool (decide (V.int i = V.int 1))) (fun H r m Q q => ⟨_, rfl, rfl, q _ H (.refl r.bag) (.bl _)⟩) bd_bl.2) (gvA_cons hm (ge_non.gv bd_non.2) (gvA_cons hm (Ge.gv (d := .str (Str.ofString (toString i))) (fun H r m Q q => ⟨_, rfl, i, rfl, int_log (int500 hi40), q _ H (.refl r.bag) (.str _)⟩) ((od_num (p := 3) (by omega)).mono (by decide) (by decide))) (gvA_cons hm (Ge.gv (d := .int (2 * i)) (fun H r m Q q => ⟨_, rfl, 2, i, rfl, rfl, mulW (by decide) (Nat.lt_trans hi40 (by decide +kernel)), q _ H (.refl r.bag) (.int _)⟩) (od_int (by omega) (by decide))) gvA_nil))))))) (by decide) (by decide) H4 (.refl (R3.bag.same s4)) (M3.same s4) _ fun v' H' d' hd' R hv _ => ?_
        exact k v' H' d' ((R3.same s4).trans R) (.inr hv) (hd'.mono (by omega) (by omega))
      · have hm : mS m0 b := .inl hm0
        refine gv_some (K := K) (mu := mS m0) (D := Od 3 1000) (n := 11) hm rfl (gvA_cons hm (ge_non.gv bd_non.2) (gvA_cons hm (Sw.ge_str.gv od_s) (gvA_cons hm (Sw.ge_str.gv od_s) (gvA_cons hm (Sw.ge_str.gv od_s) (gvA_cons hm (Sw.ge_str.gv od_s) (gvA_cons hm (Sw.ge_str.gv od_s) (gvA_cons hm (Sw.ge_int.gv (od_int (by decide) (by decide))) (gvA_cons hm ((ge_tup hm (geA_cons hm Sw.ge_int (geA_cons hm Sw.ge_int geA_nil)) (show 2 ≤ 1000 by decide)).gv od_c) (gvA_cons hm ((ge_tup hm geA_nil (show 0 ≤ 1000 by decide)).gv od_e) (gvA_cons hm (gv_dict od_d) (gvA_cons hm ((ge_tup hm (geA_cons hm Sw.ge_int (geA_cons hm Sw.ge_int geA_nil)) (show 2 ≤ 1000 by decide)).gv od_c) gvA_nil))))))))))) (by decide) (by decide) H4 (.refl (R3.bag.same s4)) (M3.same s4) _ fun v' H' d' hd' R hv _ => ?_
        exact k v' H' d' ((R3.same s4).trans R) (.inr hv) (hd'.mono (by omega) (by omega))
theorem bent_chain {f : Addr} {fd : FuncData} (F : Fun K "_law_bent" "_law_bent" s_law_bent f fd) (B : Bt mg) (c1 : CalG P w K mg base 1 "_law_take" spTake) (c2 : CalG P w K mg base 2 "_law_some" spSome) (c3 : CalG P w K mg base 1 "_law_is_int" (spP K isInt))
    (mk : ∀ j sp, FnG P w K mg base j f fd ["bag", "thing"] sp → CalG P w K mg base j "_law_bent" sp) : ∀ n, CalG P w K mg base (4 + n) "_law_bent" (spBent K n)
  | 0 => mk _ _ (ok__law_bent (sp := fun _ _ _ _ => False) (by decide) (.inl rfl) F B c1 c2 c3 (mk _ _ ⟨fun _ _ _ _ h => h.elim, fun _ _ _ _ _ h => h.elim⟩))
  | n + 1 => mk _ _ (ok__law_bent (show 3 ≤ 4 + n by omega) (.inr ⟨n, rfl, rfl⟩) F B c1 c2 c3 (bent_chain F B c1 c2 c3 mk n))
end
end K49
namespace K49
open PySem PySem.Spec PyProof.Rows L2 Sw StX RZ
/-- a datum of a size, without dicts -/
structure Sd (p w : Nat) (d : PyData) : Prop where
  ok : smD d = true
  nd : d.hasDict = false
  dp : d.depth ≤ p
  wt : d.weight ≤ w
theorem Sd.mono {p w p' w' : Nat} {d : PyData} (h : Sd p w d) (hp : p ≤ p') (hw : w ≤ w') : Sd p' w' d := ⟨h.ok, h.nd, Nat.le_trans h.dp hp, Nat.le_trans h.wt hw⟩
/-- items: together at most w heavy -/
structure SdA (p w : Nat) (ds : List PyData) : Prop where
  ok : smA ds = true
  nd : PyData.hasDictAll ds = false
  dp : PyData.depthAll ds ≤ p
  wt : PyData.weightAll ds ≤ w
theorem SdA.nil {p w : Nat} : SdA p w [] := ⟨rfl, rfl, Nat.zero_le _, Nat.zero_le _⟩
theorem SdA.cons {p w1 w2 w : Nat} {d : PyData} {ds : List PyData} (h : Sd p w1 d) (t : SdA p w2 ds) (hw : w1 + 1 + w2 ≤ w) : SdA p w (d :: ds) := by
  refine ⟨by simp only [smA, h.ok, t.ok, Bool.and_self], by simp only [PyData.hasDictAll, h.nd, t.nd, Bool.or_self], ?_, ?_⟩
  · have a := h.dp
    have b := t.dp
    simp only [PyData.depthAll]
    omega
  · have a := h.wt
    have b := t.wt
    simp only [PyData.weightAll]
    omega
theorem SdA.tup {p w : Nat} {ds : List PyData} (h : SdA p w ds) : Sd (p + 1) w (.tuple ds) :=
  ⟨by simp only [smD]; exact h.ok, by simp only [PyData.hasDict]; exact h.nd, by simp only [PyData.depth]; have := h.dp; omega, by simp only [PyData.weight]; exact h.wt⟩
theorem SdA.all {p w1 m : Nat} : ∀ {ds : List PyData}, (∀ d ∈ ds, Sd p w1 d) → ds.length ≤ m → SdA p ((w1 + 1) * m) ds
  | [], _, _ => .nil
  | d :: ds, h, hl => by
    cases m with
    | zero => simp at hl
    | succ m =>
      rw [Nat.mul_succ]
      exact .cons (h d List.mem_cons_self) (SdA.all (m := m) (fun x hx => h x (List.mem_cons_of_mem _ hx)) (by simpa using hl)) (by omega)
theorem sd_str {x : Str} {w p : Nat} (h : smD (.str x) = true) (hl : x.length ≤ w) : Sd p w (.str x) := ⟨h, by simp [PyData.hasDict], by simp [PyData.depth], by simp only [PyData.weight]; exact hl⟩
theorem sd_int {i : Int} {p k : Nat} (h : i.natAbs < 2 ^ k) (hk : k ≤ 130) : Sd p k (.int i) := by
  refine ⟨?_, by simp [PyData.hasDict], by simp [PyData.depth], ?_⟩
  · simp only [smD, decide_eq_true_eq]
    exact Nat.lt_of_lt_of_le h (Nat.le_trans (Nat.pow_le_pow_right (by decide) hk) (by decide +kernel))
  · simp only [PyData.weight]
    by_cases hz : i = 0
    · rw [hz]
      exact Nat.zero_le _
    · have hz2 : i.natAbs ≠ 0 := by omega
      have e : i.natAbs.log2 < k := (Nat.log2_lt hz2).mpr h
      split <;> omega
theorem SdA.consE {p w1 w2 : Nat} {d : PyData} {ds : List PyData} (h : Sd p w1 d) (t : SdA p w2 ds) : SdA p (w1 + 1 + w2) (d :: ds) := .cons h t (Nat.le_refl _)
theorem Sd.one {p w : Nat} {d : PyData} (h : Sd p w d) : SdA p (w + 1 + 0) [d] := .consE h .nil
theorem Sd.consE' {p p2 w1 w2 : Nat} {d : PyData} {ds : List PyData} (h : Sd p w1 d) (t : SdA p2 w2 ds) : SdA (max p p2) (w1 + 1 + w2) (d :: ds) :=
  .consE (h.mono (Nat.le_max_left _ _) (Nat.le_refl _)) ⟨t.ok, t.nd, Nat.le_trans t.dp (Nat.le_max_right _ _), t.wt⟩

def fD (f : F2) : PyData := .tuple [.int f.1, .int f.2]
def oD : Option F2 → PyData
  | none => .none
  | some f => fD f
def thD : Th → PyData
  | .shares c => .tuple [.str "shares", fD c]
  | .note a cap disc => .tuple [.str "note", fD a, oD cap, oD disc]
  | .kept c o => .tuple [.str "kept", fD c, fD o]
  | .weighed c o t => .tuple [.str "weighed", fD c, fD o, fD t]
def dealD (D : Deal) : PyData := .tuple [fD D.worth, fD D.money, .tuple (D.things.map thD), .tuple [fD D.count, fD D.part]]
theorem sd_f {f : F2} (h : Sz 40 10 f) : Sd 1 52 (fD f) :=
  (SdA.consE (sd_int (p := 0) h.n (by decide)) (SdA.consE (sd_int (p := 0) h.d (by decide)) (SdA.nil (w := 0)))).tup
theorem sd_w {s : String} (p : Nat) (h : smD (.str (Str.ofString s)) = true := by decide +kernel) (h2 : (Str.ofString s).length ≤ 13 := by decide +kernel) : Sd p 13 (.str (Str.ofString s)) := sd_str h h2
theorem Pt.sz4 {f : F2} (h : Pt f) : Sz 40 10 f := h.sz.mono (by decide) (by decide)
theorem sd_o {o : Option F2} (h : ∀ f, o = some f → Sz 40 10 f) : Sd 1 52 (oD o) := by
  cases o with
  | none => exact ⟨rfl, rfl, Nat.zero_le _, Nat.zero_le _⟩
  | some f => exact sd_f (h f rfl)
theorem sd_th {t : Th} (h : t.Ok) : Sd 2 200 (thD t) := by
  cases t with
  | shares c => exact (SdA.consE (sd_w 1) (SdA.consE (sd_f h.sz) (SdA.nil (w := 0)))).tup.mono (by decide) (by decide)
  | note a cap disc =>
    obtain ⟨h1, h2, h3⟩ := h
    exact (SdA.consE (sd_w 1) (SdA.consE (sd_f h1.sz) (SdA.consE (sd_o fun f e => (h2 f e).sz) (SdA.consE (sd_o fun f e => (h3 f e).sz4) (SdA.nil (w := 0)))))).tup.mono (by decide) (by decide)
  | kept c o => exact (SdA.consE (sd_w 1) (SdA.consE (sd_f h.1.sz) (SdA.consE (sd_f h.2.sz) (SdA.nil (w := 0))))).tup.mono (by decide) (by decide)
  | weighed c o t => exact (SdA.consE (sd_w 1) (SdA.consE (sd_f h.1.sz) (SdA.consE (sd_f h.2.1.sz) (SdA.consE (sd_f h.2.2.sz) (SdA.nil (w := 0)))))).tup.mono (by decide) (by decide)
theorem sd_ths {ts : List Th} (h : ∀ t ∈ ts, t.Ok) (hl : ts.length ≤ 6) : Sd 3 1206 (.tuple (ts.map thD)) :=
  (SdA.all (p := 2) (w1 := 200) (m := 6) (ds := ts.map thD) (fun d hd => by
    obtain ⟨t, ht, rfl⟩ := List.mem_map.mp hd
    exact sd_th (h t ht)) (by rw [List.length_map]; exact hl)).tup
theorem sd_tup4 {ts : List Th} {w m c p : F2} (h : ∀ t ∈ ts, t.Ok) (hl : ts.length ≤ 6) (hw : Sz 40 10 w) (hm : Sz 40 10 m) (hc : Sz 40 10 c) (hp : Sz 40 10 p) : Sd 4 2000 (.tuple [fD w, fD m, .tuple (ts.map thD), .tuple [fD c, fD p]]) := by
  have hpool : Sd 2 106 (.tuple [fD c, fD p]) := (SdA.consE (sd_f hc) (SdA.consE (sd_f hp) (SdA.nil (w := 0)))).tup
  exact (SdA.consE ((sd_f hw).mono (p' := 3) (by decide) (Nat.le_refl _)) (SdA.consE ((sd_f hm).mono (p' := 3) (by decide) (Nat.le_refl _)) (SdA.consE (sd_ths h hl) (SdA.consE (hpool.mono (p' := 3) (by decide) (Nat.le_refl _)) (SdA.nil (w := 0)))))).tup.mono (by decide) (by decide)
theorem sd_deal {D : Deal} (h : D.Ok) : Sd 4 2000 (dealD D) := sd_tup4 h.things h.len h.worth.sz h.money.sz h.count.sz h.part.sz4
section
variable {K : PySem.W.Frag} {mu : Addr → Prop} {H : Hp}
theorem opt_dt {v : V} {o : Option F2} (h : OptAt K H v o) : Dt K mu H v (oD o) := by
  cases o with
  | none => cases (show v = .non from h); exact .non
  | some f => exact Cpl.dt h
theorem th_dt {v : V} {t : Th} (h : ThAt K H v t) : Dt K mu H v (thD t) := by
  cases t with
  | shares c => obtain ⟨r, x, rfl, hS, hx⟩ := h; exact dt_tup hS (.cons (.str _) (.cons hx.dt .nil))
  | note a cap disc => obtain ⟨r, x, y, z, rfl, hS, hx, hy, hz⟩ := h; exact dt_tup hS (.cons (.str _) (.cons hx.dt (.cons (opt_dt hy) (.cons (opt_dt hz) .nil))))
  | kept c o => obtain ⟨r, x, y, rfl, hS, hx, hy⟩ := h; exact dt_tup hS (.cons (.str _) (.cons hx.dt (.cons hy.dt .nil)))
  | weighed c o t => obtain ⟨r, x, y, z, rfl, hS, hx, hy, hz⟩ := h; exact dt_tup hS (.cons (.str _) (.cons hx.dt (.cons hy.dt (.cons hz.dt .nil))))
theorem ths_dt : ∀ {vs : List V} {ts : List Th}, ThsAt K H vs ts → DtA K mu H vs (ts.map thD)
  | [], [], _ => .nil
  | v :: vs, t :: ts, h => .cons (th_dt h.1) (ths_dt h.2)
  | [], _ :: _, h => h.elim
  | _ :: _, [], h => h.elim
theorem deal_in {r : Addr} {x y : V} {rt rp : Addr} {vs : List V} {c q : V} {D : Deal} (h : DealIn K H r x y rt rp vs c q D) : Dt K mu H (.ref r) (dealD D) :=
  dt_tup h.at_ (.cons h.w.dt (.cons h.m.dt (.cons (dt_tup h.t (ths_dt h.ts)) (.cons (dt_tup h.p (.cons h.c.dt (.cons h.q.dt .nil))) .nil))))
theorem row_dt : ∀ {vs : List V} {fs : List F2}, RowF K H vs fs → DtA K mu H vs (fs.map fD)
  | [], [], _ => .nil
  | v :: vs, f :: fs, h => .cons (Cpl.dt h.1) (row_dt h.2)
  | [], _ :: _, h => h.elim
  | _ :: _, [], h => h.elim
end
theorem od_i {a : Nat} {i : Int} (h : i.natAbs < 2 ^ a) (ha : a ≤ 1500) : Od 0 a (.int i) := by
  refine ⟨?_, by simp [PyData.depth], ?_⟩
  · simp only [okD, decide_eq_true_eq]
    exact Nat.lt_of_lt_of_le h (Nat.le_trans (Nat.pow_le_pow_right (by decide) ha) (by decide +kernel))
  · simp only [PyData.weight]
    by_cases hz : i = 0
    · rw [hz]
      exact Nat.zero_le _
    · have hz2 : i.natAbs ≠ 0 := by omega
      have e : i.natAbs.log2 < a := (Nat.log2_lt hz2).mpr h
      split <;> omega
theorem od_f {a b : Nat} {f : F2} (h : Sz a b f) (ha : a ≤ 1500) (hb : b ≤ 1500) : Od 1 (a + b + 2) (fD f) :=
  ((OdA.one (od_i h.n ha)).app (OdA.one (od_i h.d hb))).tup.mono (by decide) (by omega)
theorem od_row {a b : Nat} (ha : a ≤ 1500) (hb : b ≤ 1500) : ∀ {fs : List F2}, (∀ f ∈ fs, Sz a b f) → OdA 1 ((a + b + 3) * fs.length) (fs.map fD)
  | [], _ => ⟨rfl, Nat.zero_le _, Nat.zero_le _⟩
  | f :: fs, h => by
    have z := (OdA.one (od_f (h f List.mem_cons_self) ha hb)).app (od_row ha hb (fs := fs) fun x hx => h x (List.mem_cons_of_mem _ hx))
    rw [List.map_cons, List.length_cons, Nat.mul_succ]
    exact z.mono (Nat.le_refl _) (by omega)
theorem od_both {fs : List F2} {s : F2} (h : ∀ f ∈ fs, Sz 812 674 f) (hs : Sz 1500 1300 s) (hl : fs.length ≤ 7) : Ok (.list [.tuple (fs.map fD), fD s]) := by
  have z := od_row (by decide) (by decide) h
  have a := OdA.one z.tup
  have b := (OdA.one (od_f hs (by decide) (by decide))).mono (p' := 2) (by decide) (Nat.le_refl _)
  have c := (a.app b).lst
  have hm : (812 + 674 + 3) * fs.length ≤ 1489 * 7 := Nat.mul_le_mul (by decide) hl
  exact ⟨c.ok, Nat.le_trans c.dp (by decide), Nat.le_trans c.wt (by omega)⟩
theorem Sd.od {p w : Nat} {d : PyData} (h : Sd p w d) : Od p w d := ⟨sm_ok h.ok, h.dp, h.wt⟩
theorem od_Ok {p w : Nat} {d : PyData} (h : Od p w d) (hp : p ≤ 50) (hw : w ≤ 27000) : Ok d := ⟨h.ok, Nat.le_trans h.dp hp, Nat.le_trans h.wt hw⟩
end K49
namespace K49
open PySem PySem.Spec PyProof.Rows L2 Sw StX RZ
section
variable {P : Program} {w : World} {K : PySem.W.Frag} {mg : Str → Option Value} {base : Heap}
/-- the law's own call: a list of integers comes, True goes -/
def spLaw (K : PySem.W.Frag) : Sp := fun vs H Q _ => ∃ (a : Addr) (ns : List Int), vs = [.ref a] ∧ SqL K H a (ns.map V.int) ∧ ns.length ≤ 63 ∧ ∀ H', Q (.bl true) H'
structure Defs (P : Program) (w : World) (K : PySem.W.Frag) (mg : Str → Option Value) (base : Heap) : Prop where
  bag : CalG P w K mg base 1 "_law_bag" (spBag K)
  some : CalG P w K mg base 2 "_law_some" spSome
  alike : CalG P w K mg base 1 "_law_alike" (spAlike K)
  deal : CalG P w K mg base 5 "_law_deal" (spDeal K)
  prices : CalG P w K mg base 4 "_law_prices" (spPrices K)
  lws : CalG P w K mg base 5 "_law_worths" (spWs K)
  ltot : CalG P w K mg base 4 "_law_total" (spTotal K)
  ws : CalG P w K mg base 7 "worths_at" (spWs K)
  w1 : CalG P w K mg base 8 "worth_at" (spW1 K)
  bent : CalG P w K mg base 14 "_law_bent" (spBent K 10)
  lround : CalG P w K mg base 5 "_law_is_round" (spP K isRd)
  pround : CalG P w K mg base 7 "is_round" (spP K isRd)
theorem bd_ok {x : Bool} : Ok (.bool x) := ⟨rfl, by simp [PyData.depth], by simp [PyData.weight]⟩
theorem th_head {H : Hp} {v : V} {t : Th} (h : ThAt K H v t) : ∃ r w rest, v = .ref r ∧ SqT K H r (.str w :: rest) := by
  cases t with
  | shares c => obtain ⟨r, x, rfl, hS, _⟩ := h; exact ⟨r, _, _, rfl, hS⟩
  | note a cap disc => obtain ⟨r, x, y, z, rfl, hS, _⟩ := h; exact ⟨r, _, _, rfl, hS⟩
  | kept c o => obtain ⟨r, x, y, rfl, hS, _⟩ := h; exact ⟨r, _, _, rfl, hS⟩
  | weighed c o t => obtain ⟨r, x, y, z, rfl, hS, _⟩ := h; exact ⟨r, _, _, rfl, hS⟩
theorem ths_snoc {H : Hp} : ∀ {vs : List V} {ts : List Th} {v : V} {t : Th}, ThsAt K H vs ts → ThAt K H v t → ThsAt K H (vs ++ [v]) (ts ++ [t])
  | [], [], _, _, _, h => ⟨h, True.intro⟩
  | v :: vs, t :: ts, _, _, g, h => ⟨g.1, ths_snoc g.2 h⟩
  | [], _ :: _, _, _, g, _ => g.elim
  | _ :: _, [], _, _, g, _ => g.elim
abbrev slaw : Stmt := topS 63
theorem sc_law : FnScope ["script", "bag", "turn", "deal", "shown", "price", "due", "bare", "one", "thing", "k", "kept"] ["script"] (defScope slaw) := ⟨rfl, rfl, rfl, by decide +kernel, rfl, by decide +kernel, by decide +kernel⟩
theorem ok_law {f : Addr} {fd : FuncData} (F : Fun K "law" "law" slaw f fd) (B : Bt mg) (D : Defs P w K mg base) : FnG P w K mg base 60 f fd ["script"] (spLaw K) := by
  refine Fun.okG F sc_law (fun vs H Q E h => ?_) (fun cdv A outer s H vs Q E hg hr h => ?_)
  · obtain ⟨a, ns, rfl, _⟩ := h
    rfl
  obtain ⟨a, ns, rfl, hS, hl, k⟩ := h
  have hu := Room.u64 hr
  have c__law_bag := D.bag
  have c__law_some := D.some
  have c__law_alike := D.alike
  have c__law_deal := D.deal
  have c__law_prices := D.prices
  have c__law_worths := D.lws
  have c__law_total := D.ltot
  have c__law_bent := D.bent
  have c__law_is_round := D.lround
  have c_is_round := D.pround
  have c_worths_at := D.ws
  have c_worth_at := D.w1
  refine ⟨_, (pss_cons (ps_set (i := 1) sc_law.nd rfl (Or.inr rfl) (pc c__law_bag hg hr (by omega) (by rfl) (pa_cons (pv 0) pa_nil)))
    (pss_cons (ps_for PassesOwn.never rfl (pi_range1 (by rfl) B.range (pa_cons pe_int pa_nil)) (pg_name (i := 2) sc_law.nd rfl (Or.inl rfl))
      (pss_cons (ps_set (i := 3) sc_law.nd rfl (Or.inr rfl) (pc c__law_deal hg hr (by omega) (by rfl) (pa_cons (pv 1) pa_nil)))
      (pss_cons (ps_set (i := 4) sc_law.nd rfl (Or.inl rfl) (pe_callB (call_repr hg hu) (by rfl) B.repr bb_repr (pa_cons (pv 3) pa_nil)))
      (pss_cons (ps_for PassesOwn.never rfl (pi_list (pc c__law_prices hg hr (by omega) (by rfl) (pa_cons (pv 1) (pa_cons (pv 3) pa_nil)))) (pg_name (i := 5) sc_law.nd rfl (Or.inl rfl))
        (pss_cons (ps_set (i := 6) sc_law.nd rfl (Or.inl rfl) (pc c__law_worths hg hr (by omega) (by rfl) (pa_cons (pv 3) (pa_cons (pv 5) pa_nil))))
        (pss_one (ps_if (pt_not (pt_val (pc c__law_alike hg hr (by omega) (by rfl) (pa_cons (pe_lst (pa_cons (pc c_worths_at hg hr (by omega) (by rfl) (pa_cons (pv 3) (pa_cons (pv 5) pa_nil))) (pa_cons (pc c_worth_at hg hr (by omega) (by rfl) (pa_cons (pv 3) (pa_cons (pv 5) pa_nil))) pa_nil))) (pa_cons (pe_lst (pa_cons (pv 6) (pa_cons (pc c__law_total hg hr (by omega) (by rfl) (pa_cons (pv 6) pa_nil)) pa_nil))) pa_nil)))))
          (pss_one (ps_ret pe_bl))
          pss_nil))))
      (pss_cons (ps_set (i := 7) sc_law.nd rfl (Or.inl rfl) (pe_tup (pa_cons (pe_ix ix_tup (pv 3) pe_int (fun _ _ => rfl)) (pa_cons (pe_ix ix_tup (pv 3) pe_int (fun _ _ => rfl)) (pa_cons (pe_callTy call_tuple_of (by rfl) B.tuple bb_tuple (pa_cons (pe_lc (own := [("one", 8)]) rfl sc_law.nd (pi_tup (pe_ix ix_tup (pv 3) pe_int (fun _ _ => rfl))) (blkOk_by (own := [("one", 8)]) (N := ["script", "bag", "turn", "deal", "shown", "price", "due", "bare", "one", "thing", "k", "kept"]) (sc := (defScope slaw)) (by decide +kernel)) (fun _ _ _ _ _ => (pg_name (i := 8) sc_law.nd rfl (Or.inl rfl))) (fun _ _ _ _ _ => (pts_one (pt_cmpR op_ne (pe_ix (ix_tupK (K := K) rfl) (pv 8) pe_int (fun _ _ => rfl)) pe_str (nomark _)))) (fun _ _ _ _ _ => (pv 8))) pa_nil)) (pa_cons (pe_ix ix_tup (pv 3) pe_int (fun _ _ => rfl)) pa_nil))))))
      (pss_cons (ps_for PassesOwn.never rfl (pi_list (pe_op op_cat (pe_lst (pa_cons (pv 3) (pa_cons (pv 7) (pa_cons (pc c__law_some hg hr (by omega) (by rfl) (pa_cons (pv 1) (pa_cons (pe_lst (pa_cons pe_non (pa_cons pe_bl (pa_cons pe_int (pa_cons pe_str (pa_cons (pe_tup pa_nil) (pa_cons (pe_lstN pa_nil) (pa_cons pe_dnewN (pa_cons (pe_callTy call_list_of (by rfl) B.list bb_list (pa_cons (pv 3) pa_nil)) pa_nil))))))))) pa_nil))) pa_nil)))) (pe_lc (own := [("k", 10)]) rfl sc_law.nd (pi_range1 (by rfl) B.range (pa_cons pe_int pa_nil)) (blkOk_by (own := [("k", 10)]) (N := ["script", "bag", "turn", "deal", "shown", "price", "due", "bare", "one", "thing", "k", "kept"]) (sc := (defScope slaw)) (by decide +kernel)) (fun _ _ _ _ _ => (pg_name (i := 10) sc_law.nd rfl (Or.inl rfl))) (fun _ _ _ _ _ => pts_nil) (fun _ _ _ _ _ => (pc c__law_bent hg hr (by omega) (by rfl) (pa_cons (pv 1) (pa_cons (pv 3) pa_nil))))))) (pg_name (i := 9) sc_law.nd rfl (Or.inl rfl))
        (pss_cons (ps_par (i := 11) (j := 6) rfl sc_law.nd rfl rfl (by decide) rfl rfl (pa_cons (pe_callB (call_repr hg hu) (by rfl) B.repr bb_repr (pa_cons (pv 9) pa_nil)) (pa_cons (pc c__law_is_round hg hr (by omega) (by rfl) (pa_cons (pv 9) pa_nil)) pa_nil)) (by rfl))
        (pss_one (ps_if (PW.pt (pw_or (pt_not (pt_val (pc c__law_alike hg hr (by omega) (by rfl) (pa_cons (pc c_is_round hg hr (by omega) (by rfl) (pa_cons (pv 9) pa_nil)) (pa_cons (pv 6) pa_nil))))) (pw_or1 (pt_cmpR op_ne (pe_callB (call_repr hg hu) (by rfl) B.repr bb_repr (pa_cons (pv 9) pa_nil)) (pv 11) (nomark _)))))
          (pss_one (ps_ret pe_bl))
          pss_nil))))
      (pss_one (ps_if (pt_cmpR op_ne (pe_callB (call_repr hg hu) (by rfl) B.repr bb_repr (pa_cons (pv 3) pa_nil)) (pv 4) (nomark _))
        (pss_one (ps_ret pe_bl))
        pss_nil))))))))
    (pss_one (ps_ret pe_bl)))), ?_⟩
  refine ⟨_, rfl, a, ns, rfl, hS, hl, fun b H1 s1 nb hb => ?_⟩
  refine ⟨3, rfl, by decide, by decide, ?_⟩
  have nbp : ∀ {H : Hp} {p : Addr}, BagAt H b → H p = none → p ≠ b := fun {H p} hb np z => by
    obtain ⟨_, _, _, _, _, q, _⟩ := hb
    rw [z, q] at np
    cases np
  refine for_it (walk_range (lo := 0) (n := 3)) (fun i σ H' => ∃ o2 o3 o4 o5 o6 o7 o9 o11, σ = [some (.ref a), some (.ref b), o2, o3, o4, o5, o6, o7, none, o9, none, o11] ∧ BagAt H' b) ⟨_, _, _, _, _, _, _, _, rfl, hb⟩ (fun _ _ _ _ _ => trivial) (fun i x σ H2 H3 hi h y => ?_) fun σ H2 h => ?_
  rotate_left
  · exact k _
  obtain ⟨o2, o3, o4, o5, o6, o7, o9, o11, rfl, hb2⟩ := h
  obtain ⟨rfl, hx⟩ := y
  refine ⟨_, rfl, b, rfl, hb2, fun vd H4 D dok R4 hD4 => ?_⟩
  obtain ⟨r, x3, y3, rt, rp, vs, c, q, rfl, d4⟩ := hD4
  have hb4 := R4.bag
  have sdD := sd_deal dok
  have okD' : Ok (dealD D) := od_Ok sdD.od (by decide) (by decide)
  have dp4 := sdD.dp
  have wt4 := sdD.wt
  refine ⟨_, rfl, .ref r, (fun a => a = b), dealD D, rfl, deal_in d4, okD'.show, .inl sdD.nd, by omega, okD'.fits, ?_⟩
  refine ⟨_, rfl, _, rfl, b, .ref r, D, rfl, hb4, ⟨r, _, _, _, _, _, _, _, rfl, d4⟩, dok, fun p H5 xs fs R5 hp5 hx5 hz5 => ?_⟩
  have hb5 := R5.bag
  have d5 := d4.fut (R5.fb hb4)
  have hq5 : SqL K H5 p xs := .inl (.inl hp5)
  refine ⟨p, rfl, ⟨xs, hq5⟩, for_it (walk_list (K := K) (xs := xs) (a := p)) (fun i σ H' => ∃ o5 o6, σ = [some (.ref a), some (.ref b), some x, some (.ref r), some (.str (dealD D).shown), o5, o6, o7, none, o9, none, o11] ∧ Same H5 H') ⟨_, _, rfl, .refl _⟩ (fun i σ H' _ h => by
    obtain ⟨_, _, _, sm⟩ := h
    exact sm.seq hq5) (fun i xv σ H6 H6' hi h y => ?_) fun σ H6 h => ?_⟩
  · obtain ⟨o5', o6', rfl, sm⟩ := h
    obtain ⟨rfl, hxv⟩ := y
    obtain ⟨f, ef, cf0⟩ := hx5.get hxv
    have szf := hz5 f (List.mem_of_getElem? ef)
    have cf := cf0.same sm
    have d6 := d5.fut (mu := fun _ => False) (.of_same sm)
    have W := w_all dok szf
    refine ⟨_, rfl, _, rfl, .ref r, xv, D, f, rfl, ⟨r, _, _, _, _, _, _, _, rfl, d6⟩, dok, cf, szf, fun a2 ys H7 s7 hT7 hrow7 => ?_⟩
    have d7 := d6.fut (mu := fun _ => False) (.of_same s7)
    refine ⟨_, rfl, _, rfl, .ref r, xv, D, f, rfl, ⟨r, _, _, _, _, _, _, _, rfl, d7⟩, dok, cf.same s7, szf, fun a3 zs H8 s8 hT8 hrow8 => ?_⟩
    have d8 := d7.fut (mu := fun _ => False) (.of_same s8)
    refine ⟨_, rfl, _, rfl, .ref r, xv, D, f, rfl, ⟨r, _, _, _, _, _, _, _, rfl, d8⟩, dok, (cf.same s7).same s8, szf, fun v9 H9 s9 c9 => ⟨by show 2 ≤ sizeLine; decide, fun l1 n1 => ?_⟩⟩
    have s10 := same_upd (o := .lst [.ref a3, v9]) n1
    have hlen : (worthsF D f).length ≤ 7 := by
      unfold worthsF
      rw [List.length_append, row_len]
      have := dok.len
      show _ + 1 ≤ 7
      omega
    have okf : ∀ g ∈ worthsF D f, OkF g := fun g hg => (W.all g hg).okf (by decide) (by decide)
    have okS : ∀ i, i < (worthsF D f).length → OkF (sumF ((worthsF D f).take i)) := fun i hi => (W.sums i (Nat.le_of_lt hi)).okf (by decide) (by decide)
    have szS : Sz 1500 1300 (sumF (worthsF D f)) := by
      have z := W.sums _ (Nat.le_refl _)
      rwa [List.take_length] at z
    refine ⟨_, rfl, _, rfl, a2, worthsF D f, rfl, ⟨ys, .inr (((s8.trans s9).trans s10).seqT hT7), ((hrow7.same s8).same s9).same s10⟩, okf, okS, fun v11 H11 s11 c11 => ⟨by show 2 ≤ sizeLine; decide, fun l2 n2 => ?_⟩⟩
    have s12 := same_upd (o := .lst [.ref a2, v11]) n2
    have b9 : BagAt H9 b := (((hb5.same sm).same s7).same s8).same s9
    have b11 : BagAt H11 b := (b9.same s10).same s11
    have s9e := (s10.trans s11).trans s12
    have s8e := s9.trans s9e
    have s7e := s8.trans s8e
    have nd : (PyData.list [.tuple ((worthsF D f).map fD), fD (sumF (worthsF D f))]).hasDict = false := by
      have z : ∀ fs : List F2, PyData.hasDictAll (fs.map fD) = false := fun fs => by
        induction fs with
        | nil => rfl
        | cons g gs ih => simp only [List.map_cons, PyData.hasDictAll, ih, fD, PyData.hasDict, Bool.or_self]
      simp only [PyData.hasDict, PyData.hasDictAll, z, fD, Bool.or_self]
    refine ⟨.ref l1, .ref l2, (fun a => a = b), .list [.tuple ((worthsF D f).map fD), fD (sumF (worthsF D f))], rfl, .lst (nbp b9 n1) (.inl (s12 _ _ (s11 _ _ upd_same))) (.cons (dt_tup (s8e.seqT hT8) (row_dt (hrow8.same s8e))) (.cons (Cpl.dt (c9.same s9e)) .nil)), .lst (nbp b11 n2) (.inl upd_same) (.cons (dt_tup (s7e.seqT hT7) (row_dt (hrow7.same s7e))) (.cons (Cpl.dt (c11.same s12)) .nil)), od_both W.all szS hlen, .inl nd, ?_⟩
    refine ⟨true, rfl, iteF ⟨_, _, rfl, ?_⟩⟩
    exact (sm.trans s7).trans s7e
  obtain ⟨o5', o6', rfl, sm⟩ := h
  have d6 := d5.fut (mu := fun _ => False) (.of_same sm)
  have hb6 := hb5.same sm
  have mD : ∀ {mu : Addr → Prop} {G : Hp} {x3 y3 : V} {rt rp : Addr} {vs : List V} {c q : V}, DealIn K G r x3 y3 rt rp vs c q D → Dt K mu G (.ref r) (dealD D) := fun h => deal_in h
  refine ⟨_, rfl, r, _, 0, _, rfl, rfl, d6.at_, atI_nat (j := 0) rfl, _, rfl, r, _, 1, _, rfl, rfl, d6.at_, atI_nat (j := 1) rfl, ?_⟩
  refine ⟨_, rfl, r, _, 2, _, rfl, rfl, d6.at_, atI_nat (j := 2) rfl, rt, rfl, ⟨vs, d6.t⟩, fun D0 hD0 => lc_it (walk_tup (K := K) (xs := vs) (a := rt)) (fun i H' => Same H6 H' ∧ ∃ ws ts, H' D0 = some (.lst ws) ∧ ThsAt K H' ws ts ∧ (∀ t ∈ ts, t.Ok) ∧ ws.length ≤ i) ⟨same_upd hD0, [], [], upd_same, True.intro, (fun t h => nomatch h), Nat.le_refl _⟩ (fun i H' _ h => h.1.seqT d6.t) ?_ ?_⟩
  · rintro i xv G G' hi ⟨sg, ws, ts, hD, hT, hok, hwl⟩ ⟨rfl, hxv⟩
    obtain ⟨t, et, ht0⟩ := d6.ts.get hxv
    have ot := dok.things t (List.mem_of_getElem? et)
    have ht := ht0.same sg
    have hlen : i < 6 := by
      have := d6.ts.len
      have := dok.len
      have := (List.getElem?_eq_some_iff.mp hxv).1
      omega
    obtain ⟨ra, wa, resta, rfl, hSa⟩ := th_head ht
    refine ⟨rfl, _, rfl, ra, _, 0, .str wa, rfl, rfl, hSa, atI_nat (j := 0) rfl, rfl, _, rfl, iteB (fun _ => ?_) fun _ => ⟨sg, ws, ts, hD, hT, hok, by omega⟩⟩
    have f1 := fut_grow (ys := ws ++ [.ref ra]) hD
    refine ⟨_, rfl, ws, hD, small1000 (by omega), fun z o e => ?_, ws ++ [.ref ra], ts ++ [t], upd_same, ths_snoc (hT.fut f1) (ht.fut f1), fun u hu => ?_, by rw [List.length_append]; show ws.length + 1 ≤ i + 1; omega⟩
    · rw [upd_ne (ne_of_none e hD0)]
      exact sg _ _ e
    · rcases List.mem_append.mp hu with hu | hu
      · exact hok u hu
      · rw [List.mem_singleton.mp hu]
        exact ot
  rintro H7 ⟨sg, ws, ts, hD, hT, hok, hwl⟩
  have hwl6 : ts.length ≤ 6 := by
    have := hT.len
    have := d6.ts.len
    have := dok.len
    omega
  have d7 := d6.fut (mu := fun _ => False) (.of_same sg)
  have hb7 := hb6.same sg
  refine ⟨D0, ws, rfl, .inl ⟨.inl (.inl hD), fun l nl => ?_⟩⟩
  have sl := same_upd (o := .tup ws) nl
  have d8 := d7.fut (mu := fun _ => False) (.of_same sl)
  have hT8 := hT.same sl
  have hl8 : SqT K (upd H7 l (.tup ws)) l ws := .of upd_same
  have hb8 := hb7.same sl
  revert d8 hT8 hl8 hb8
  generalize upd H7 l (.tup ws) = H8
  intro d8 hT8 hl8 hb8
  refine ⟨_, rfl, r, _, 3, _, rfl, rfl, d8.at_, atI_nat (j := 3) rfl, by show 4 ≤ sizeLine; decide, fun p7 np7 => ?_⟩
  have s9 := same_upd (o := .tup [x3, y3, .ref l, .ref rp]) np7
  have d9 := d8.fut (mu := fun _ => False) (.of_same s9)
  have hp9 : SqT K (upd H8 p7 (.tup [x3, y3, .ref l, .ref rp])) p7 [x3, y3, .ref l, .ref rp] := .of upd_same
  have hT9 := hT8.same s9
  have hl9 := s9.seqT hl8
  have hb9 := hb8.same s9
  revert d9 hp9 hT9 hl9 hb9
  generalize upd H8 p7 (.tup [x3, y3, .ref l, .ref rp]) = H9
  intro d9 hp9 hT9 hl9 hb9
  have sdB : Sd 4 2000 (.tuple [fD D.worth, fD D.money, .tuple (ts.map thD), .tuple [fD D.count, fD D.part]]) := sd_tup4 hok hwl6 dok.worth.sz dok.money.sz dok.count.sz dok.part.sz4
  have hBt : ∀ {mu : Addr → Prop}, Dt K mu H9 (.ref p7) (.tuple [fD D.worth, fD D.money, .tuple (ts.map thD), .tuple [fD D.count, fD D.part]]) := dt_tup hp9 (.cons d9.w.dt (.cons d9.m.dt (.cons (dt_tup hl9 (ths_dt hT9)) (.cons (dt_tup d9.p (.cons d9.c.dt (.cons d9.q.dt .nil))) .nil))))
  generalize PyData.tuple [fD D.worth, fD D.money, .tuple (ts.map thD), .tuple [fD D.count, fD D.part]] = dB at sdB hBt
  have M9 : MuS (fun a => a = b) H9 := fun a e => by
    cases e
    obtain ⟨_, _, _, _, _, q, _⟩ := hb9
    rw [q]
    exact fun z => nomatch z
  refine ⟨_, rfl, _, rfl, _, rfl, Nat.zero_le _, fun p1 n1 => ⟨Nat.zero_le _, fun p2 n2 ns2 p3 n3 ns3 => ⟨_, rfl, r, [x3, y3, .ref rt, .ref rp], rfl, .inr (((same_upd n1).trans ((same_upd n2).trans (same_upd n3))).seqT d9.at_), fun p4 n4 => ⟨by show 8 ≤ sizeLine; decide, fun p5 n5 => ?_⟩⟩⟩⟩
  have t1 := same_upd (o := .tup []) n1
  have t2 := same_upd (o := .lst []) n2
  have t3 := same_upd (o := .dK []) n3
  have t4 := same_upd (o := .lst [x3, y3, .ref rt, .ref rp]) n4
  have t5 := same_upd (o := .lst [.non, .bl true, .int 0, .str "", .ref p1, .ref p2, .ref p3, .ref p4]) n5
  have S10 := t1.trans (t2.trans (t3.trans (t4.trans t5)))
  have hv10 : ∀ v ∈ ([.non, .bl true, .int 0, .str "", .ref p1, .ref p2, .ref p3, .ref p4] : List V), ∃ d8, Vd K (fun a => a = b) (upd (upd (upd (upd (upd H9 p1 (.tup [])) p2 (.lst [])) p3 (.dK [])) p4 (.lst [x3, y3, .ref rt, .ref rp])) p5 (.lst [.non, .bl true, .int 0, .str "", .ref p1, .ref p2, .ref p3, .ref p4])) v d8 ∧ Od 7 17000 d8 := by
    intro v hv
    simp only [List.mem_cons, List.not_mem_nil, or_false] at hv
    rcases hv with rfl | rfl | rfl | rfl | rfl | rfl | rfl | rfl
    · exact ⟨.none, .inr .non, bd_non.2⟩
    · exact ⟨.bool true, .inr (.bl _), bd_bl.2⟩
    · exact ⟨.int 0, .inr (.int _), od_int (by decide) (by decide)⟩
    · exact ⟨.str "", .inr (.str _), od_s⟩
    · exact ⟨.tuple [], .inr (dt_tup ((t2.trans (t3.trans (t4.trans t5))).seqT (.of upd_same)) .nil), od_e.mono (by decide) (by decide)⟩
    · exact ⟨.list [], .inl ⟨rfl, .lst ((M9.same t1).new n2) (.inl ((t3.trans (t4.trans t5)) _ _ upd_same)) .nil⟩, ⟨rfl, by decide, by decide⟩⟩
    · refine ⟨.dict [], .inr (.dct (fun z => z.elim (((M9.same t1).same t2).new n3) ns3) (.inl ((t4.trans t5) _ _ upd_same)) .nil), od_d.mono (by decide) (by decide)⟩
    · have dA := d9.fut (mu := fun _ => False) (.of_same S10)
      have sdl := sdD.ok
      refine ⟨.list [fD D.worth, fD D.money, .tuple (D.things.map thD), .tuple [fD D.count, fD D.part]], .inl ⟨by have := sdD.nd; simpa only [dealD, PyData.hasDict] using this, .lst ((((M9.same t1).same t2).same t3).new n4) (.inl (t5 _ _ upd_same)) (.cons dA.w.dt (.cons dA.m.dt (.cons (dt_tup dA.t (ths_dt dA.ts)) (.cons (dt_tup dA.p (.cons dA.c.dt (.cons dA.q.dt .nil))) .nil))))⟩, ⟨?_, ?_, ?_⟩⟩
      · have := sdD.od.ok
        simpa only [dealD, okD] using this
      · have := dp4
        simp only [dealD, PyData.depth] at this ⊢
        omega
      · have := wt4
        simp only [dealD, PyData.weight] at this ⊢
        omega
  have d10 := d9.fut (mu := fun _ => False) (.of_same S10)
  have hB10 : ∀ {mu : Addr → Prop}, Dt K mu _ (.ref p7) dB := fun {mu} => (hBt (mu := mu)).fut (.of_same S10)
  have hb10 := hb9.same S10
  have n5b : p5 ≠ b := nbp ((((hb9.same t1).same t2).same t3).same t4) n5
  refine ⟨b, p5, [.non, .bl true, .int 0, .str "", .ref p1, .ref p2, .ref p3, .ref p4], rfl, hb10, n5b, upd_same, by show 0 < 8; decide, by show 8 ≤ 1000; decide, fun ix v8 H11 hx8 R11 => ⟨by show 3 ≤ sizeLine; decide, fun L1 nL1 => ?_⟩⟩
  obtain ⟨d8', hv8, hd8⟩ := hv10 v8 (List.mem_of_getElem? hx8)
  have sL := same_upd (o := .lst [.ref r, .ref p7, v8]) nL1
  have RL := R11.same sL
  have fL := RL.fut (mu := fun a => a = b) rfl hb10
  have d12 := d10.fut fL
  have hA12 : ∀ v ∈ ([.ref r, .ref p7, v8] : List V), ∃ d, Vd K (fun a => a = b) (upd H11 L1 (.lst [.ref r, .ref p7, v8])) v d ∧ Od 7 17000 d := by
    intro v hv
    simp only [List.mem_cons, List.not_mem_nil, or_false] at hv
    rcases hv with rfl | rfl | rfl
    · exact ⟨_, .inl ⟨sdD.nd, deal_in d12⟩, sdD.od.mono (by decide) (by decide)⟩
    · exact ⟨dB, .inl ⟨sdB.nd, (hB10 (mu := fun a => a = b)).fut fL⟩, sdB.od.mono (by decide) (by decide)⟩
    · exact ⟨d8', hv8.fut fL, hd8⟩
  have hL12 : (upd H11 L1 (.lst [.ref r, .ref p7, v8])) L1 = some (.lst [.ref r, .ref p7, v8]) := upd_same
  have hb12 := RL.bag
  have nLb : L1 ≠ b := nbp R11.bag nL1
  clear hv10 S10 t1 t2 t3 t4 t5 d10 hB10 hb10 R11 RL fL sL hx8 hv8 hd8
  revert d12 hA12 hL12 hb12
  generalize upd H11 L1 (.lst [.ref r, .ref p7, v8]) = H12
  intro d12 hA12 hL12 hb12
  refine ⟨8, rfl, by decide, by decide, fun D1 nD1 => ?_⟩
  have nD1b := nbp hb12 nD1
  have nD1L : L1 ≠ D1 := ne_of_none hL12 nD1
  refine lc_it (walk_range (lo := 0) (n := 8)) (fun i H' => ∃ ws, H' D1 = some (.lst ws) ∧ ws.length = i ∧ (∀ v ∈ ws, ∃ d, Vd K (fun a => a = b ∨ a = D1) H' v d ∧ Od 7 17000 d) ∧ Rel b H12 H') ⟨[], upd_same, rfl, (fun v h => nomatch h), Rel.of_same hb12 (same_upd nD1)⟩ (fun _ _ _ _ => True.intro) ?_ ?_
  · rintro i' x' G G' hi' ⟨ws, hD, hwl, hall, RG⟩ ⟨rfl, hx'⟩
    have hbG := RG.bag
    have hi8 : i' < 8 := hi'
    have dG := d12.fut (RG.fut (mu := fun a => a = b) rfl hb12)
    have MG : MuS (fun a => a = b ∨ a = D1) G' := fun a e => by
      rcases e with e | e
      · cases e
        obtain ⟨_, _, _, _, _, q, _⟩ := hbG
        rw [q]
        exact fun z => nomatch z
      · cases e
        rw [hD]
        exact fun z => nomatch z
    refine ⟨rfl, _, rfl, _, rfl, b, .ref r, dealD D, (fun a => a = b ∨ a = D1), rfl, hbG, .inl rfl, MG, deal_in dG, sdD.ok, by omega, by omega, by omega, fun v' G1 d' R' hv' hd' => ?_⟩
    have hD7 := R'.keep _ _ nD1b hD
    have f2 : Fut (fun a => a = b ∨ a = D1) G1 (upd G1 D1 (.lst (ws ++ [v']))) := (fut_at hD7).mono fun a z => .inr z
    have f1 := R'.fut (mu := fun a => a = b ∨ a = D1) (.inl rfl) hbG
    refine ⟨ws, hD7, small1000 (by omega), ws ++ [v'], upd_same, by rw [List.length_append, hwl]; rfl, fun v hv => ?_, (RG.trans R').at hb12 nD1⟩
    rcases List.mem_append.mp hv with hv | hv
    · obtain ⟨d, h1, h2⟩ := hall v hv
      exact ⟨d, (h1.fut f1).fut f2, h2⟩
    · rw [List.mem_singleton.mp hv]
      exact ⟨d', hv'.fut f2, hd'.mono (by omega) (by omega)⟩
  rintro H13 ⟨ws, hD13, hwl, hall, RG⟩
  have hb13 := RG.bag
  have fG := RG.fut (mu := fun a => a = b) rfl hb12
  have d13 := d12.fut fG
  refine ⟨L1, D1, _, ws, rfl, rfl, RG.keep _ _ nLb hL12, hD13, Nat.le_of_lt (small1000 (by show 3 + _ ≤ _; omega)), fun F nF => ?_⟩
  have sF := same_upd (o := .lst ([.ref r, .ref p7, v8] ++ ws)) nF
  have hall14 : ∀ v ∈ [.ref r, .ref p7, v8] ++ ws, ∃ d, Vd K (fun a => a = b) (upd H13 F (.lst ([.ref r, .ref p7, v8] ++ ws))) v d ∧ Od 7 17000 d := by
    intro v hv
    rcases List.mem_append.mp hv with hv | hv
    · obtain ⟨d, h1, h2⟩ := hA12 v hv
      exact ⟨d, (h1.fut fG).fut (.of_same sF), h2⟩
    · obtain ⟨d, h1, h2⟩ := hall v hv
      refine ⟨d, Vd.fut ?_ (.of_same sF), h2⟩
      rcases h1 with ⟨n, h⟩ | h
      · exact .inl ⟨n, h.less fun a z => .inl z⟩
      · exact .inr (h.less fun a z => z.imp .inl id)
  have hF14 : SqL K (upd H13 F (.lst ([.ref r, .ref p7, v8] ++ ws))) F ([.ref r, .ref p7, v8] ++ ws) := .inl (.inl upd_same)
  have d14 := d13.fut (mu := fun _ => False) (.of_same sF)
  have hb14 := hb13.same sF
  clear hA12 hall d13 RG fG
  revert hall14 hF14 d14 hb14
  generalize upd H13 F (.lst ([.ref r, .ref p7, v8] ++ ws)) = H14
  generalize [.ref r, .ref p7, v8] ++ ws = things
  intro hall14 hF14 d14 hb14
  refine ⟨F, rfl, ⟨things, hF14⟩, for_it (walk_list (K := K) (xs := things) (a := F)) (fun i σ H' => ∃ o6 o9 o11, σ = [some (.ref a), some (.ref b), some x, some (.ref r), some (.str (dealD D).shown), o5', o6, some (.ref p7), none, o9, none, o11] ∧ Same H14 H') ⟨_, _, _, rfl, .refl _⟩ (fun i σ H' _ h => by
    obtain ⟨_, _, _, _, sm⟩ := h
    exact sm.seq hF14) (fun i xv σ G G' hi h y => ?_) fun σ G h => ?_⟩
  · obtain ⟨o6a, o9a, o11a, rfl, sm⟩ := h
    obtain ⟨rfl, hxv⟩ := y
    obtain ⟨d, hv0, hd⟩ := hall14 xv (List.mem_of_getElem? hxv)
    have hvG := hv0.fut (.of_same sm)
    obtain ⟨mu, hv, hdd⟩ : ∃ mu : Addr → Prop, Dt K mu G' xv d ∧ (d.hasDict = false ∨ mu sysModules) := by
      rcases hvG with ⟨n, h⟩ | h
      · exact ⟨_, h, .inl n⟩
      · exact ⟨_, h, .inr (.inr rfl)⟩
    have okv : Ok d := od_Ok hd (by decide) (by decide)
    have odp := hd.dp
    refine ⟨_, rfl, xv, mu, d, rfl, hv, okv.show, hdd, by omega, okv.fits, _, rfl, xv, mu, d, rfl, hv, okv, fun Hx sx => ⟨_, _, rfl, ?_⟩⟩
    have hvx := hv.fut (.of_same sx)
    refine ⟨_, rfl, xv, mu, d, rfl, hvx, okv, fun Hy sy => ⟨_, rfl, .bl (isRd d), .bl (isRd d), (fun a => a = b), .bool (isRd d), rfl, .bl _, .bl _, bd_ok, .inl rfl, ?_⟩⟩
    have hvy := hvx.fut (.of_same sy)
    refine ⟨true, rfl, iteF ?_⟩
    refine ⟨_, rfl, xv, mu, d, rfl, hvy, okv.show, hdd, by omega, okv.fits, ?_⟩
    refine ⟨_, rfl, rfl, _, rfl, ?_⟩
    rw [show (!decide (V.str d.shown = V.str d.shown)) = false by rw [decide_eq_true rfl]; rfl]
    exact iteF ⟨_, _, _, rfl, (sm.trans sx).trans sy⟩
  · obtain ⟨o6a, o9a, o11a, rfl, sm⟩ := h
    have d15 := d14.fut (mu := fun _ => False) (.of_same sm)
    refine ⟨_, rfl, .ref r, (fun a => a = b), dealD D, rfl, deal_in d15, okD'.show, .inl sdD.nd, by omega, okD'.fits, ?_⟩
    refine ⟨_, rfl, rfl, _, rfl, ?_⟩
    rw [show (!decide (V.str (dealD D).shown = V.str (dealD D).shown)) = false by rw [decide_eq_true rfl]; rfl]
    exact iteF ⟨_, _, _, _, _, _, _, _, rfl, hb14.same sm⟩
end
end K49
namespace K49
open PySem PySem.Spec PyProof.Rows L2 Sw
def TPE (K : PySem.W.Frag) (w : World) (mg : Str → Option Value) : Prop := ∃ d0 es n, TPs K w mg d0 es n
theorem tpe_mk {K : PySem.W.Frag} {w : World} {h : Heap} {mg : Str → Option Value} {d0 : Addr} {es : Array DictEntry} {n : Nat} {vs : List Value} (X : K.In h) (G : h.Ns mainGlobals mg) (a : PySem.W.nsIn K mainGlobals "THING_PARTS" = some (some (.ref d0)))
    (l : K.lookup d0 = some ⟨.type "dict", none, .dict es n, #[]⟩) (hk : PySem.W.KeysLit w.params es.toList) (hl : KeyL es.toList (thT.map (·.1))) (low : (d0 == sysModules) = false) (hv : es.toList.map (·.val) = vs) (t : TabV K thT vs) : TPE K w mg := by
  subst hv
  refine ⟨d0, es, n, PySem.W.mg_of X G a, ⟨l, hk, low⟩, fun z e => ?_, fun z ks e => ?_⟩
  · rw [nsIn_tab l hl z, (t.get (z := z)).1 e]
  · obtain ⟨b, e1, e2⟩ := (t.get (z := z)).2 ks e
    exact ⟨b, by rw [nsIn_tab l hl z, e1], e2⟩
theorem intE_u {K : PySem.W.Frag} {h : Heap} {mg : Str → Option Value} {x : Str} {n : Int} (X : K.In h) (G : h.Ns mainGlobals mg) (e : ∃ t : Tok, PySem.W.nsIn K mainGlobals x = some (some (.int n t))) : ∃ u, mg x = some u ∧ RelV (.int n) u := by
  obtain ⟨t, a⟩ := e
  exact ⟨_, PySem.W.mg_of X G a, ⟨t, rfl⟩⟩
end K49
namespace K49
open PySem PySem.Spec PyProof.Rows L2 Sw
section
variable {K : PySem.W.Frag} {h : Heap} {mg : Str → Option Value}
/-- the top has written the def x -/
def DefE (K : PySem.W.Frag) (mg : Str → Option Value) (x : Str) (st : Stmt) : Prop := ∃ (f : Addr) (fd : FuncData), Fun K x x st f fd ∧ mg x = some (.ref f) ∧ PySem.W.keepIn K (.ref f) = true
theorem def_mk {x : Str} {st : Stmt} {f : Addr} {oc : Value} {od an : Option Addr} {osl : Array (Option Value)} {kV doc pm cdv ct : Value} (X : K.In h) (G : h.Ns mainGlobals mg) (a : PySem.W.nsIn K mainGlobals x = some (some (.ref f)))
    (l : K.lookup f = some ⟨oc, od, .func (PySem.W.fnOf x x (defArgs st) (defBody st) (defScope st) .none kV doc pm an cdv ct), osl⟩) (c : PySem.W.codeIn K cdv x = true) (k : PySem.W.keepIn K (.ref f) = true) : DefE K mg x st :=
  ⟨f, _, fun_mk l c k, PySem.W.mg_of X G a, k⟩
def DefL (K : PySem.W.Frag) (mg : Str → Option Value) : Prop := ∃ (f : Addr) (fd : FuncData), Fun K "law" "law" slaw f fd ∧ mg "law" = some (.ref f) ∧ ∀ (s : Shared) (v : Value), BindsTo s fd ⟨[v], []⟩ [("script", v)]
theorem law_mk {f : Addr} {oc : Value} {od an : Option Addr} {osl : Array (Option Value)} {kV doc pm cdv ct : Value} (X : K.In h) (G : h.Ns mainGlobals mg) (a : PySem.W.nsIn K mainGlobals "law" = some (some (.ref f)))
    (l : K.lookup f = some ⟨oc, od, .func (PySem.W.fnOf "law" "law" (defArgs slaw) (defBody slaw) (defScope slaw) .none kV doc pm an cdv ct), osl⟩) (c : PySem.W.codeIn K cdv "law" = true) (k : PySem.W.keepIn K (.ref f) = true) : DefL K mg :=
  ⟨f, _, fun_mk l c k, PySem.W.mg_of X G a, fun s v => .of_eq rfl⟩
def BtE (K : PySem.W.Frag) : Prop := ∀ x ∈ (["len", "int", "bool", "str", "tuple", "list", "dict", "isinstance", "repr", "abs", "max", "min", "range", "enumerate", "zip", "all", "any"] : List Str), PySem.W.nsIn K mainGlobals x = some none
theorem BtE.get (b : BtE K) (X : K.In h) (G : h.Ns mainGlobals mg) {x : Str} (hx : x ∈ (["len", "int", "bool", "str", "tuple", "list", "dict", "isinstance", "repr", "abs", "max", "min", "range", "enumerate", "zip", "all", "any"] : List Str)) : mg x = none := PySem.W.mg_none_of X G (b x hx)
theorem bte_mk (z0 : PySem.W.nsIn K mainGlobals "len" = some none) (z1 : PySem.W.nsIn K mainGlobals "int" = some none) (z2 : PySem.W.nsIn K mainGlobals "bool" = some none) (z3 : PySem.W.nsIn K mainGlobals "str" = some none) (z4 : PySem.W.nsIn K mainGlobals "tuple" = some none) (z5 : PySem.W.nsIn K mainGlobals "list" = some none) (z6 : PySem.W.nsIn K mainGlobals "dict" = some none) (z7 : PySem.W.nsIn K mainGlobals "isinstance" = some none) (z8 : PySem.W.nsIn K mainGlobals "repr" = some none) (z9 : PySem.W.nsIn K mainGlobals "abs" = some none) (z10 : PySem.W.nsIn K mainGlobals "max" = some none) (z11 : PySem.W.nsIn K mainGlobals "min" = some none) (z12 : PySem.W.nsIn K mainGlobals "range" = some none) (z13 : PySem.W.nsIn K mainGlobals "enumerate" = some none) (z14 : PySem.W.nsIn K mainGlobals "zip" = some none) (z15 : PySem.W.nsIn K mainGlobals "all" = some none) (z16 : PySem.W.nsIn K mainGlobals "any" = some none) : BtE K := by
  intro x hx
  simp only [List.mem_cons, List.not_mem_nil, or_false] at hx
  rcases hx with rfl | rfl | rfl | rfl | rfl | rfl | rfl | rfl | rfl | rfl | rfl | rfl | rfl | rfl | rfl | rfl | rfl <;> assumption
/-- .. a tuple of two integers -/
def TupE (K : PySem.W.Frag) (mg : Str → Option Value) (x : Str) (n d : Int) : Prop := ∃ z, mg x = some (.ref z) ∧ KTup K z [.int n, .int d]
theorem tup_mk {x : Str} {n d : Int} {z : Addr} {od : Option Addr} {t t' : Tok} {k : Nat} {osl : Array (Option Value)} (X : K.In h) (G : h.Ns mainGlobals mg) (a : PySem.W.nsIn K mainGlobals x = some (some (.ref z)))
    (l : K.lookup z = some ⟨.type "tuple", od, .seq #[.int n t, .int d t'] k, osl⟩) : TupE K mg x n d :=
  ⟨z, PySem.W.mg_of X G a, _, _, _, l, rfl, rfl, (show 2 ≤ sizeLine by decide), .cons ⟨_, rfl⟩ (.cons ⟨_, rfl⟩ .nil)⟩
def GcE (K : PySem.W.Frag) (x : Str) (b : String) : Prop := PySem.W.nsIn K mainGlobals x = some (some (.builtin b))
theorem gc_mk {x : Str} {b : String} (a : PySem.W.nsIn K mainGlobals x = some (some (.builtin b))) : GcE K x b := a
def IntE (K : PySem.W.Frag) (x : Str) (n : Int) : Prop := ∃ t : Tok, PySem.W.nsIn K mainGlobals x = some (some (.int n t))
theorem int_mk {x : Str} {n : Int} {t : Tok} (a : PySem.W.nsIn K mainGlobals x = some (some (.int n t))) : IntE K x n := ⟨t, a⟩
/-- all that the top has written, put together -/
theorem all_mk {P : Program} {w : World} {fa : Addr} (X : K.In h) (G : h.Ns mainGlobals mg) (hfa : mg "law" = some (.ref fa))
    (D0 : DefE K mg "added" sadded)
    (D1 : DefE K mg "lessened" slessened)
    (D2 : DefE K mg "times" stimes)
    (D3 : DefE K mg "over" sover)
    (D4 : DefE K mg "compared" scompared)
    (D5 : DefE K mg "compared_roughly" scompared_roughly)
    (D6 : DefE K mg "first_bits" sfirst_bits)
    (D7 : DefE K mg "greatest_of" sgreatest_of)
    (D8 : DefE K mg "total" stotal)
    (D9 : DefE K mg "is_integer" sis_integer)
    (D10 : DefE K mg "is_fraction" sis_fraction)
    (D11 : DefE K mg "is_amount" sis_amount)
    (D12 : DefE K mg "is_above_zero" sis_above_zero)
    (D13 : DefE K mg "is_round" sis_round)
    (D14 : DefE K mg "is_pool" sis_pool)
    (D15 : DefE K mg "is_below_one" sis_below_one)
    (D16 : DefE K mg "is_thing" sis_thing)
    (D17 : DefE K mg "is_part" sis_part)
    (D18 : DefE K mg "rest_of" srest_of)
    (D19 : DefE K mg "thing_worth" sthing_worth)
    (D20 : DefE K mg "note_worth" snote_worth)
    (D21 : DefE K mg "pool_worth" spool_worth)
    (D22 : DefE K mg "worths_at" sworths_at)
    (D23 : DefE K mg "worth_at" sworth_at)
    (D24 : DefE K mg "_law_bag" s_law_bag)
    (D25 : DefE K mg "_law_take" s_law_take)
    (D26 : DefE K mg "_law_some" s_law_some)
    (D27 : DefE K mg "_law_mixed" s_law_mixed)
    (D28 : DefE K mg "_law_alike" s_law_alike)
    (D29 : DefE K mg "_law_is_int" s_law_is_int)
    (D30 : DefE K mg "_law_common" s_law_common)
    (D31 : DefE K mg "_law_reduced" s_law_reduced)
    (D32 : DefE K mg "_law_added" s_law_added)
    (D33 : DefE K mg "_law_lessened" s_law_lessened)
    (D34 : DefE K mg "_law_multiplied" s_law_multiplied)
    (D35 : DefE K mg "_law_divided" s_law_divided)
    (D36 : DefE K mg "_law_is_below" s_law_is_below)
    (D37 : DefE K mg "_law_greater" s_law_greater)
    (D38 : DefE K mg "_law_total" s_law_total)
    (D39 : DefE K mg "_law_ascending" s_law_ascending)
    (D40 : DefE K mg "_law_number" s_law_number)
    (D41 : DefE K mg "_law_deal" s_law_deal)
    (D42 : DefE K mg "_law_thing" s_law_thing)
    (D43 : DefE K mg "_law_worth_of" s_law_worth_of)
    (D44 : DefE K mg "_law_worths" s_law_worths)
    (D45 : DefE K mg "_law_prices" s_law_prices)
    (D46 : DefE K mg "_law_is_short" s_law_is_short)
    (D47 : DefE K mg "_law_is_fraction" s_law_is_fraction)
    (D48 : DefE K mg "_law_is_above" s_law_is_above)
    (D49 : DefE K mg "_law_is_part" s_law_is_part)
    (D50 : DefE K mg "_law_is_thing" s_law_is_thing)
    (D51 : DefE K mg "_law_is_round" s_law_is_round)
    (D52 : DefE K mg "_law_bent" s_law_bent)
    (DL : DefL K mg)
    (GC : GcE K "gcd" "math.gcd")
    (GB : IntE K "GREAT_BITS" 1500)
    (RB : IntE K "ROUGH_BITS" 128)
    (ZZ : TupE K mg "ZERO" 0 1)
    (ZO : TupE K mg "ONE" 1 1)
    (TP : TPE K w mg)
    (Z : BtE K) :
    ∃ fd : FuncData, (∀ (s : Shared) (v : Value), BindsTo s fd ⟨[v], []⟩ [("script", v)]) ∧ ∀ base : Heap, K.In base → base.Ns mainGlobals mg → FnG P w K mg base 60 fa fd ["script"] (spLaw K) := by
  obtain ⟨fL, fdL, FL, mL, bL⟩ := DL
  have e := hfa.symm.trans mL
  cases e
  obtain ⟨f0, fd0, F0, m0, k0⟩ := D0
  have b0 := F0.binds (ps := ["one", "other"]) fun _ _ _ _ _ _ us hl => match us, hl with | [_, _], _ => rfl
  obtain ⟨f1, fd1, F1, m1, k1⟩ := D1
  have b1 := F1.binds (ps := ["one", "other"]) fun _ _ _ _ _ _ us hl => match us, hl with | [_, _], _ => rfl
  obtain ⟨f2, fd2, F2, m2, k2⟩ := D2
  have b2 := F2.binds (ps := ["one", "other"]) fun _ _ _ _ _ _ us hl => match us, hl with | [_, _], _ => rfl
  obtain ⟨f3, fd3, F3, m3, k3⟩ := D3
  have b3 := F3.binds (ps := ["one", "other"]) fun _ _ _ _ _ _ us hl => match us, hl with | [_, _], _ => rfl
  obtain ⟨f4, fd4, F4, m4, k4⟩ := D4
  have b4 := F4.binds (ps := ["one", "other"]) fun _ _ _ _ _ _ us hl => match us, hl with | [_, _], _ => rfl
  obtain ⟨f5, fd5, F5, m5, k5⟩ := D5
  have b5 := F5.binds (ps := ["one", "other"]) fun _ _ _ _ _ _ us hl => match us, hl with | [_, _], _ => rfl
  obtain ⟨f6, fd6, F6, m6, k6⟩ := D6
  have b6 := F6.binds (ps := ["one"]) fun _ _ _ _ _ _ us hl => match us, hl with | [_], _ => rfl
  obtain ⟨f7, fd7, F7, m7, k7⟩ := D7
  have b7 := F7.binds (ps := ["fractions"]) fun _ _ _ _ _ _ us hl => match us, hl with | [_], _ => rfl
  obtain ⟨f8, fd8, F8, m8, k8⟩ := D8
  have b8 := F8.binds (ps := ["fractions"]) fun _ _ _ _ _ _ us hl => match us, hl with | [_], _ => rfl
  obtain ⟨f9, fd9, F9, m9, k9⟩ := D9
  have b9 := F9.binds (ps := ["thing"]) fun _ _ _ _ _ _ us hl => match us, hl with | [_], _ => rfl
  obtain ⟨f10, fd10, F10, m10, k10⟩ := D10
  have b10 := F10.binds (ps := ["thing"]) fun _ _ _ _ _ _ us hl => match us, hl with | [_], _ => rfl
  obtain ⟨f11, fd11, F11, m11, k11⟩ := D11
  have b11 := F11.binds (ps := ["thing"]) fun _ _ _ _ _ _ us hl => match us, hl with | [_], _ => rfl
  obtain ⟨f12, fd12, F12, m12, k12⟩ := D12
  have b12 := F12.binds (ps := ["thing"]) fun _ _ _ _ _ _ us hl => match us, hl with | [_], _ => rfl
  obtain ⟨f13, fd13, F13, m13, k13⟩ := D13
  have b13 := F13.binds (ps := ["thing"]) fun _ _ _ _ _ _ us hl => match us, hl with | [_], _ => rfl
  obtain ⟨f14, fd14, F14, m14, k14⟩ := D14
  have b14 := F14.binds (ps := ["thing"]) fun _ _ _ _ _ _ us hl => match us, hl with | [_], _ => rfl
  obtain ⟨f15, fd15, F15, m15, k15⟩ := D15
  have b15 := F15.binds (ps := ["thing"]) fun _ _ _ _ _ _ us hl => match us, hl with | [_], _ => rfl
  obtain ⟨f16, fd16, F16, m16, k16⟩ := D16
  have b16 := F16.binds (ps := ["thing"]) fun _ _ _ _ _ _ us hl => match us, hl with | [_], _ => rfl
  obtain ⟨f17, fd17, F17, m17, k17⟩ := D17
  have b17 := F17.binds (ps := ["kind", "thing"]) fun _ _ _ _ _ _ us hl => match us, hl with | [_, _], _ => rfl
  obtain ⟨f18, fd18, F18, m18, k18⟩ := D18
  have b18 := F18.binds (ps := ["part"]) fun _ _ _ _ _ _ us hl => match us, hl with | [_], _ => rfl
  obtain ⟨f19, fd19, F19, m19, k19⟩ := D19
  have b19 := F19.binds (ps := ["thing", "price", "money"]) fun _ _ _ _ _ _ us hl => match us, hl with | [_, _, _], _ => rfl
  obtain ⟨f20, fd20, F20, m20, k20⟩ := D20
  have b20 := F20.binds (ps := ["note", "price"]) fun _ _ _ _ _ _ us hl => match us, hl with | [_, _], _ => rfl
  obtain ⟨f21, fd21, F21, m21, k21⟩ := D21
  have b21 := F21.binds (ps := ["deal", "price", "worth"]) fun _ _ _ _ _ _ us hl => match us, hl with | [_, _, _], _ => rfl
  obtain ⟨f22, fd22, F22, m22, k22⟩ := D22
  have b22 := F22.binds (ps := ["deal", "price"]) fun _ _ _ _ _ _ us hl => match us, hl with | [_, _], _ => rfl
  obtain ⟨f23, fd23, F23, m23, k23⟩ := D23
  have b23 := F23.binds (ps := ["deal", "price"]) fun _ _ _ _ _ _ us hl => match us, hl with | [_, _], _ => rfl
  obtain ⟨f24, fd24, F24, m24, k24⟩ := D24
  have b24 := F24.binds (ps := ["script"]) fun _ _ _ _ _ _ us hl => match us, hl with | [_], _ => rfl
  obtain ⟨f25, fd25, F25, m25, k25⟩ := D25
  have b25 := F25.binds (ps := ["bag", "many"]) fun _ _ _ _ _ _ us hl => match us, hl with | [_, _], _ => rfl
  obtain ⟨f26, fd26, F26, m26, k26⟩ := D26
  have b26 := F26.binds (ps := ["bag", "things"]) fun _ _ _ _ _ _ us hl => match us, hl with | [_, _], _ => rfl
  obtain ⟨f27, fd27, F27, m27, k27⟩ := D27
  have b27 := F27.binds (ps := ["bag", "things"]) fun _ _ _ _ _ _ us hl => match us, hl with | [_, _], _ => rfl
  obtain ⟨f28, fd28, F28, m28, k28⟩ := D28
  have b28 := F28.binds (ps := ["found", "due"]) fun _ _ _ _ _ _ us hl => match us, hl with | [_, _], _ => rfl
  obtain ⟨f29, fd29, F29, m29, k29⟩ := D29
  have b29 := F29.binds (ps := ["thing"]) fun _ _ _ _ _ _ us hl => match us, hl with | [_], _ => rfl
  obtain ⟨f30, fd30, F30, m30, k30⟩ := D30
  have b30 := F30.binds (ps := ["one", "other"]) fun _ _ _ _ _ _ us hl => match us, hl with | [_, _], _ => rfl
  obtain ⟨f31, fd31, F31, m31, k31⟩ := D31
  have b31 := F31.binds (ps := ["n", "d"]) fun _ _ _ _ _ _ us hl => match us, hl with | [_, _], _ => rfl
  obtain ⟨f32, fd32, F32, m32, k32⟩ := D32
  have b32 := F32.binds (ps := ["one", "other"]) fun _ _ _ _ _ _ us hl => match us, hl with | [_, _], _ => rfl
  obtain ⟨f33, fd33, F33, m33, k33⟩ := D33
  have b33 := F33.binds (ps := ["one", "other"]) fun _ _ _ _ _ _ us hl => match us, hl with | [_, _], _ => rfl
  obtain ⟨f34, fd34, F34, m34, k34⟩ := D34
  have b34 := F34.binds (ps := ["one", "other"]) fun _ _ _ _ _ _ us hl => match us, hl with | [_, _], _ => rfl
  obtain ⟨f35, fd35, F35, m35, k35⟩ := D35
  have b35 := F35.binds (ps := ["one", "other"]) fun _ _ _ _ _ _ us hl => match us, hl with | [_, _], _ => rfl
  obtain ⟨f36, fd36, F36, m36, k36⟩ := D36
  have b36 := F36.binds (ps := ["one", "other"]) fun _ _ _ _ _ _ us hl => match us, hl with | [_, _], _ => rfl
  obtain ⟨f37, fd37, F37, m37, k37⟩ := D37
  have b37 := F37.binds (ps := ["one", "other"]) fun _ _ _ _ _ _ us hl => match us, hl with | [_, _], _ => rfl
  obtain ⟨f38, fd38, F38, m38, k38⟩ := D38
  have b38 := F38.binds (ps := ["fractions"]) fun _ _ _ _ _ _ us hl => match us, hl with | [_], _ => rfl
  obtain ⟨f39, fd39, F39, m39, k39⟩ := D39
  have b39 := F39.binds (ps := ["fractions"]) fun _ _ _ _ _ _ us hl => match us, hl with | [_], _ => rfl
  obtain ⟨f40, fd40, F40, m40, k40⟩ := D40
  have b40 := F40.binds (ps := ["bag", "most"]) fun _ _ _ _ _ _ us hl => match us, hl with | [_, _], _ => rfl
  obtain ⟨f41, fd41, F41, m41, k41⟩ := D41
  have b41 := F41.binds (ps := ["bag"]) fun _ _ _ _ _ _ us hl => match us, hl with | [_], _ => rfl
  obtain ⟨f42, fd42, F42, m42, k42⟩ := D42
  have b42 := F42.binds (ps := ["bag"]) fun _ _ _ _ _ _ us hl => match us, hl with | [_], _ => rfl
  obtain ⟨f43, fd43, F43, m43, k43⟩ := D43
  have b43 := F43.binds (ps := ["thing", "money", "price"]) fun _ _ _ _ _ _ us hl => match us, hl with | [_, _, _], _ => rfl
  obtain ⟨f44, fd44, F44, m44, k44⟩ := D44
  have b44 := F44.binds (ps := ["deal", "price"]) fun _ _ _ _ _ _ us hl => match us, hl with | [_, _], _ => rfl
  obtain ⟨f45, fd45, F45, m45, k45⟩ := D45
  have b45 := F45.binds (ps := ["bag", "deal"]) fun _ _ _ _ _ _ us hl => match us, hl with | [_, _], _ => rfl
  obtain ⟨f46, fd46, F46, m46, k46⟩ := D46
  have b46 := F46.binds (ps := ["one"]) fun _ _ _ _ _ _ us hl => match us, hl with | [_], _ => rfl
  obtain ⟨f47, fd47, F47, m47, k47⟩ := D47
  have b47 := F47.binds (ps := ["thing"]) fun _ _ _ _ _ _ us hl => match us, hl with | [_], _ => rfl
  obtain ⟨f48, fd48, F48, m48, k48⟩ := D48
  have b48 := F48.binds (ps := ["thing"]) fun _ _ _ _ _ _ us hl => match us, hl with | [_], _ => rfl
  obtain ⟨f49, fd49, F49, m49, k49⟩ := D49
  have b49 := F49.binds (ps := ["thing"]) fun _ _ _ _ _ _ us hl => match us, hl with | [_], _ => rfl
  obtain ⟨f50, fd50, F50, m50, k50⟩ := D50
  have b50 := F50.binds (ps := ["thing"]) fun _ _ _ _ _ _ us hl => match us, hl with | [_], _ => rfl
  obtain ⟨f51, fd51, F51, m51, k51⟩ := D51
  have b51 := F51.binds (ps := ["thing"]) fun _ _ _ _ _ _ us hl => match us, hl with | [_], _ => rfl
  obtain ⟨f52, fd52, F52, m52, k52⟩ := D52
  have b52 := F52.binds (ps := ["bag", "thing"]) fun _ _ _ _ _ _ us hl => match us, hl with | [_, _], _ => rfl
  have B : Bt mg := ⟨Z.get X G (by decide +kernel), Z.get X G (by decide +kernel), Z.get X G (by decide +kernel), Z.get X G (by decide +kernel), Z.get X G (by decide +kernel), Z.get X G (by decide +kernel), Z.get X G (by decide +kernel), Z.get X G (by decide +kernel), Z.get X G (by decide +kernel), Z.get X G (by decide +kernel), Z.get X G (by decide +kernel), Z.get X G (by decide +kernel), Z.get X G (by decide +kernel), Z.get X G (by decide +kernel), Z.get X G (by decide +kernel)⟩
  have T_all : mg "all" = none := Z.get X G (by decide +kernel)
  have T_any : mg "any" = none := Z.get X G (by decide +kernel)
  obtain ⟨d0, es0, n0, TD⟩ := TP
  obtain ⟨zz, ZZm, ZZk⟩ := ZZ
  obtain ⟨zo, ZOm, ZOk⟩ := ZO
  have T : Tx mg := ⟨PySem.W.mg_of X G GC⟩
  refine ⟨fdL, bL, fun base hKb _ => ?_⟩
  have C_added : CalG P w K mg base 1 "added" (spTwo K addF) := ⟨f0, fd0, _, ok_added F0 B T, m0, k0, b0⟩
  have C_lessened : CalG P w K mg base 2 "lessened" (spTwo K subF) := ⟨f1, fd1, _, ok_lessened F1 B C_added, m1, k1, b1⟩
  have C_times : CalG P w K mg base 1 "times" (spTwo K mulF) := ⟨f2, fd2, _, ok_times F2 B T, m2, k2, b2⟩
  have C_over : CalG P w K mg base 2 "over" (spDiv K) := ⟨f3, fd3, _, ok_over F3 B C_times, m3, k3, b3⟩
  have C_first_bits : CalG P w K mg base 1 "first_bits" (spFirst K) := ⟨f6, fd6, _, ok_first_bits F6 B (intE_u X G RB), m6, k6, b6⟩
  have C_total : CalG P w K mg base 2 "total" (spTotal K) := ⟨f8, fd8, _, ok_total F8 B ⟨_, ZZm, rfl⟩ ZZk C_added, m8, k8, b8⟩
  have C_is_integer : CalG P w K mg base 1 "is_integer" (spP K isInt) := ⟨f9, fd9, _, ok_is_integer F9 B, m9, k9, b9⟩
  have C_is_fraction : CalG P w K mg base 2 "is_fraction" (spP K isFrac) := ⟨f10, fd10, _, ok_is_fraction F10 B T C_is_integer, m10, k10, b10⟩
  have C_is_amount : CalG P w K mg base 3 "is_amount" (spP K isAmt) := ⟨f11, fd11, _, ok_is_amount F11 B C_is_fraction, m11, k11, b11⟩
  have C_is_above_zero : CalG P w K mg base 3 "is_above_zero" (spP K isAb) := ⟨f12, fd12, _, ok_is_above_zero F12 B C_is_fraction, m12, k12, b12⟩
  have C_is_below_one : CalG P w K mg base 4 "is_below_one" (spP K isBl) := ⟨f15, fd15, _, ok_is_below_one F15 B C_is_amount, m15, k15, b15⟩
  have C_is_part : CalG P w K mg base 5 "is_part" (spPart K) := ⟨f17, fd17, _, ok_is_part F17 B C_is_above_zero C_is_below_one, m17, k17, b17⟩
  have C_rest_of : CalG P w K mg base 3 "rest_of" (spRest K) := ⟨f18, fd18, _, ok_rest_of F18 B ⟨_, ZOm, rfl⟩ ZOk C_lessened, m18, k18, b18⟩
  have C__law_bag : CalG P w K mg base 1 "_law_bag" (spBag K) := ⟨f24, fd24, _, ok__law_bag F24 B, m24, k24, b24⟩
  have C__law_take : CalG P w K mg base 1 "_law_take" (spTake) := ⟨f25, fd25, _, ok__law_take F25 B, m25, k25, b25⟩
  have C__law_some : CalG P w K mg base 2 "_law_some" (spSome) := ⟨f26, fd26, _, ok__law_some F26 B C__law_take, m26, k26, b26⟩
  have C__law_mixed : CalG P w K mg base 2 "_law_mixed" (spMixed) := ⟨f27, fd27, _, ok__law_mixed F27 B C__law_take, m27, k27, b27⟩
  have C__law_alike : CalG P w K mg base 1 "_law_alike" (spAlike K) := ⟨f28, fd28, _, ok__law_alike F28 B, m28, k28, b28⟩
  have C__law_is_int : CalG P w K mg base 1 "_law_is_int" (spP K isInt) := ⟨f29, fd29, _, ok__law_is_int F29 B, m29, k29, b29⟩
  have C__law_common : CalG P w K mg base 1 "_law_common" (spCommon) := ⟨f30, fd30, _, ok__law_common F30 B, m30, k30, b30⟩
  have C__law_reduced : CalG P w K mg base 2 "_law_reduced" (spRed) := ⟨f31, fd31, _, ok__law_reduced F31 B C__law_common, m31, k31, b31⟩
  have C__law_added : CalG P w K mg base 3 "_law_added" (spTwo K addF) := ⟨f32, fd32, _, ok__law_added F32 B C__law_reduced, m32, k32, b32⟩
  have C__law_lessened : CalG P w K mg base 3 "_law_lessened" (spTwo K subF) := ⟨f33, fd33, _, ok__law_lessened F33 B C__law_reduced, m33, k33, b33⟩
  have C__law_multiplied : CalG P w K mg base 3 "_law_multiplied" (spTwo K mulF) := ⟨f34, fd34, _, ok__law_multiplied F34 B C__law_reduced, m34, k34, b34⟩
  have C__law_divided : CalG P w K mg base 3 "_law_divided" (spDiv K) := ⟨f35, fd35, _, ok__law_divided F35 B C__law_reduced, m35, k35, b35⟩
  have C__law_is_below : CalG P w K mg base 1 "_law_is_below" (spBelow K) := ⟨f36, fd36, _, ok__law_is_below F36 B, m36, k36, b36⟩
  have C__law_greater : CalG P w K mg base 2 "_law_greater" (spGr K) := ⟨f37, fd37, _, ok__law_greater F37 B C__law_is_below, m37, k37, b37⟩
  have C__law_total : CalG P w K mg base 4 "_law_total" (spTotal K) := ⟨f38, fd38, _, ok__law_total F38 B C__law_added, m38, k38, b38⟩
  have C__law_ascending : CalG P w K mg base 2 "_law_ascending" (spAsc K) := ⟨f39, fd39, _, ok__law_ascending F39 B C__law_is_below, m39, k39, b39⟩
  have C__law_number : CalG P w K mg base 3 "_law_number" (spNumE K) := ⟨f40, fd40, _, ok__law_number F40 B C__law_take C__law_some C__law_reduced, m40, k40, b40⟩
  have C__law_thing : CalG P w K mg base 4 "_law_thing" (spTh K) := ⟨f42, fd42, _, ok__law_thing F42 B C__law_take C__law_some C__law_number, m42, k42, b42⟩
  have C__law_worth_of : CalG P w K mg base 4 "_law_worth_of" (spLW K) := ⟨f43, fd43, _, ok__law_worth_of F43 B C__law_multiplied C__law_lessened C__law_divided C__law_added C__law_greater C__law_is_below, m43, k43, b43⟩
  have C__law_worths : CalG P w K mg base 5 "_law_worths" (spWs K) := ⟨f44, fd44, _, ok__law_worths F44 B C__law_worth_of C__law_divided C__law_multiplied C__law_added C__law_total C__law_lessened C__law_greater, m44, k44, b44⟩
  have C__law_is_short : CalG P w K mg base 1 "_law_is_short" (spShort K) := ⟨f46, fd46, _, ok__law_is_short F46 B, m46, k46, b46⟩
  have C__law_is_fraction : CalG P w K mg base 2 "_law_is_fraction" (spP K isFrac) := ⟨f47, fd47, _, ok__law_is_fraction F47 B C__law_is_int C__law_common, m47, k47, b47⟩
  have C__law_is_above : CalG P w K mg base 3 "_law_is_above" (spP K isAb) := ⟨f48, fd48, _, ok__law_is_above F48 B C__law_is_fraction, m48, k48, b48⟩
  have C__law_is_part : CalG P w K mg base 3 "_law_is_part" (spP K isBl) := ⟨f49, fd49, _, ok__law_is_part F49 B C__law_is_fraction, m49, k49, b49⟩
  have C__law_is_thing : CalG P w K mg base 4 "_law_is_thing" (spP K isTh) := ⟨f50, fd50, _, ok__law_is_thing F50 B C__law_is_above C__law_is_part, m50, k50, b50⟩
  have C__law_is_round : CalG P w K mg base 5 "_law_is_round" (spP K isRd) := ⟨f51, fd51, _, ok__law_is_round F51 B C__law_is_above C__law_is_part C__law_is_fraction C__law_is_thing, m51, k51, b51⟩
  have C_bent : CalG P w K mg base 14 "_law_bent" (spBent K 10) := bent_chain F52 B C__law_take C__law_some C__law_is_int (fun j sp h => ⟨f52, fd52, _, h, m52, k52, b52⟩) 10
  have C_compared_roughly : CalG P w K mg base 2 "compared_roughly" (spRough K) := ⟨f5, fd5, _, ok_compared_roughly F5 B C_first_bits, m5, k5, b5⟩
  have C_is_pool : CalG P w K mg base 5 "is_pool" (spP K isPool) := ⟨f14, fd14, _, ok_is_pool F14 B C_is_amount C_is_below_one, m14, k14, b14⟩
  have C_is_thing : CalG P w K mg base 6 "is_thing" (spP K isTh) := ⟨f16, fd16, _, ok_is_thing F16 B T_all TD C_is_part, m16, k16, b16⟩
  have C__law_deal : CalG P w K mg base 5 "_law_deal" (spDeal K) := ⟨f41, fd41, _, ok__law_deal F41 B C__law_some C__law_number C__law_thing C__law_mixed, m41, k41, b41⟩
  have C__law_prices : CalG P w K mg base 4 "_law_prices" (spPrices K) := ⟨f45, fd45, _, ok__law_prices F45 B C__law_number C__law_lessened C__law_divided C__law_multiplied C__law_some C__law_ascending C__law_is_short, m45, k45, b45⟩
  have C_compared : CalG P w K mg base 3 "compared" (spCmp K) := ⟨f4, fd4, _, ok_compared F4 B (intE_u X G GB) C_compared_roughly, m4, k4, b4⟩
  have C_greatest_of : CalG P w K mg base 4 "greatest_of" (spEnd K (fun f g => LeF g f)) := ⟨f7, fd7, _, ok_greatest_of F7 B C_compared, m7, k7, b7⟩
  have C_is_round : CalG P w K mg base 7 "is_round" (spP K isRd) := ⟨f13, fd13, _, ok_is_round F13 B T_all T_any C_is_above_zero C_is_amount C_is_pool C_is_thing, m13, k13, b13⟩
  have C_note_worth : CalG P w K mg base 5 "note_worth" (spNote K) := ⟨f20, fd20, _, ok_note_worth F20 B C_over C_rest_of C_greatest_of C_times, m20, k20, b20⟩
  have C_pool_worth : CalG P w K mg base 5 "pool_worth" (spPool K) := ⟨f21, fd21, _, ok_pool_worth F21 B C_times C_added C_over C_rest_of C_greatest_of, m21, k21, b21⟩
  have C_thing_worth : CalG P w K mg base 6 "thing_worth" (spWorth K) := ⟨f19, fd19, _, ok_thing_worth F19 B C_note_worth C_compared C_times C_over C_added, m19, k19, b19⟩
  have C_worths_at : CalG P w K mg base 7 "worths_at" (spWs K) := ⟨f22, fd22, _, ok_worths_at F22 B C_thing_worth C_total C_pool_worth, m22, k22, b22⟩
  have C_worth_at : CalG P w K mg base 8 "worth_at" (spW1 K) := ⟨f23, fd23, _, ok_worth_at F23 B C_worths_at C_total, m23, k23, b23⟩
  exact ok_law FL B ⟨C__law_bag, C__law_some, C__law_alike, C__law_deal, C__law_prices, C__law_worths, C__law_total, C_worths_at, C_worth_at, C_bent, C__law_is_round, C_is_round⟩
end
end K49
open PySem PySem.W PyProof.Rows
set_option maxRecDepth 100000 in
set_option maxHeartbeats 0 in
theorem PySem.Challenge.cw_soldwhole_k49_worths_of_rounds_holds : PySem.Challenge.rw_soldwhole_k49_worths_of_rounds.Holds := by
  w_on; o_law; k_head; (case hw => w_witness2)
  k_fill
  refine Sw.walkG (l := PySem.Challenge.rw_soldwhole_k49_worths_of_rounds) (n := 63) (k := 60) (x := "script") (sp := fun w => K49.spLaw _) rfl (by decide) rfl ⟨rfl, by decide, by decide⟩ (fun w h Y => PySem.W.kIn_of Y) ?F (fun _ _ a ns hl _ _ hS => ⟨a, ns, rfl, hS, hl, fun _ => rfl⟩)
  case F =>
    intro w mg fa h KX G hmg
    refine' K49.all_mk KX G hmg ?D0 ?D1 ?D2 ?D3 ?D4 ?D5 ?D6 ?D7 ?D8 ?D9 ?D10 ?D11 ?D12 ?D13 ?D14 ?D15 ?D16 ?D17 ?D18 ?D19 ?D20 ?D21 ?D22 ?D23 ?D24 ?D25 ?D26 ?D27 ?D28 ?D29 ?D30 ?D31 ?D32 ?D33 ?D34 ?D35 ?D36 ?D37 ?D38 ?D39 ?D40 ?D41 ?D42 ?D43 ?D44 ?D45 ?D46 ?D47 ?D48 ?D49 ?D50 ?D51 ?D52 ?DL ?GC ?GB ?RB ?ZZ ?ZO ?TP ?Z
    (case D0 => (refine' K49.def_mk KX G ?a ?l ?c ?k; (case a => k_is); (case l => k_is); (case c => k_is); (case k => k_is)))
    (case D1 => (refine' K49.def_mk KX G ?a ?l ?c ?k; (case a => k_is); (case l => k_is); (case c => k_is); (case k => k_is)))
    (case D2 => (refine' K49.def_mk KX G ?a ?l ?c ?k; (case a => k_is); (case l => k_is); (case c => k_is); (case k => k_is)))
    (case D3 => (refine' K49.def_mk KX G ?a ?l ?c ?k; (case a => k_is); (case l => k_is); (case c => k_is); (case k => k_is)))
    (case D4 => (refine' K49.def_mk KX G ?a ?l ?c ?k; (case a => k_is); (case l => k_is); (case c => k_is); (case k => k_is)))
    (case D5 => (refine' K49.def_mk KX G ?a ?l ?c ?k; (case a => k_is); (case l => k_is); (case c => k_is); (case k => k_is)))
    (case D6 => (refine' K49.def_mk KX G ?a ?l ?c ?k; (case a => k_is); (case l => k_is); (case c => k_is); (case k => k_is)))
    (case D7 => (refine' K49.def_mk KX G ?a ?l ?c ?k; (case a => k_is); (case l => k_is); (case c => k_is); (case k => k_is)))
    (case D8 => (refine' K49.def_mk KX G ?a ?l ?c ?k; (case a => k_is); (case l => k_is); (case c => k_is); (case k => k_is)))
    (case D9 => (refine' K49.def_mk KX G ?a ?l ?c ?k; (case a => k_is); (case l => k_is); (case c => k_is); (case k => k_is)))
    (case D10 => (refine' K49.def_mk KX G ?a ?l ?c ?k; (case a => k_is); (case l => k_is); (case c => k_is); (case k => k_is)))
    (case D11 => (refine' K49.def_mk KX G ?a ?l ?c ?k; (case a => k_is); (case l => k_is); (case c => k_is); (case k => k_is)))
    (case D12 => (refine' K49.def_mk KX G ?a ?l ?c ?k; (case a => k_is); (case l => k_is); (case c => k_is); (case k => k_is)))
    (case D13 => (refine' K49.def_mk KX G ?a ?l ?c ?k; (case a => k_is); (case l => k_is); (case c => k_is); (case k => k_is)))
    (case D14 => (refine' K49.def_mk KX G ?a ?l ?c ?k; (case a => k_is); (case l => k_is); (case c => k_is); (case k => k_is)))
    (case D15 => (refine' K49.def_mk KX G ?a ?l ?c ?k; (case a => k_is); (case l => k_is); (case c => k_is); (case k => k_is)))
    (case D16 => (refine' K49.def_mk KX G ?a ?l ?c ?k; (case a => k_is); (case l => k_is); (case c => k_is); (case k => k_is)))
    (case D17 => (refine' K49.def_mk KX G ?a ?l ?c ?k; (case a => k_is); (case l => k_is); (case c => k_is); (case k => k_is)))
    (case D18 => (refine' K49.def_mk KX G ?a ?l ?c ?k; (case a => k_is); (case l => k_is); (case c => k_is); (case k => k_is)))
    (case D19 => (refine' K49.def_mk KX G ?a ?l ?c ?k; (case a => k_is); (case l => k_is); (case c => k_is); (case k => k_is)))
    (case D20 => (refine' K49.def_mk KX G ?a ?l ?c ?k; (case a => k_is); (case l => k_is); (case c => k_is); (case k => k_is)))
    (case D21 => (refine' K49.def_mk KX G ?a ?l ?c ?k; (case a => k_is); (case l => k_is); (case c => k_is); (case k => k_is)))
    (case D22 => (refine' K49.def_mk KX G ?a ?l ?c ?k; (case a => k_is); (case l => k_is); (case c => k_is); (case k => k_is)))
    (case D23 => (refine' K49.def_mk KX G ?a ?l ?c ?k; (case a => k_is); (case l => k_is); (case c => k_is); (case k => k_is)))
    (case D24 => (refine' K49.def_mk KX G ?a ?l ?c ?k; (case a => k_is); (case l => k_is); (case c => k_is); (case k => k_is)))
    (case D25 => (refine' K49.def_mk KX G ?a ?l ?c ?k; (case a => k_is); (case l => k_is); (case c => k_is); (case k => k_is)))
    (case D26 => (refine' K49.def_mk KX G ?a ?l ?c ?k; (case a => k_is); (case l => k_is); (case c => k_is); (case k => k_is)))
    (case D27 => (refine' K49.def_mk KX G ?a ?l ?c ?k; (case a => k_is); (case l => k_is); (case c => k_is); (case k => k_is)))
    (case D28 => (refine' K49.def_mk KX G ?a ?l ?c ?k; (case a => k_is); (case l => k_is); (case c => k_is); (case k => k_is)))
    (case D29 => (refine' K49.def_mk KX G ?a ?l ?c ?k; (case a => k_is); (case l => k_is); (case c => k_is); (case k => k_is)))
    (case D30 => (refine' K49.def_mk KX G ?a ?l ?c ?k; (case a => k_is); (case l => k_is); (case c => k_is); (case k => k_is)))
    (case D31 => (refine' K49.def_mk KX G ?a ?l ?c ?k; (case a => k_is); (case l => k_is); (case c => k_is); (case k => k_is)))
    (case D32 => (refine' K49.def_mk KX G ?a ?l ?c ?k; (case a => k_is); (case l => k_is); (case c => k_is); (case k => k_is)))
    (case D33 => (refine' K49.def_mk KX G ?a ?l ?c ?k; (case a => k_is); (case l => k_is); (case c => k_is); (case k => k_is)))
    (case D34 => (refine' K49.def_mk KX G ?a ?l ?c ?k; (case a => k_is); (case l => k_is); (case c => k_is); (case k => k_is)))
    (case D35 => (refine' K49.def_mk KX G ?a ?l ?c ?k; (case a => k_is); (case l => k_is); (case c => k_is); (case k => k_is)))
    (case D36 => (refine' K49.def_mk KX G ?a ?l ?c ?k; (case a => k_is); (case l => k_is); (case c => k_is); (case k => k_is)))
    (case D37 => (refine' K49.def_mk KX G ?a ?l ?c ?k; (case a => k_is); (case l => k_is); (case c => k_is); (case k => k_is)))
    (case D38 => (refine' K49.def_mk KX G ?a ?l ?c ?k; (case a => k_is); (case l => k_is); (case c => k_is); (case k => k_is)))
    (case D39 => (refine' K49.def_mk KX G ?a ?l ?c ?k; (case a => k_is); (case l => k_is); (case c => k_is); (case k => k_is)))
    (case D40 => (refine' K49.def_mk KX G ?a ?l ?c ?k; (case a => k_is); (case l => k_is); (case c => k_is); (case k => k_is)))
    (case D41 => (refine' K49.def_mk KX G ?a ?l ?c ?k; (case a => k_is); (case l => k_is); (case c => k_is); (case k => k_is)))
    (case D42 => (refine' K49.def_mk KX G ?a ?l ?c ?k; (case a => k_is); (case l => k_is); (case c => k_is); (case k => k_is)))
    (case D43 => (refine' K49.def_mk KX G ?a ?l ?c ?k; (case a => k_is); (case l => k_is); (case c => k_is); (case k => k_is)))
    (case D44 => (refine' K49.def_mk KX G ?a ?l ?c ?k; (case a => k_is); (case l => k_is); (case c => k_is); (case k => k_is)))
    (case D45 => (refine' K49.def_mk KX G ?a ?l ?c ?k; (case a => k_is); (case l => k_is); (case c => k_is); (case k => k_is)))
    (case D46 => (refine' K49.def_mk KX G ?a ?l ?c ?k; (case a => k_is); (case l => k_is); (case c => k_is); (case k => k_is)))
    (case D47 => (refine' K49.def_mk KX G ?a ?l ?c ?k; (case a => k_is); (case l => k_is); (case c => k_is); (case k => k_is)))
    (case D48 => (refine' K49.def_mk KX G ?a ?l ?c ?k; (case a => k_is); (case l => k_is); (case c => k_is); (case k => k_is)))
    (case D49 => (refine' K49.def_mk KX G ?a ?l ?c ?k; (case a => k_is); (case l => k_is); (case c => k_is); (case k => k_is)))
    (case D50 => (refine' K49.def_mk KX G ?a ?l ?c ?k; (case a => k_is); (case l => k_is); (case c => k_is); (case k => k_is)))
    (case D51 => (refine' K49.def_mk KX G ?a ?l ?c ?k; (case a => k_is); (case l => k_is); (case c => k_is); (case k => k_is)))
    (case D52 => (refine' K49.def_mk KX G ?a ?l ?c ?k; (case a => k_is); (case l => k_is); (case c => k_is); (case k => k_is)))
    (case DL => (refine' K49.law_mk KX G ?a ?l ?c ?k; (case a => k_is); (case l => k_is); (case c => k_is); (case k => k_is)))
    (case GC => (refine' K49.gc_mk ?a; (case a => k_is)))
    (case GB => (refine' K49.int_mk ?a; (case a => k_is)))
    (case RB => (refine' K49.int_mk ?a; (case a => k_is)))
    (case ZZ => (refine' K49.tup_mk KX G ?qP ?qR; (case qP => k_is); (case qR => k_is)))
    (case ZO => (refine' K49.tup_mk KX G ?qP ?qR; (case qP => k_is); (case qR => k_is)))
    (case TP => (refine' K49.tpe_mk KX G ?qA ?qL ?qK ?qN ?qO ?qV ?qT; (case qA => k_is); (case qL => k_is); (case qK => exact ⟨⟨_, _, rfl, rfl⟩, ⟨⟨_, _, rfl, rfl⟩, ⟨⟨_, _, rfl, rfl⟩, ⟨⟨_, _, rfl, rfl⟩, trivial⟩⟩⟩⟩); (case qN => exact ⟨⟨_, rfl⟩, ⟨⟨_, rfl⟩, ⟨⟨_, rfl⟩, ⟨⟨_, rfl⟩, trivial⟩⟩⟩⟩); (case qO => first | exact rfl | decide | with_unfolding_all rfl); (case qV => exact rfl); (case qT => (refine' (.cons (Sw.kt1 ?qU0) (.cons (Sw.kt3 ?qU1) (.cons (Sw.kt2 ?qU2) (.cons (Sw.kt3 ?qU3) .nil)))); (case qU0 => k_is); (case qU1 => k_is); (case qU2 => k_is); (case qU3 => k_is)))))
    (case Z => (refine' K49.bte_mk ?z0 ?z1 ?z2 ?z3 ?z4 ?z5 ?z6 ?z7 ?z8 ?z9 ?z10 ?z11 ?z12 ?z13 ?z14 ?z15 ?z16; (case z0 => k_is); (case z1 => k_is); (case z2 => k_is); (case z3 => k_is); (case z4 => k_is); (case z5 => k_is); (case z6 => k_is); (case z7 => k_is); (case z8 => k_is); (case z9 => k_is); (case z10 => k_is); (case z11 => k_is); (case z12 => k_is); (case z13 => k_is); (case z14 => k_is); (case z15 => k_is); (case z16 => k_is)))
