import PyProof.Rows.All
import Wide.All
import OpenK.AllK
import Wide.FinOn
import HandS.ForMost
import HandS.IsInst
import HandS.Gcd
import HandS.Wide
import HandS.WideBits
import HandS.Flow
import HandS.TupAny
import HandS.StrMore
import HandS.Conv
import HandS.RaiseMore
import HandS.ExcInit
import HandS.ExcIs
import HandS.ExcField
import HandS.ExcValue
import HandS.EndBits
import HandS.DeepEq
import HandS.Walk
import HandS.Codes
import KE.KExcIs
import HandS.Rev
import HandS.MapJoin
import HandS.Text
import PyProof.Rows.StrAscii
import PyProof.Rows.StrDigitsNeg
import PyProof.StrLawsAffix
import KE.IntTextLaws
import HandS.ReplaceLit
import HandS.Zip
import HandS.Star
import KE.GoesMore
import PyProof.EqKinds
import PyProof.FactsAll.dict
import KE.GoesZip
import HandS.Style
import PySem.Challenge.RW_soldwhole_k16_deeds_of_any_value
import HandS.NoneIn
set_option Elab.async false
set_option linter.all false
set_option maxRecDepth 100000
set_option maxHeartbeats 8000000
/-! The guarded layer: a def's promise where no repr is under way (guards = []), so that repr of data may be asked. -/
namespace Sw
open PySem PySem.Spec PyProof.Rows L2

/-- no repr is under way -/
def Gd (A : Around) : Prop := A.guards = some []
theorem Gd.deeper {A : Around} (g : Gd A) (env : Env) : Gd (A.deeper env) := by
  unfold Gd at *
  first
    | exact g
    | (simp [Around.deeper, g])
theorem Gd.make {A : Around} (g : Gd A) (C : Addr) (us : List Value) (kw : List (Str × Value)) : Gd (A.under (.builtin "type.__call__" ⟨.ref C :: us, kw⟩)) := by
  unfold Gd at *
  first
    | exact g
    | (simp [Around.under, Code.guards, Code.isGuard, guardIds, pushGuards, g])
theorem gd_caller : Gd callerA := rfl

/-- the def at f keeps the promise sp, where no repr is under way -/
structure FnG (P : Program) (w : World) (K : PySem.W.Frag) (mg : Str → Option Value) (base : Heap) (k : Nat) (f : Addr) (fd : FuncData) (ps : List Str) (sp : Sp) : Prop where
  len : ∀ vs H Q E, sp vs H Q E → vs.length = ps.length
  go : ∀ {A : Around} {outer : List Env} {s : Shared} {H : Hp} {args : Args} {us : List Value} {vs : List V} {Q : VK} {E : XK},
    Gd A → Room k A → Env0 P w K mg base A outer s H → BindsTo s fd args (ps.zip us) → Vals vs us → sp vs H Q E →
    codeAny (model P w) A (.call (.ref f) args) (CR CX0 outer P w H s Q E) s
section
variable {P : Program} {w : World} {K : PySem.W.Frag} {mg : Str → Option Value} {base : Heap}
theorem FnG.of {k : Nat} {f : Addr} {fd : FuncData} {ps : List Str} {sp : Sp} (F : FnOk P w K mg base CX0 k f fd ps sp) : FnG P w K mg base k f fd ps sp :=
  ⟨F.len, fun _ hr e0 hb hv hs => F.run _ _ _ _ _ _ _ _ _ hr e0 hb hv hs⟩
theorem FnG.mono {j k : Nat} {f : Addr} {fd : FuncData} {ps : List Str} {sp : Sp} (F : FnG P w K mg base j f fd ps sp) (h : j ≤ k) : FnG P w K mg base k f fd ps sp :=
  ⟨F.len, fun g hr => F.go g (hr.mono h)⟩
end
section
variable {X : Cx} {k : Nat} {f : Addr} {fd : FuncData} {ps : List Str} {sp : Sp} {ds : List Value} {dvs : List V} {x : Str} {e : Expr} {es : List Expr} {t : TA} {p pos : Pos}
theorem runG {pins : List (Addr × Obj)} {σ : L2.St} {H : Hp} {s : Shared} {Q : VK} {us : List Value} {vs : List V} (F : FnG X.prog X.w X.K X.mg X.base k f fd ps sp) (g : Gd X.A) (hr : Room k X.A)
    (hb : Binds X.K fd ps ds) (hd : Vals dvs ds) (I : Inv X pins σ H s) (r : Vals vs us) (h : sp (vs ++ dvs) H Q E0) : wpAny (model X.prog X.w) X.A (call (.ref f) us) (EP X pins σ Q) X.xe s := by
  have rr : Vals (vs ++ dvs) (us ++ ds) := r.append hd
  have hz : (us ++ ds).length = ps.length := rr.length.symm.trans (F.len _ _ _ _ h)
  refine wpAny_call (codeAny_mono (F.go g hr I.env0 (hb s us I.kIn hz) rr h) fun res s' z => ?_)
  match res, z with
  | .ok (.ret u), z => exact I.after z
/-- f(e, ..), f a def of the text -/
theorem peG (F : FnG X.prog X.w X.K X.mg X.base k f fd ps sp) (g : Gd X.A) (hr : Room k X.A) (hg : Gl X x) (hm : X.mg x = some (.ref f)) (hk : PySem.W.keepIn X.K (.ref f) = true) (hb : Binds X.K fd ps ds) (hd : Vals dvs ds) (ha : PA X (e :: es) t)
    (hdb : (x == ("__debug__" : Str)) = false := by decide) (he : starEach (e :: es) X.env = (false, eval e X.env) :: starEach es X.env := by rfl) (hpl : (backTo pos (starEach es X.env)).any (·.1) = false := by rfl) :
    PE X (.Call (.Name x p) (e :: es) [] pos) (tCall sp dvs E0 t) :=
  ⟨fun pins s σ H Q I h => wpAny_Call_Name_kw (ld_glob I hg hm (PySem.W.callWith_K (h₀ := X.base) I.ok.mod.kin hk
    (thn (ha.run pos pins s σ H _ I h) fun us s1 z => by obtain ⟨vs, H1, I1, r, q⟩ := z; exact ⟨I1.kIn, runG F g hr hb hd I1 r q⟩) he hpl) hdb)⟩
theorem peG0 (F : FnG X.prog X.w X.K X.mg X.base k f fd ps sp) (g : Gd X.A) (hr : Room k X.A) (hg : Gl X x) (hm : X.mg x = some (.ref f)) (hk : PySem.W.keepIn X.K (.ref f) = true) (hb : Binds X.K fd ps ds) (hd : Vals dvs ds)
    (hdb : (x == ("__debug__" : Str)) = false := by decide) : PE X (.Call (.Name x p) [] [] pos) (tCall sp dvs E0 tNil) :=
  ⟨fun pins s σ H Q I h => wpAny_Call_Name_kw (ld_glob I hg hm (PySem.W.callWith_K0 I.kIn hk (runG (us := []) F g hr hb hd I .nil h)) hdb)⟩
end
section
variable {P : Program} {w : World} {K : PySem.W.Frag} {mg : Str → Option Value} {base : Heap}
/-- a def by its body, where no repr is under way -/
theorem Fun.okG {x qual : Str} {st : Stmt} {f : Addr} {fd : FuncData} {N ps : List Str} {k : Nat} {sp : Sp} (F : Fun K x qual st f fd) (S : FnScope N ps (defScope st)) (len : ∀ vs H Q E, sp vs H Q E → vs.length = ps.length)
    (hbody : ∀ (cdv : Value) (A : Around) (outer : List Env) (s : Shared) (H : Hp) (vs : List V) (Q : VK) (E : XK), Gd (A.deeper (envOfC qual (defScope st) s.heap.objs.size f cdv)) → Room k (A.deeper (envOfC qual (defScope st) s.heap.objs.size f cdv)) → sp vs H Q E →
      ∃ t, PSs (cxOf CX0 P w K mg base N qual (defScope st) f cdv A outer s H E).nox (defBody st) t ∧ t { nx := fun _ H' => Q .non H', rt := Q } (start N vs) H) : FnG P w K mg base (k + 1) f fd ps sp := by
  obtain ⟨oc, od, kV, doc, pm, an, cdv, ct, osl, rfl, lk, hcd⟩ := F.ex
  refine ⟨len, ?_⟩
  intro A outer s H args us vs Q E g hr e0 hb r hs
  have hz := len _ _ _ _ hs
  have up : ∀ b o, base.get? b = some o → s.heap.get? b = some o := fun b o z => (e0.bs b o z).1
  refine codeAny_call_function hr.depth ((e0.mod.kin.keeps up) _ _ lk) rfl S.co S.gen rfl (PySem.W.codeRec_of (e0.mod.kin.keeps up) hcd) (hb _ _ _ _ (wpAny_newFunctionEnv_cells S.kind (fun y hy => ?_) fun env he s1 x1 => ?_))
  · rcases S.par y.1 (List.of_mem_zip (show (y.1, y.2) ∈ ps.zip us from hy)).1 with q | q
    · exact .inl q
    · exact .inr ⟨q, PySem.W.cellsFrom_some _ _ _ (.inl q)⟩
  · subst he
    obtain ⟨t, ht, hq⟩ := hbody cdv A outer s H vs Q E (g.deeper _) (hr.deeper _) hs
    refine ⟨(e0.mod.nolimit.keeps up).keeps x1.toInCall.keep, codeAny_func (wpAny_mono (ht.nox.run [] s1 (start N vs) H _ (inv_start S hr.hd e0 hz r x1) hq) ?_ fun _ _ z => z)⟩
    intro fl s' z
    match fl, z with
    | .ret u, ⟨v, σ', H', J, rv, q⟩ => exact ⟨v, H', J.os, J.bare, J.base, J.hok, rv, q⟩
    | .next, ⟨σ', H', J, q⟩ => exact ⟨.non, H', J.os, J.bare, J.base, J.hok, rfl, q⟩
    | .brk, ⟨_, _, _, q⟩ => exact q.elim
    | .cont, ⟨_, _, _, q⟩ => exact q.elim
end
/-! ### the law's own call -/
section
variable {P : Program} {w : World} {K : PySem.W.Frag} {mg mb : Str → Option Value} {k : Nat} {fa a : Addr} {fd : FuncData} {x : Str} {sp : Sp} {s₁ : Shared} {vs : List Value} {ns : List Int}
/-- the abstract heap in which the script alone is known -/
def scr (a : Addr) (ob : Obj) (ns : List Int) : Hp := fun b => if b = a then some (.frz ob (.lst (ns.map V.int))) else none
theorem scr_at {ob : Obj} : scr a ob ns a = some (.frz ob (.lst (ns.map V.int))) := if_pos rfl
theorem scr_ne {ob : Obj} {b : Addr} (h : b ≠ a) : scr a ob ns b = none := if_neg h
theorem lawFrom (H : Hp) (hO : Only H) (KX : K.In s₁.heap) (hns : s₁.heap.Ns mainGlobals mg) (hb : s₁.heap.Ns builtinsNs mb) (hbb : ∀ y : Str, y ≠ "__name__" → mb y = bootBuiltins y) (hlim : s₁.heap.NoLimit) (hg : s₁.gens = #[])
    (ok : HOk P w H s₁.heap) (nk : ∀ b o, K.lookup b = some o → H b = none) (nd : ∀ b o es ep, s₁.heap.get? b = some o → o.data = .dict es ep → H b = none) (hr : Room k callerA)
    (F : ∀ base : Heap, K.In base → base.Ns mainGlobals mg → FnG P w K mg base k fa fd [x] sp) (hbind : ∀ (s : Shared) (u : Value), BindsTo s fd ⟨[u], []⟩ [(x, u)])
    (hs : sp [.ref a] H (fun v _ => v = .bl true) fun _ _ _ => False) :
    codeAny (model P w) callerA (.call (.ref fa) ⟨[.ref a], []⟩) (fun r s' => r = .ok (.ret (.bool true)) ∧ OldK s₁.heap s'.heap ∧ s'.os = s₁.os ∧ AllBare s'.gens) s₁ := by
  have kIn : K.In (hidT s₁.heap H) := fun b o z => hidT_get (KX b o z) (nk b o z)
  have nsIn : ∀ {b : Addr} {m : Str → Option Value}, s₁.heap.Ns b m → (hidT s₁.heap H).Ns b m := fun {b m} z => by
    obtain ⟨o, es, ep, z1, z2, z3⟩ := z
    exact ⟨o, es, ep, hidT_get z1 (nd b o es ep z1 z2), z2, z3⟩
  have lim : (hidT s₁.heap H).NoLimit := by
    obtain ⟨mc, z1, z2⟩ := hlim
    exact ⟨mc, nsIn z1, z2⟩
  have e0 : Env0 P w K mg (hidT s₁.heap H) callerA [] s₁ H :=
    { frames := rfl, mod := ⟨kIn, nsIn hns, ⟨mb, nsIn hb, hbb⟩, lim⟩, bs := fun _ _ z => of_hidT z, bsz := Nat.le_of_eq (hidT_size _ _), funs := trivial, frf := (fun b z => nomatch z), hok := ok, bare := .of_eq hg }
  refine codeAny_mono ((F _ kIn (nsIn hns)).go (us := [.ref a]) (vs := [.ref a]) gd_caller hr e0 (hbind s₁ (.ref a)) (.cons rfl .nil) hs) fun r s' z => ?_
  match r, z with
  | .ok (.ret u), z =>
    obtain ⟨v, H', zo, zb, un, ok', rv, q⟩ := z
    have q : v = .bl true := q
    subst q
    have eu : u = Value.bool true := rv
    subst eu
    refine ⟨rfl, .of_keep fun b o e => ?_, zo, zb⟩
    rcases hO b with n | ⟨ob, xs, n⟩
    · exact un.keep b o e n (fun z => nomatch z) (fun z => nomatch z)
    · have e1 := (ok b _ n).1
      have e2 := (ok' b _ (un.frzs b ob _ n)).1
      have e3 : o = ob := Option.some.inj (e.symm.trans e1)
      rw [e3]
      exact e2
theorem lawG (KX : K.In s₁.heap) (hns : s₁.heap.Ns mainGlobals mg) (hb : s₁.heap.Ns builtinsNs mb) (hbb : ∀ y : Str, y ≠ "__name__" → mb y = bootBuiltins y) (hlim : s₁.heap.NoLimit) (hg : s₁.gens = #[])
    (ha : s₁.heap.get? a = some { cls := .type "list", data := .seq vs.toArray }) (hi : IntsAre vs ns) (hl : ns.length ≤ sizeLine) (hr : Room k callerA)
    (F : ∀ base : Heap, K.In base → base.Ns mainGlobals mg → FnG P w K mg base k fa fd [x] sp) (hbind : ∀ (s : Shared) (u : Value), BindsTo s fd ⟨[u], []⟩ [(x, u)])
    (hsp : ∀ H : Hp, Only H → SqL K H a (ns.map V.int) → sp [.ref a] H (fun v _ => v = .bl true) fun _ _ _ => False) :
    codeAny (model P w) callerA (.call (.ref fa) ⟨[.ref a], []⟩) (fun r s' => r = .ok (.ret (.bool true)) ∧ OldK s₁.heap s'.heap ∧ s'.os = s₁.os ∧ AllBare s'.gens) s₁ := by
  have rv := vals_ints hi
  have hln := hi.length
  rcases hk : K.lookup a with _ | o
  · refine lawFrom (scr a { cls := .type "list", data := .seq vs.toArray } ns) ?_ KX hns hb hbb hlim hg ?_ ?_ ?_ hr F hbind (hsp _ ?_ (.inl (.inr ⟨_, scr_at⟩)))
    rotate_left
    · intro b u z
      by_cases e : b = a
      · rw [e, scr_at] at z
        cases z
        rw [e]
        exact ⟨ha, by rw [List.length_map]; exact hl, vs, _, rv, ha⟩
      · rw [scr_ne e] at z
        cases z
    · intro b o z
      refine scr_ne fun e => ?_
      rw [e, hk] at z
      cases z
    · intro b o es ep z1 z2
      refine scr_ne fun e => ?_
      rw [e, ha] at z1
      cases z1
      cases z2
    all_goals
      intro b
      by_cases e : b = a
      · exact .inr ⟨_, _, by rw [e]; exact scr_at⟩
      · exact .inl (scr_ne e)
  · have z := KX a o hk
    rw [ha] at z
    cases z
    exact lawFrom (fun _ => none) (fun _ => .inl rfl) KX hns hb hbb hlim hg (fun _ _ z => nomatch z) (fun _ _ _ => rfl) (fun _ _ _ _ _ _ => rfl) hr F hbind
      (hsp _ (fun _ => .inl rfl) (.inr ⟨_, vs.toArray, _, hk, rfl, rfl, rfl, by rw [List.size_toArray, hln]; exact hl, by simpa using rv⟩))
end
theorem walkG {l : PySem.W.OpenLaw} {n k : Nat} {q : Program} {loose : List Str} {XP : (Str → Option Value) → Heap → Prop} {YP : World → Heap → Prop} {d : DefRec} {K : Params → PySem.W.Frag} {sp : World → Sp} {x : Str}
    (hn : l.most = some n) (hn2 : n ≤ sizeLine) (hdf : d.params.defaults = []) (hr : Room k callerA) (hY : ∀ (w : World) (h : Heap), YP w h → (K w.params).In h)
    (F : ∀ (w : World) (mg : Str → Option Value) (fa : Addr) (h : Heap), (K w.params).In h → h.Ns mainGlobals mg → mg d.name = some (.ref fa) →
      ∃ fd : FuncData, (∀ (s : Shared) (u : Value), BindsTo s fd ⟨[u], []⟩ [(x, u)]) ∧
        ∀ base : Heap, (K w.params).In base → base.Ns mainGlobals mg → FnG l.prog w (K w.params) mg base k fa fd [x] (sp w))
    (hsp : ∀ (w : World) (H : Hp) (a : Addr) (ns : List Int), ns.length ≤ n → (∀ z ∈ ns, Builtin.Int.intBits z ≤ 1048576) → Only H → SqL (K w.params) H a (ns.map V.int) → sp w [.ref a] H (fun v _ => v = .bl true) fun _ _ _ => False) :
    PySem.W.WalkO q loose XP YP l.row.toRowW d [] (fun f vs => PySem.call f vs) :=
  Att.attach_callB hn hdf fun w s₀ s₁ mg mb fa o pm cd doc a vs ns G Y ho hd hcd hmg hobj hints hlen hbits hg => by
    obtain ⟨fd, hb, hF⟩ := F w mg fa _ (hY w _ Y) G.T.g hmg
    exact lawG (hY w _ Y) G.T.g G.T.b G.T.builtins G.T.nolimit hg hobj hints (Nat.le_trans hlen hn2) hr hF hb fun H hO hS => hsp w H a ns hlen hbits hO hS
end Sw
/-! Data as a whole over the abstract heap (Dt), what stays (Fut), == and repr of data. -/
namespace Sw
open PySem PySem.Spec PyProof.Rows L2

/-- a tuple of the written part -/
def KTup (K : PySem.W.Frag) (a : Addr) (xs : List V) : Prop :=
  ∃ (o : Obj) (its : Array Value) (n : Nat), K.lookup a = some o ∧ o.cls = .type "tuple" ∧ o.data = .seq its n ∧ its.size ≤ sizeLine ∧ Vals xs its.toList
def keyD : Key → PyData
  | .inl i => .int i
  | .inr x => .str x
mutual
/-- v is the datum d; mu: the lists and dicts that are about to change (none of them is part of d) -/
inductive Dt (K : PySem.W.Frag) (mu : Addr → Prop) (H : Hp) : V → PyData → Prop
  | non : Dt K mu H .non .none
  | bl (b : Bool) : Dt K mu H (.bl b) (.bool b)
  | int (i : Int) : Dt K mu H (.int i) (.int i)
  | str (x : Str) : Dt K mu H (.str x) (.str x)
  | lst {a : Addr} {xs : List V} {ds : List PyData} : ¬ mu a → Rd H a (.lst xs) → DtA K mu H xs ds → Dt K mu H (.ref a) (.list ds)
  | tup {a : Addr} {xs : List V} {ds : List PyData} : Rd H a (.tup xs) → DtA K mu H xs ds → Dt K mu H (.ref a) (.tuple ds)
  | tupK {a : Addr} {xs : List V} {ds : List PyData} : KTup K a xs → DtA K mu H xs ds → Dt K mu H (.ref a) (.tuple ds)
  | dct {a : Addr} {kvs : List (Key × V)} {ds : List (PyData × PyData)} : ¬ mu a → Rd H a (.dK kvs) → DtK K mu H kvs ds → Dt K mu H (.ref a) (.dict ds)
inductive DtA (K : PySem.W.Frag) (mu : Addr → Prop) (H : Hp) : List V → List PyData → Prop
  | nil : DtA K mu H [] []
  | cons {v : V} {vs : List V} {d : PyData} {ds : List PyData} : Dt K mu H v d → DtA K mu H vs ds → DtA K mu H (v :: vs) (d :: ds)
inductive DtK (K : PySem.W.Frag) (mu : Addr → Prop) (H : Hp) : List (Key × V) → List (PyData × PyData) → Prop
  | nil : DtK K mu H [] []
  | cons {k : Key} {v : V} {kvs : List (Key × V)} {d : PyData} {ds : List (PyData × PyData)} : Dt K mu H v d → DtK K mu H kvs ds → DtK K mu H ((k, v) :: kvs) ((keyD k, d) :: ds)
end

/-- what is not about to change stays, and tuples do -/
def Fut (mu : Addr → Prop) (H H' : Hp) : Prop := ∀ a o, H a = some o → (¬ mu a ∨ (∃ xs, o = .tup xs) ∨ ∃ ob u, o = .frz ob u) → H' a = some o
theorem Fut.refl {mu : Addr → Prop} (H : Hp) : Fut mu H H := fun _ _ e _ => e
theorem Fut.trans {mu : Addr → Prop} {H H1 H2 : Hp} (a : Fut mu H H1) (b : Fut mu H1 H2) : Fut mu H H2 := fun x o e h => b x o (a x o e h) h
theorem Fut.of_same {mu : Addr → Prop} {H H' : Hp} (s : Same H H') : Fut mu H H' := fun a o e _ => s a o e
theorem Fut.mono {mu mv : Addr → Prop} {H H' : Hp} (f : Fut mu H H') (h : ∀ a, mu a → mv a) : Fut mv H H' := fun a o e z => f a o e (z.imp (fun n m => n (h a m)) id)
theorem Fut.rd {mu : Addr → Prop} {H H' : Hp} (f : Fut mu H H') {a : Addr} {o : HO} (hm : ¬ mu a) (r : Rd H a o) : Rd H' a o := by
  rcases r with r | ⟨ob, r⟩
  · exact .inl (f a _ r (.inl hm))
  · exact .inr ⟨ob, f a _ r (.inl hm)⟩
theorem Fut.rdT {mu : Addr → Prop} {H H' : Hp} (f : Fut mu H H') {a : Addr} {xs : List V} (r : Rd H a (.tup xs)) : Rd H' a (.tup xs) := by
  rcases r with r | ⟨ob, r⟩
  · exact .inl (f a _ r (.inr (.inl ⟨xs, rfl⟩)))
  · exact .inr ⟨ob, f a _ r (.inr (.inr ⟨ob, _, rfl⟩))⟩
section
variable {K : PySem.W.Frag} {mu mv : Addr → Prop} {H H' : Hp}
mutual
theorem Dt.fut (f : Fut mu H H') : ∀ {v : V} {d : PyData}, Dt K mu H v d → Dt K mu H' v d
  | _, _, .non => .non
  | _, _, .bl b => .bl b
  | _, _, .int i => .int i
  | _, _, .str x => .str x
  | _, _, .lst n r h => .lst n (f.rd n r) (DtA.fut f h)
  | _, _, .tup r h => .tup (f.rdT r) (DtA.fut f h)
  | _, _, .tupK r h => .tupK r (DtA.fut f h)
  | _, _, .dct n r h => .dct n (f.rd n r) (DtK.fut f h)
theorem DtA.fut (f : Fut mu H H') : ∀ {vs : List V} {ds : List PyData}, DtA K mu H vs ds → DtA K mu H' vs ds
  | _, _, .nil => .nil
  | _, _, .cons h t => .cons (Dt.fut f h) (DtA.fut f t)
theorem DtK.fut (f : Fut mu H H') : ∀ {vs : List (Key × V)} {ds : List (PyData × PyData)}, DtK K mu H vs ds → DtK K mu H' vs ds
  | _, _, .nil => .nil
  | _, _, .cons h t => .cons (Dt.fut f h) (DtK.fut f t)
end
mutual
/-- fewer that change -/
theorem Dt.less (f : ∀ a, mv a → mu a) : ∀ {v : V} {d : PyData}, Dt K mu H v d → Dt K mv H v d
  | _, _, .non => .non
  | _, _, .bl b => .bl b
  | _, _, .int i => .int i
  | _, _, .str x => .str x
  | _, _, .lst n r h => .lst (fun z => n (f _ z)) r (DtA.less f h)
  | _, _, .tup r h => .tup r (DtA.less f h)
  | _, _, .tupK r h => .tupK r (DtA.less f h)
  | _, _, .dct n r h => .dct (fun z => n (f _ z)) r (DtK.less f h)
theorem DtA.less (f : ∀ a, mv a → mu a) : ∀ {vs : List V} {ds : List PyData}, DtA K mu H vs ds → DtA K mv H vs ds
  | _, _, .nil => .nil
  | _, _, .cons h t => .cons (Dt.less f h) (DtA.less f t)
theorem DtK.less (f : ∀ a, mv a → mu a) : ∀ {vs : List (Key × V)} {ds : List (PyData × PyData)}, DtK K mu H vs ds → DtK K mv H vs ds
  | _, _, .nil => .nil
  | _, _, .cons h t => .cons (Dt.less f h) (DtK.less f t)
end
mutual
/-- one more that changes, not tracked as yet -/
theorem Dt.more {l : Addr} (n : H l = Option.none) : ∀ {v : V} {d : PyData}, Dt K mu H v d → Dt K (fun a => mu a ∨ a = l) H v d
  | _, _, .non => .non
  | _, _, .bl b => .bl b
  | _, _, .int i => .int i
  | _, _, .str x => .str x
  | _, _, .lst m r h => .lst (fun z => z.elim m fun e => by
      rw [e] at r
      rcases r with r | ⟨_, r⟩ <;> (rw [n] at r; cases r)) r (DtA.more n h)
  | _, _, .tup r h => .tup r (DtA.more n h)
  | _, _, .tupK r h => .tupK r (DtA.more n h)
  | _, _, .dct m r h => .dct (fun z => z.elim m fun e => by
      rw [e] at r
      rcases r with r | ⟨_, r⟩ <;> (rw [n] at r; cases r)) r (DtK.more n h)
theorem DtA.more {l : Addr} (n : H l = Option.none) : ∀ {vs : List V} {ds : List PyData}, DtA K mu H vs ds → DtA K (fun a => mu a ∨ a = l) H vs ds
  | _, _, .nil => .nil
  | _, _, .cons h t => .cons (Dt.more n h) (DtA.more n t)
theorem DtK.more {l : Addr} (n : H l = Option.none) : ∀ {vs : List (Key × V)} {ds : List (PyData × PyData)}, DtK K mu H vs ds → DtK K (fun a => mu a ∨ a = l) H vs ds
  | _, _, .nil => .nil
  | _, _, .cons h t => .cons (Dt.more n h) (DtK.more n t)
end
theorem DtA.length : ∀ {vs : List V} {ds : List PyData}, DtA K mu H vs ds → vs.length = ds.length
  | _, _, .nil => rfl
  | _, _, .cons _ t => by rw [List.length_cons, List.length_cons, DtA.length t]
theorem DtA.get : ∀ {vs : List V} {ds : List PyData} {i : Nat} {v : V}, DtA K mu H vs ds → vs[i]? = some v → ∃ d, ds[i]? = some d ∧ Dt K mu H v d
  | _, _, _, _, .nil, e => by simp at e
  | _, _, 0, _, .cons h _, e => by
    simp at e
    subst e
    exact ⟨_, rfl, h⟩
  | _, _, i + 1, v, .cons _ t, e => by
    obtain ⟨d, h1, h2⟩ := DtA.get (i := i) (v := v) t (by simpa using e)
    exact ⟨d, by simpa using h1, h2⟩
theorem DtA.getD : ∀ {vs : List V} {ds : List PyData} {i : Nat} {d : PyData}, DtA K mu H vs ds → ds[i]? = some d → ∃ v, vs[i]? = some v ∧ Dt K mu H v d
  | _, _, _, _, .nil, e => by simp at e
  | _, _, 0, _, .cons h _, e => by
    simp at e
    subst e
    exact ⟨_, rfl, h⟩
  | _, _, i + 1, v, .cons _ t, e => by
    obtain ⟨d, h1, h2⟩ := DtA.getD (i := i) (d := v) t (by simpa using e)
    exact ⟨d, by simpa using h1, h2⟩
theorem DtA.append : ∀ {vs ws : List V} {ds es : List PyData}, DtA K mu H vs ds → DtA K mu H ws es → DtA K mu H (vs ++ ws) (ds ++ es)
  | _, _, _, _, .nil, s => s
  | _, _, _, _, .cons h t, s => .cons h (DtA.append t s)
theorem DtA.drop : ∀ {vs : List V} {ds : List PyData} (n : Nat), DtA K mu H vs ds → DtA K mu H (vs.drop n) (ds.drop n)
  | _, _, 0, r => r
  | _, _, _ + 1, .nil => .nil
  | _, _, n + 1, .cons _ t => DtA.drop n t
theorem DtA.take : ∀ {vs : List V} {ds : List PyData} (n : Nat), DtA K mu H vs ds → DtA K mu H (vs.take n) (ds.take n)
  | _, _, 0, _ => .nil
  | _, _, _ + 1, .nil => .nil
  | _, _, n + 1, .cons h t => .cons h (DtA.take n t)
theorem DtA.one {vs : List V} {ds : List PyData} (h : DtA K mu H vs ds) (e : ds.length = 1) : ∃ x d, vs = [x] ∧ ds = [d] ∧ Dt K mu H x d := by
  cases h with
  | nil => simp at e
  | cons r1 t =>
    cases t with
    | nil => exact ⟨_, _, rfl, rfl, r1⟩
    | cons _ _ => simp at e
theorem DtA.two {vs : List V} {ds : List PyData} (h : DtA K mu H vs ds) (e : ds.length = 2) : ∃ x y d f, vs = [x, y] ∧ ds = [d, f] ∧ Dt K mu H x d ∧ Dt K mu H y f := by
  cases h with
  | nil => simp at e
  | cons r1 t =>
    obtain ⟨y, f, rfl, rfl, r2⟩ := t.one (by simpa using e)
    exact ⟨_, _, _, _, rfl, rfl, r1, r2⟩
theorem DtA.three {vs : List V} {ds : List PyData} (h : DtA K mu H vs ds) (e : ds.length = 3) : ∃ x y z d f g, vs = [x, y, z] ∧ ds = [d, f, g] ∧ Dt K mu H x d ∧ Dt K mu H y f ∧ Dt K mu H z g := by
  cases h with
  | nil => simp at e
  | cons r1 t =>
    obtain ⟨y, z, f, g, rfl, rfl, r2, r3⟩ := t.two (by simpa using e)
    exact ⟨_, _, _, _, _, _, rfl, rfl, r1, r2, r3⟩
theorem DtA.ints : ∀ (ns : List Int), DtA K mu H (ns.map V.int) (ns.map PyData.int)
  | [] => .nil
  | n :: ns => .cons (.int n) (DtA.ints ns)
theorem DtA.strs : ∀ (ns : List Str), DtA K mu H (ns.map V.str) (ns.map PyData.str)
  | [] => .nil
  | n :: ns => .cons (.str n) (DtA.strs ns)
theorem _root_.L2.Same.seqT {H1 H2 : Hp} (e : Same H1 H2) {a : Addr} {xs : List V} (h : SqT K H1 a xs) : SqT K H2 a xs := by
  rcases h with (h | ⟨o, h⟩) | h
  · exact .inl (.inl (e _ _ h))
  · exact .inl (.inr ⟨o, e _ _ h⟩)
  · exact .inr h
theorem DtA.bls : ∀ (bs : List Bool), DtA K mu H (bs.map V.bl) (bs.map PyData.bool)
  | [] => .nil
  | n :: ns => .cons (.bl n) (DtA.bls ns)
end

/-! ### what the library reads -/
theorem nmem_app {p : Addr → Prop} {as bs : List Addr} (ha : ∀ a ∈ as, ¬ p a) (hb : ∀ a ∈ bs, ¬ p a) : ∀ a ∈ as ++ bs, ¬ p a := fun a h => (List.mem_append.mp h).elim (ha a) (hb a)
theorem nmem_cons {p : Addr → Prop} {b : Addr} {as : List Addr} (hb : ¬ p b) (ha : ∀ a ∈ as, ¬ p a) : ∀ a ∈ b :: as, ¬ p a := fun a h => (List.mem_cons.mp h).elim (fun e => by rw [e]; exact hb) (ha a)
section
variable {X : Cx} {pins : List (Addr × Obj)} {σ : L2.St} {H : Hp} {s : Shared} {mu : Addr → Prop}
theorem Rd.sqL {K : PySem.W.Frag} {a : Addr} {xs : List V} (r : Rd H a (.lst xs)) : SqL K H a xs := .inl r
theorem Rd.sqT {K : PySem.W.Frag} {a : Addr} {xs : List V} (r : Rd H a (.tup xs)) : SqT K H a xs := .inl r
theorem KTup.sqT {K : PySem.W.Frag} {a : Addr} {xs : List V} (r : KTup K a xs) : SqT K H a xs := .inr r
mutual
theorem Dt.reads (I : Inv X pins σ H s) : ∀ (d : PyData) (v : V) (u : Value), Dt X.K mu H v d → RelV v u → ∃ as, Reads s.heap u d as ∧ ∀ a ∈ as, ¬ mu a
  | .none, _, _, h, r => by
    cases h
    cases r
    exact ⟨_, Reads.none, fun _ z => nomatch z⟩
  | .bool b, _, _, h, r => by
    cases h
    cases r
    exact ⟨_, Reads.bool b, fun _ z => nomatch z⟩
  | .int i, _, _, h, r => by
    cases h
    obtain ⟨t, rfl⟩ := r
    exact ⟨_, Reads.int i t, fun _ z => nomatch z⟩
  | .str x, _, _, h, r => by
    cases h
    obtain ⟨t, rfl⟩ := r
    exact ⟨_, Reads.str x t, fun _ z => nomatch z⟩
  | .list ds, _, _, h, r => by
    cases h with
    | lst n rd ha =>
      cases r
      obtain ⟨its, rv, ⟨o, m, ho, hc, _, hd⟩, _⟩ := I.list (Rd.sqL rd)
      obtain ⟨as, hr, hn⟩ := DtA.reads I ds _ its ha rv
      exact ⟨_, Reads.list ho hc hd hr, nmem_cons n hn⟩
  | .tuple ds, _, _, h, r => by
    have key : ∀ {a : Addr} {xs : List V} {u : Value}, SqT X.K H a xs → DtA X.K mu H xs ds → RelV (.ref a) u → ∃ as, Reads s.heap u (.tuple ds) as ∧ ∀ a ∈ as, ¬ mu a := fun {a xs u} hs ha r => by
      cases r
      obtain ⟨its, rv, ⟨o, ho, hc, n, hd⟩, _⟩ := I.tuple hs
      obtain ⟨as, hr, hn⟩ := DtA.reads I ds _ its ha rv
      exact ⟨_, Reads.tuple ho hc hd hr, hn⟩
    cases h with
    | tup rd ha => exact key (Rd.sqT rd) ha r
    | tupK rd ha => exact key (KTup.sqT rd) ha r
  | .dict ds, _, _, h, r => by
    cases h with
    | @dct a kvs _ n rd ha =>
      cases r
      have z : ObjOk X.prog X.w H s.heap a (.dK kvs) := rd.ok I.hok
      obtain ⟨_, _, vs, rel, o, es, ep, ho, hx, hd, _, hp, _⟩ := z
      obtain ⟨as, bs, h1, h2, m1, m2⟩ := DtK.reads I ds kvs vs es.toList ha rel hp
      exact ⟨_, Reads.dict ho hx.1 hd h1 h2, nmem_cons n (nmem_app m1 m2)⟩
theorem DtA.reads (I : Inv X pins σ H s) : ∀ (ds : List PyData) (vs : List V) (us : List Value), DtA X.K mu H vs ds → Vals vs us → ∃ as, ReadsAll s.heap us ds as ∧ ∀ a ∈ as, ¬ mu a
  | [], _, _, h, r => by
    cases h
    cases r
    exact ⟨_, ReadsAll.nil, fun _ z => nomatch z⟩
  | d :: ds, _, _, h, r => by
    cases h with
    | cons h1 h2 =>
      cases r with
      | cons r1 r2 =>
        obtain ⟨as, q1, m1⟩ := Dt.reads I d _ _ h1 r1
        obtain ⟨bs, q2, m2⟩ := DtA.reads I ds _ _ h2 r2
        exact ⟨_, ReadsAll.cons q1 q2, nmem_app m1 m2⟩
theorem DtK.reads (I : Inv X pins σ H s) : ∀ (ds : List (PyData × PyData)) (kvs : List (Key × V)) (vs : List (Key × Value)) (es : List DictEntry), DtK X.K mu H kvs ds → KV kvs vs → Pairs (mixKind X.prog X.w) es vs →
    ∃ as bs, ReadsAll s.heap (es.map (·.key)) (ds.map (·.1)) as ∧ ReadsAll s.heap (es.map (·.val)) (ds.map (·.2)) bs ∧ (∀ a ∈ as, ¬ mu a) ∧ ∀ a ∈ bs, ¬ mu a
  | [], _, _, _, h, r, p => by
    cases h
    cases r
    cases p
    exact ⟨_, _, ReadsAll.nil, ReadsAll.nil, (fun _ z => nomatch z), (fun _ z => nomatch z)⟩
  | (dk, d) :: ds, _, _, _, h, r, p => by
    cases h with
    | @cons k v kvs _ _ h1 h2 =>
      cases r with
      | @cons _ q _ vs r1 r2 =>
        cases p with
        | @cons e _ es _ p1 p2 p3 =>
          obtain ⟨as, q1, m1⟩ := Dt.reads I d _ q.2 h1 r1.2
          obtain ⟨cs, bs, q2, q3, m2, m3⟩ := DtK.reads I ds _ _ _ h2 r2 p3
          have ek : keyIs k e.key = true := by
            have z : keyIs q.1 e.key = true := p1
            rw [← r1.1] at z
            exact z
          have q4 : ∃ as, Reads s.heap e.key (keyD k) as ∧ ∀ a ∈ as, ¬ mu a := by
            rcases keyIs_shape ek with ⟨i, t, z1, z2⟩ | ⟨x, t, z1, z2⟩
            · rw [z1, z2]
              exact ⟨_, Reads.int i t, fun _ z => nomatch z⟩
            · rw [z1, z2]
              exact ⟨_, Reads.str x t, fun _ z => nomatch z⟩
          obtain ⟨a0, q4, m4⟩ := q4
          refine ⟨_, _, ReadsAll.cons q4 q2, ReadsAll.cons (as := as) (by show Reads s.heap e.val d as; rw [p2]; exact q1) q3, nmem_app m4 m2, nmem_app m1 m3⟩
end
end
/-! ### == and repr of data -/
section
variable {X : Cx}
def rEqW (K : PySem.W.Frag) : R2 := fun x y H Q => ∃ mu d e, Dt K mu H x d ∧ Dt K mu H y e ∧ SeqAt.shaped d = true ∧ SeqAt.shaped e = true ∧ Q (.bl (PyData.eqv d e)) H
def rNeW (K : PySem.W.Frag) : R2 := fun x y H Q => ∃ mu d e, Dt K mu H x d ∧ Dt K mu H y e ∧ SeqAt.shaped d = true ∧ SeqAt.shaped e = true ∧ Q (.bl (!PyData.eqv d e)) H
theorem op_eqW (hu : X.A.units + 64 < cLine) : OpR X (compareOp .Eq) (rEqW X.K) := by
  intro pins s σ H x y v u Q I rx ry h
  obtain ⟨mu, d, e, hd, he, sd, se, q⟩ := h
  obtain ⟨as, r1, _⟩ := Dt.reads I d x v hd rx
  obtain ⟨bs, r2, _⟩ := Dt.reads I e y u he ry
  exact SeqAt.compareEq_shaped r1 r2 sd se hu ⟨.bl _, H, I, rfl, q⟩
theorem op_neW (hu : X.A.units + 64 < cLine) : OpR X (compareOp .NotEq) (rNeW X.K) := by
  intro pins s σ H x y v u Q I rx ry h
  obtain ⟨mu, d, e, hd, he, sd, se, q⟩ := h
  obtain ⟨as, r1, _⟩ := Dt.reads I d x v hd rx
  obtain ⟨bs, r2, _⟩ := Dt.reads I e y u he ry
  exact SeqAt.compareNe_shaped r1 r2 sd se hu ⟨.bl _, H, I, rfl, q⟩
/-- == of data, or of one thing with itself -/
def rEqA (K : PySem.W.Frag) : R2 := fun x y H Q => rEqW K x y H Q ∨ (rEqV K x y H Q ∨ rEq x y H Q)
theorem op_eqA (hu : X.A.units + 64 < cLine) : OpR X (compareOp .Eq) (rEqA X.K) := OpR.or (op_eqW hu) (OpR.or (op_eqV hu) op_eq)
def rRepr (K : PySem.W.Frag) : List V → Hp → VK → Prop := fun xs H Q => ∃ (x : V) (mu : Addr → Prop) (d : PyData), xs = [x] ∧ Dt K mu H x d ∧ d.showable = true ∧ (d.hasDict = false ∨ mu sysModules) ∧ d.depth ≤ 60 ∧ d.shown.length ≤ sizeLine ∧ Q (.str d.shown) H
theorem call_repr (hg : Gd X.A) (hu : X.A.units + 64 < cLine) : CallR X (.builtin "repr") (rRepr X.K) := by
  intro pins s σ H xs us Q I r h
  obtain ⟨x, mu, d, rfl, hd, hs, hm, hdp, hl, q⟩ := h
  cases r with
  | @cons _ u _ _ r1 r2 =>
    cases r2
    have fin : ∀ {t : Tok} {tk : Nat}, EP X pins σ Q (.str d.shown t) { s with toks := tk } := fun {t tk} => ⟨.str _, H, I.tok tk, ⟨t, rfl⟩, q⟩
    cases d with
    | none =>
      cases hd
      cases r1
      exact P.repr_of_none fin
    | bool b =>
      cases hd
      cases r1
      exact P.repr_of_bool fin
    | int i =>
      cases hd
      obtain ⟨t, rfl⟩ := r1
      exact P.repr_of_int (of_decide_eq_true hs) fin
    | str y =>
      cases hd
      obtain ⟨t, rfl⟩ := r1
      exact P.repr_of_str fin hl
    | _ =>
      obtain ⟨as, hr, hn⟩ := Dt.reads I _ x u hd r1
      have hu' : ∃ a, u = .ref a := by
        cases hd <;> exact ⟨_, r1⟩
      obtain ⟨a, rfl⟩ := hu'
      exact repr_of_reads' hr hs (fun hz => hm.elim (fun z => by rw [z] at hz; cases hz) fun z y => hn _ y z) hg (by omega) (fun _ _ e => e) (fun h' t tk hk => ⟨.str _, H, (I.kept (h' := h') (t' := tk) hk), ⟨t, rfl⟩, q⟩) hl
end
end Sw
/-! Calls of defs by what they promise; isinstance, len, items of data; the built-ins' names. -/
namespace Sw
open PySem PySem.Spec PyProof.Rows L2

/-- the module's name x is a def that keeps sp -/
structure CalG (P : Program) (w : World) (K : PySem.W.Frag) (mg : Str → Option Value) (base : Heap) (k : Nat) (x : Str) (sp : Sp) : Prop where
  ex : ∃ (f : Addr) (fd : FuncData) (ps : List Str), FnG P w K mg base k f fd ps sp ∧ mg x = some (.ref f) ∧ PySem.W.keepIn K (.ref f) = true ∧ Binds K fd ps []
section
variable {X : Cx} {k j : Nat} {sp : Sp} {x : Str} {e : Expr} {es : List Expr} {t : TA} {p pos : Pos}
theorem pc (c : CalG X.prog X.w X.K X.mg X.base k x sp) (g : Gd X.A) (hr : Room j X.A) (hk : k ≤ j) (hg : Gl X x) (ha : PA X (e :: es) t)
    (hdb : (x == ("__debug__" : Str)) = false := by decide) (he : starEach (e :: es) X.env = (false, eval e X.env) :: starEach es X.env := by rfl) (hpl : (backTo pos (starEach es X.env)).any (·.1) = false := by rfl) :
    PE X (.Call (.Name x p) (e :: es) [] pos) (tCall sp [] E0 t) := by
  obtain ⟨f, fd, ps, F, hm, kp, b⟩ := c.ex
  exact peG F g (hr.mono hk) hg hm kp b .nil ha hdb he hpl
theorem pc0 (c : CalG X.prog X.w X.K X.mg X.base k x sp) (g : Gd X.A) (hr : Room j X.A) (hk : k ≤ j) (hg : Gl X x) (hdb : (x == ("__debug__" : Str)) = false := by decide) :
    PE X (.Call (.Name x p) [] [] pos) (tCall sp [] E0 tNil) := by
  obtain ⟨f, fd, ps, F, hm, kp, b⟩ := c.ex
  exact peG0 F g (hr.mono hk) hg hm kp b .nil hdb
end
theorem Room.u64 {k : Nat} {A : Around} (r : Room k A) : A.units + 64 < cLine := by
  have := r.un
  omega

/-! ### isinstance of data -/
def tyName : PyData → String
  | .none => "NoneType" | .bool _ => "bool" | .int _ => "int" | .str _ => "str" | .list _ => "list" | .tuple _ => "tuple" | .dict _ => "dict"
def isT (T : String) (d : PyData) : Bool := tyName d == T || (tyName d == "bool" && T == "int")
section
variable {K : PySem.W.Frag} {mu : Addr → Prop} {H : Hp}
theorem Dt.tyx {v : V} {d : PyData} (h : Dt K mu H v d) : TyX K H v (.type (tyName d)) := by
  cases h with
  | non => exact .base .non
  | bl b => exact .base (.bl b)
  | int i => exact .base (.int i)
  | str x => exact .base (.str x)
  | lst n r _ =>
    rcases r with r | ⟨o, r⟩
    · exact .base (.lst r)
    · exact .base (.frz r)
  | tup r _ =>
    rcases r with r | ⟨o, r⟩
    · exact .base (.tup r)
    · exact .fTuple r
  | tupK r _ =>
    obtain ⟨o, its, n, h1, h2, _⟩ := r
    exact .kTuple h1 h2
  | dct n r _ =>
    rcases r with r | ⟨o, r⟩
    · exact .base (.dK r)
    · exact .fDict r
end
def tyAsk (T : String) : Bool := ["int", "bool", "str", "list", "tuple", "dict"].contains T
theorem kit_tab : ∀ T ∈ ["int", "bool", "str", "list", "tuple", "dict"], ∀ S ∈ ["NoneType", "bool", "int", "str", "list", "tuple", "dict"], kitB S T = some (S == T || (S == "bool" && T == "int")) := by decide +kernel
theorem tyName_mem (d : PyData) : tyName d ∈ ["NoneType", "bool", "int", "str", "list", "tuple", "dict"] := by
  cases d <;> simp [tyName]
def rIsD (K : PySem.W.Frag) : List V → Hp → VK → Prop := fun xs H Q => ∃ (x : V) (T : String) (mu : Addr → Prop) (d : PyData), xs = [x, .ty T] ∧ T ∈ ["int", "bool", "str", "list", "tuple", "dict"] ∧ Dt K mu H x d ∧ Q (.bl (isT T d)) H
section
variable {X : Cx}
theorem call_isD : CallR X (.builtin "isinstance") (rIsD X.K) := by
  intro pins s σ H xs us Q I r h
  obtain ⟨x, T, mu, d, rfl, hT, hd, q⟩ := h
  exact call_isi pins s σ H _ us Q I r ⟨x, .ty T, _, .type T, _, rfl, .ty T, hd.tyx, kit_ty (kit_tab T hT _ (tyName_mem d)), q⟩

/-! ### len, items -/
def lenD : PyData → Option Nat
  | .str x => some x.length | .list ds => some ds.length | .tuple ds => some ds.length | _ => none
theorem call_lenA : CallR X (.builtin "len") (fun xs H Q => ∃ (x : V) (n : Nat), xs = [x] ∧ LenV X.K x H n ∧ Q (.int n) H) := call_len
theorem lenV_of {K : PySem.W.Frag} {mu : Addr → Prop} {H : Hp} {v : V} {d : PyData} {n : Nat} (h : Dt K mu H v d) (hn : lenD d = some n) (hs : n ≤ sizeLine) : LenV K v H n := by
  cases h with
  | str x =>
    cases hn
    exact ⟨hs, rfl⟩
  | lst m r ha =>
    cases hn
    exact .inl ⟨_, Rd.sqL r, ha.length.symm⟩
  | tup r ha =>
    cases hn
    exact .inr ⟨_, Rd.sqT r, ha.length.symm⟩
  | tupK r ha =>
    cases hn
    exact .inr ⟨_, KTup.sqT r, ha.length.symm⟩
  | _ => cases hn
/-- an item of a tuple, of a list -/
theorem Dt.tupAt {K : PySem.W.Frag} {mu : Addr → Prop} {H : Hp} {v : V} {ds : List PyData} (h : Dt K mu H v (.tuple ds)) : ∃ a xs, v = .ref a ∧ SqT K H a xs ∧ DtA K mu H xs ds := by
  cases h with
  | tup r ha => exact ⟨_, _, rfl, Rd.sqT r, ha⟩
  | tupK r ha => exact ⟨_, _, rfl, KTup.sqT r, ha⟩
theorem Dt.lstAt {K : PySem.W.Frag} {mu : Addr → Prop} {H : Hp} {v : V} {ds : List PyData} (h : Dt K mu H v (.list ds)) : ∃ a xs, v = .ref a ∧ ¬ mu a ∧ Rd H a (.lst xs) ∧ DtA K mu H xs ds := by
  cases h with
  | lst n r ha => exact ⟨_, _, rfl, n, r, ha⟩
/-- o[i] of a list by values (in o[i] op= e), i from 0 on -/
def rGetL (K : PySem.W.Frag) : R2 := fun o i H Q => ∃ (p : Addr) (xs : List V) (j : Nat) (v : V), o = .ref p ∧ i = .int j ∧ SqL K H p xs ∧ xs[j]? = some v ∧ Q v H
theorem get_list : PGet X (rGetL X.K) := by
  intro pins s σ H o i ov iv Q I ro ri h
  obtain ⟨p, xs, j, v, rfl, rfl, hq, he, q⟩ := h
  cases ro
  obtain ⟨t, rfl⟩ := ri
  obtain ⟨its, r, pl, hz⟩ := I.list hq
  obtain ⟨u, eu, ru⟩ := r.get he
  have hn := line63
  have hl := (List.getElem?_eq_some_iff.mp he).1
  exact wpAny_getItem_list pl.isList (by omega) (by omega) (by simpa using eu) ⟨v, H, I, ru, q⟩
end

/-! ### the built-ins' names, not taken by the module -/
structure Bt (mg : Str → Option Value) : Prop where
  len : mg "len" = none
  int : mg "int" = none
  bool : mg "bool" = none
  str : mg "str" = none
  tuple : mg "tuple" = none
  list : mg "list" = none
  dict : mg "dict" = none
  isin : mg "isinstance" = none
  repr : mg "repr" = none
  abs : mg "abs" = none
  max : mg "max" = none
  min : mg "min" = none
  range : mg "range" = none
  enum : mg "enumerate" = none
  zip : mg "zip" = none
theorem bb_abs : bootBuiltins "abs" = some (.builtin "abs") := by decide +kernel
theorem bb_isin : bootBuiltins "isinstance" = some (.builtin "isinstance") := by decide +kernel
theorem bb_repr : bootBuiltins "repr" = some (.builtin "repr") := by decide +kernel
theorem bb_max : bootBuiltins "max" = some (.builtin "max") := by decide +kernel
theorem bb_min : bootBuiltins "min" = some (.builtin "min") := by decide +kernel
theorem bb_len : bootBuiltins "len" = some (.builtin "len") := PySem.boot_len
theorem bb_sum : bootBuiltins "sum" = some (.builtin "sum") := by decide +kernel
theorem bb_all : bootBuiltins "all" = some (.builtin "all") := by decide +kernel
theorem bb_any : bootBuiltins "any" = some (.builtin "any") := by decide +kernel
theorem bb_sorted : bootBuiltins "sorted" = some (.builtin "sorted") := by decide +kernel
theorem bb_divmod : bootBuiltins "divmod" = some (.builtin "divmod") := by decide +kernel
theorem bb_int : bootBuiltins "int" = some (.type "int") := by decide +kernel
theorem bb_bool : bootBuiltins "bool" = some (.type "bool") := by decide +kernel
theorem bb_str : bootBuiltins "str" = some (.type "str") := by decide +kernel
theorem bb_tuple : bootBuiltins "tuple" = some (.type "tuple") := by decide +kernel
theorem bb_list : bootBuiltins "list" = some (.type "list") := by decide +kernel
theorem bb_dict : bootBuiltins "dict" = some (.type "dict") := by decide +kernel
theorem bb_set : bootBuiltins "set" = some (.type "set") := by decide +kernel
theorem bb_VE : bootBuiltins "ValueError" = some (.type "ValueError") := by decide +kernel

/-! ### data of a size that may be shown and compared -/
mutual
def okD : PyData → Bool
  | .none | .bool _ => true
  | .int i => decide (i.natAbs < 10 ^ 500)
  | .str x => PyData.strOk x
  | .list xs | .tuple xs => okA xs
  | .dict kvs => okK kvs
def okA : List PyData → Bool
  | [] => true
  | x :: xs => okD x && okA xs
def okK : List (PyData × PyData) → Bool
  | [] => true
  | (k, v) :: r => okD k && okD v && okK r
end
structure Ok (d : PyData) : Prop where
  ok : okD d = true
  dp : d.depth ≤ 50
  wt : d.weight ≤ 27000
instance (d : PyData) : Decidable (Ok d) := decidable_of_iff (okD d = true ∧ d.depth ≤ 50 ∧ d.weight ≤ 27000) ⟨fun h => ⟨h.1, h.2.1, h.2.2⟩, fun h => ⟨h.ok, h.dp, h.wt⟩⟩
theorem int_short {i : Int} (h : i.natAbs < 10 ^ 500) : (PyData.shown (.int i)).length ≤ 600 := by
  have e := int_text_length_le10 (k := 500) (by decide) h
  show (Str.ofString (toString i)).length ≤ 600
  rw [PySem.ofString_length]
  omega
theorem int_log {i : Int} (h : i.natAbs < 10 ^ 500) : i.natAbs.log2 < 1920 := by
  have e : (10 : Nat) ^ 500 ≤ 2 ^ 1900 := by decide +kernel
  by_cases z : i.natAbs = 0
  · rw [z]
    decide
  · exact Nat.lt_trans ((Nat.log2_lt z).mpr (Nat.lt_of_lt_of_le h e)) (by decide)
mutual
theorem ok_show : ∀ d : PyData, okD d = true → d.showable = true ∧ d.leavesShort 600 = true
  | .none, _ => ⟨rfl, rfl⟩
  | .bool _, _ => ⟨rfl, rfl⟩
  | .int i, h => by
    have h1 : i.natAbs < 10 ^ 500 := by simpa only [okD, decide_eq_true_eq] using h
    exact ⟨by simp only [PyData.showable, decide_eq_true_eq]; exact int_log h1, by simp only [PyData.leavesShort, decide_eq_true_eq]; exact int_short h1⟩
  | .str x, h => ⟨rfl, PyData.leavesShort_of_canLay0 600 (.str x) (by simpa only [okD, PyData.canLay0] using h) rfl⟩
  | .list xs, h => by simpa only [PyData.showable, PyData.leavesShort] using ok_showA xs (by simpa only [okD] using h)
  | .tuple xs, h => by simpa only [PyData.showable, PyData.leavesShort] using ok_showA xs (by simpa only [okD] using h)
  | .dict kvs, h => by simpa only [PyData.showable, PyData.leavesShort] using ok_showK kvs (by simpa only [okD] using h)
theorem ok_showA : ∀ xs : List PyData, okA xs = true → PyData.showableAll xs = true ∧ PyData.leavesShortAll 600 xs = true
  | [], _ => ⟨rfl, rfl⟩
  | x :: xs, h => by
    have h' : okD x = true ∧ okA xs = true := by simpa only [okA, Bool.and_eq_true] using h
    have a := ok_show x h'.1
    have b := ok_showA xs h'.2
    simp only [PyData.showableAll, PyData.leavesShortAll, a.1, a.2, b.1, b.2, Bool.and_self, and_self]
theorem ok_showK : ∀ xs : List (PyData × PyData), okK xs = true → PyData.showableKv xs = true ∧ PyData.leavesShortKv 600 xs = true
  | [], _ => ⟨rfl, rfl⟩
  | (k, v) :: xs, h => by
    have h' : (okD k = true ∧ okD v = true) ∧ okK xs = true := by simpa only [okK, Bool.and_eq_true] using h
    have a := ok_show k h'.1.1
    have c := ok_show v h'.1.2
    have b := ok_showK xs h'.2
    simp only [PyData.showableKv, PyData.leavesShortKv, a.1, a.2, b.1, b.2, c.1, c.2, Bool.and_self, and_self]
end
mutual
theorem ok_lay : ∀ d : PyData, okD d = true → d.hasDict = false → d.canLay0 = true
  | .none, _, _ => rfl
  | .bool _, _, _ => rfl
  | .int i, _, _ => rfl
  | .str x, h, _ => by simpa only [okD, PyData.canLay0] using h
  | .list xs, h, n => by simpa only [PyData.canLay0] using ok_layA xs (by simpa only [okD] using h) (by simpa only [PyData.hasDict] using n)
  | .tuple xs, h, n => by simpa only [PyData.canLay0] using ok_layA xs (by simpa only [okD] using h) (by simpa only [PyData.hasDict] using n)
  | .dict kvs, _, n => by simp [PyData.hasDict] at n
theorem ok_layA : ∀ xs : List PyData, okA xs = true → PyData.hasDictAll xs = false → PyData.canLayAll0 xs = true
  | [], _, _ => rfl
  | x :: xs, h, n => by
    have h' : okD x = true ∧ okA xs = true := by simpa only [okA, Bool.and_eq_true] using h
    have n' : x.hasDict = false ∧ PyData.hasDictAll xs = false := by simpa only [PyData.hasDictAll, Bool.or_eq_false_iff] using n
    simp only [PyData.canLayAll0, ok_lay x h'.1 n'.1, ok_layA xs h'.2 n'.2, Bool.and_self]
end
theorem Ok.show {d : PyData} (h : Ok d) : d.showable = true := (ok_show d h.ok).1
theorem Ok.fits {d : PyData} (h : Ok d) : d.shown.length ≤ sizeLine := by
  have e := PyData.shown_le 600 (by decide) d (ok_show d h.ok).2
  have w := h.wt
  rw [sizeLine_eq]
  omega
theorem Ok.shaped {d : PyData} (h : Ok d) (n : d.hasDict = false) : SeqAt.shaped d = true := by
  have := h.dp
  unfold SeqAt.shaped
  rw [ok_lay d h.ok n, decide_eq_true (by omega)]
  rfl
theorem Ok.repr {K : PySem.W.Frag} {mu : Addr → Prop} {H : Hp} {v : V} {d : PyData} {Q : VK} (h : Ok d) (r : Dt K mu H v d) (n : d.hasDict = false ∨ mu sysModules) (q : Q (.str d.shown) H) : rRepr K [v] H Q :=
  ⟨v, mu, d, rfl, r, h.show, n, by have := h.dp; omega, h.fits, q⟩
theorem eqv_same {d : PyData} (h : d.canLay0 = true) : PyData.eqv d d = true := SeqAt.eqv_refl d h
theorem lay_strs : ∀ {xs : List Str}, (∀ z ∈ xs, PyData.strOk z = true) → PyData.canLayAll0 (xs.map PyData.str) = true ∧ PyData.depthAll (xs.map PyData.str) = 0
  | [], _ => ⟨rfl, rfl⟩
  | x :: xs, h => by
    have e1 : PyData.canLay0 (.str x) = true := by simpa only [PyData.canLay0] using h x List.mem_cons_self
    have e2 := lay_strs fun z hz => h z (List.mem_cons_of_mem _ hz)
    simp only [List.map_cons, PyData.canLayAll0, PyData.depthAll, e1, e2.1, e2.2, PyData.depth, Bool.and_self, Nat.max_self, and_self]
theorem shaped_strs {xs : List Str} (h : ∀ z ∈ xs, PyData.strOk z = true) : SeqAt.shaped (.list (xs.map PyData.str)) = true := by
  have e := lay_strs h
  unfold SeqAt.shaped
  simp only [PyData.canLay0, PyData.depth, e.1, e.2, Bool.true_and]
  decide
/-! ### short words for tests -/
theorem iteNe {A B : Prop} {i j : Int} (h1 : i ≠ j → A) (h2 : i = j → B) : if (!decide (V.int i = V.int j)) = true then A else B := by
  by_cases e : i = j
  · have z : (!decide (V.int i = V.int j)) = false := by rw [e, decide_eq_true rfl]; rfl
    rw [z]
    exact iteF (h2 e)
  · have z : (!decide (V.int i = V.int j)) = true := by rw [decide_eq_false fun q => e (V.int.inj q)]; rfl
    rw [z]
    exact iteT (h1 e)
theorem iteEq {A B : Prop} {i j : Int} (h1 : i = j → A) (h2 : i ≠ j → B) : if decide (V.int i = V.int j) = true then A else B := by
  by_cases e : i = j
  · rw [e, decide_eq_true rfl]
    exact iteT (h1 e)
  · rw [decide_eq_false fun q => e (V.int.inj q)]
    exact iteF (h2 e)
theorem iteP {A B : Prop} {p : Prop} [Decidable p] (h1 : p → A) (h2 : ¬ p → B) : if decide p = true then A else B := by
  by_cases e : p
  · rw [decide_eq_true e]
    exact iteT (h1 e)
  · rw [decide_eq_false e]
    exact iteF (h2 e)
theorem iteB {A B : Prop} {b : Bool} (h1 : b = true → A) (h2 : b = false → B) : if b = true then A else B := by
  cases b with
  | true => exact iteT (h1 rfl)
  | false => exact iteF (h2 rfl)
theorem iteN {A B : Prop} {b : Bool} (h1 : b = false → A) (h2 : b = true → B) : if (!b) = true then A else B := by
  cases b with
  | true => exact iteF (h2 rfl)
  | false => exact iteT (h1 rfl)
theorem dec_int (i j : Int) : decide (V.int i = V.int j) = decide (i = j) := by
  rw [decide_eq_decide]
  exact ⟨V.int.inj, fun e => by rw [e]⟩
theorem okA_mem : ∀ {ds : List PyData} {d : PyData}, okA ds = true → d ∈ ds → okD d = true
  | x :: xs, d, h, m => by
    have h' : okD x = true ∧ okA xs = true := by simpa only [okA, Bool.and_eq_true] using h
    rcases List.mem_cons.mp m with rfl | m
    · exact h'.1
    · exact okA_mem h'.2 m
theorem depthAll_mem : ∀ {ds : List PyData} {d : PyData}, d ∈ ds → d.depth ≤ PyData.depthAll ds
  | x :: xs, d, m => by
    simp only [PyData.depthAll]
    rcases List.mem_cons.mp m with rfl | m
    · omega
    · have := depthAll_mem m
      omega
theorem weightAll_mem : ∀ {ds : List PyData} {d : PyData}, d ∈ ds → d.weight + 1 ≤ PyData.weightAll ds
  | x :: xs, d, m => by
    simp only [PyData.weightAll]
    rcases List.mem_cons.mp m with rfl | m
    · omega
    · have := weightAll_mem m
      omega
theorem Ok.inT {ds : List PyData} {d : PyData} (h : Ok (.tuple ds)) (m : d ∈ ds) : Ok d := by
  have z1 := h.dp
  have z2 := h.wt
  have z3 := h.ok
  simp only [PyData.depth] at z1
  simp only [PyData.weight] at z2
  simp only [okD] at z3
  have y1 := depthAll_mem m
  have y2 := weightAll_mem m
  exact ⟨okA_mem z3 m, by omega, by omega⟩
theorem Ok.inL {ds : List PyData} {d : PyData} (h : Ok (.list ds)) (m : d ∈ ds) : Ok d := by
  have z1 := h.dp
  have z2 := h.wt
  have z3 := h.ok
  simp only [PyData.depth] at z1
  simp only [PyData.weight] at z2
  simp only [okD] at z3
  have y1 := depthAll_mem m
  have y2 := weightAll_mem m
  exact ⟨okA_mem z3 m, by omega, by omega⟩
theorem weight_len : ∀ ds : List PyData, ds.length ≤ PyData.weightAll ds
  | [] => Nat.le_refl _
  | x :: xs => by
    have := weight_len xs
    simp only [PyData.weightAll, List.length_cons]
    omega
theorem Ok.strLen {x : Str} (h : Ok (.str x)) : x.length ≤ 27000 := by
  have := h.wt
  simp only [PyData.weight] at this
  exact this
theorem isTup (d : PyData) : isT "tuple" d = true ↔ ∃ ds, d = .tuple ds := by
  cases d <;> simp [isT, tyName]
theorem isStr (d : PyData) : isT "str" d = true ↔ ∃ x, d = .str x := by
  cases d <;> simp [isT, tyName]
theorem isLst (d : PyData) : isT "list" d = true ↔ ∃ ds, d = .list ds := by
  cases d <;> simp [isT, tyName]
theorem isIntD (d : PyData) : (isT "int" d && !isT "bool" d) = true ↔ ∃ i, d = .int i := by
  cases d <;> simp [isT, tyName]
end Sw
/-! Mathematics of names and common divisors. -/
namespace Sw
open PySem PySem.Spec PyProof.Rows L2

def low (c : Nat) : Bool := decide (97 ≤ c ∧ c ≤ 122)
theorem low_tab : ∀ c, c < 128 → (Unicode.isAlpha c && !(Unicode.isUpper c || Unicode.isTitle c)) = low c ∧ (low c = true → Unicode.isLower c = true) := by decide +kernel
theorem low_lt {c : Nat} (h : low c = true) : c < 128 := by
  have z := of_decide_eq_true h
  omega
/-- what is_name asks of a text's signs, both ways -/
theorem name_two (cs : List Nat) (h : cs ≠ []) : (cs.all (· < 128) && (cs.all Unicode.isAlpha && (cs.any Unicode.isLower && !cs.any fun c => Unicode.isUpper c || Unicode.isTitle c))) = cs.all low := by
  rw [Bool.eq_iff_iff]
  constructor
  · intro z
    simp only [Bool.and_eq_true, List.all_eq_true, decide_eq_true_eq, Bool.not_eq_true', List.any_eq_false] at z
    obtain ⟨z1, z2, z3, z4⟩ := z
    rw [List.all_eq_true]
    intro c hc
    have e := (low_tab c (z1 c hc)).1
    rw [← e, z2 c hc]
    simpa using z4 c hc
  · intro z
    rw [List.all_eq_true] at z
    have key : ∀ c ∈ cs, c < 128 ∧ Unicode.isAlpha c = true ∧ (Unicode.isUpper c || Unicode.isTitle c) = false ∧ Unicode.isLower c = true := fun c hc => by
      have l := low_lt (z c hc)
      have e := low_tab c l
      rw [z c hc] at e
      have e1 := e.1
      rw [Bool.and_eq_true, Bool.not_eq_true'] at e1
      exact ⟨l, e1.1, e1.2, e.2 rfl⟩
    simp only [Bool.and_eq_true, List.all_eq_true, decide_eq_true_eq, Bool.not_eq_true', List.any_eq_false, List.any_eq_true]
    obtain ⟨c, hc⟩ := List.exists_mem_of_ne_nil cs h
    exact ⟨fun c hc => (key c hc).1, fun c hc => (key c hc).2.1, ⟨c, hc, (key c hc).2.2.2⟩, fun c hc => by simpa using (key c hc).2.2.1⟩
/-- a NAME's text -/
def nameS (x : Str) : Bool := decide (1 ≤ x.length) && decide (x.length ≤ 12) && x.cps.toList.all low
theorem name_txt (x : Str) (h : 1 ≤ x.length) : (Txt.isascii x && (Txt.isalpha x && Txt.islower x)) = x.cps.toList.all low := by
  have hl : x.cps.toList ≠ [] := fun z => by
    have e : x.length = x.cps.toList.length := rfl
    rw [z] at e
    simp at e
    omega
  have e := name_two x.cps.toList hl
  rw [← e]
  unfold Txt.isascii Txt.isalpha Txt.islower
  have h2 : decide (x.length > 0) = true := decide_eq_true h
  rw [h2, Bool.true_and, ← Array.all_toList, ← Array.all_toList, ← Array.any_toList, ← Array.any_toList]
def az : Str := "abcdefghijklmnopqrstuvwxyz"
theorem az_mem (c : Nat) : decide (c ∈ az.cps.toList) = low c := by
  have h : az.cps.toList = (List.range 26).map (· + 97) := by decide +kernel
  rw [h]
  unfold low
  rw [decide_eq_decide]
  simp only [List.mem_map, List.mem_range]
  constructor
  · rintro ⟨i, hi, rfl⟩
    omega
  · intro z
    exact ⟨c - 97, by omega, by omega⟩

/-! ### the common divisor by rests -/
theorem gcd_step (a b : Nat) : Nat.gcd b (a % b) = Nat.gcd a b := by
  rw [Nat.gcd_comm a b, Nat.gcd_rec b a, Nat.gcd_comm]
/-- the size of the common divisor -/
def gI (n d : Int) : Int := ((Nat.gcd n.natAbs d.natAbs : Nat) : Int)
def sh (n d : Int) : Int := if gI n d > 1 then gI n d else 1
def redI (n d : Int) : Int × Int := if d < 0 then ((-n) / sh n d, (-d) / sh n d) else (n / sh n d, d / sh n d)
theorem sh_pos (n d : Int) : 0 < sh n d := by
  unfold sh
  split <;> omega
theorem sh_eq {n d : Int} (h : d ≠ 0) : sh n d = gI n d := by
  have : 0 < Nat.gcd n.natAbs d.natAbs := Nat.gcd_pos_of_pos_right _ (by omega)
  unfold sh gI
  split <;> omega
theorem sh_le {n d : Int} (h : d ≠ 0) : (sh n d).natAbs ≤ d.natAbs := by
  rw [sh_eq h]
  unfold gI
  rw [Int.natAbs_natCast]
  exact Nat.le_of_dvd (by omega) (Nat.gcd_dvd_right _ _)
/-- small positive ones, reduced -/
theorem redI_pos {n d : Int} (hn : 0 < n) (hd : 0 < d) : 1 ≤ (redI n d).1 ∧ (redI n d).1 ≤ n ∧ 1 ≤ (redI n d).2 ∧ (redI n d).2 ≤ d ∧ gI (redI n d).1 (redI n d).2 = 1 := by
  obtain ⟨a, rfl⟩ : ∃ a : Nat, n = (a : Int) := ⟨n.toNat, by omega⟩
  obtain ⟨c, rfl⟩ : ∃ c : Nat, d = (c : Int) := ⟨d.toNat, by omega⟩
  have ha : 0 < a := by omega
  have hc : 0 < c := by omega
  have hg : 0 < Nat.gcd a c := Nat.gcd_pos_of_pos_right _ hc
  have e : redI (a : Int) (c : Int) = (((a / Nat.gcd a c : Nat) : Int), ((c / Nat.gcd a c : Nat) : Int)) := by
    unfold redI
    rw [if_neg (by omega), sh_eq (by omega)]
    unfold gI
    rw [Int.natAbs_natCast, Int.natAbs_natCast, Int.natCast_ediv, Int.natCast_ediv]
  rw [e]
  have d1 : Nat.gcd a c ≤ a := Nat.le_of_dvd ha (Nat.gcd_dvd_left a c)
  have d2 : Nat.gcd a c ≤ c := Nat.le_of_dvd hc (Nat.gcd_dvd_right a c)
  have p1 : 0 < a / Nat.gcd a c := Nat.div_pos d1 hg
  have p2 : 0 < c / Nat.gcd a c := Nat.div_pos d2 hg
  have p3 : a / Nat.gcd a c ≤ a := Nat.div_le_self _ _
  have p4 : c / Nat.gcd a c ≤ c := Nat.div_le_self _ _
  have p5 : Nat.gcd (a / Nat.gcd a c) (c / Nat.gcd a c) = 1 := Nat.coprime_div_gcd_div_gcd hg
  refine ⟨by show (1 : Int) ≤ ((a / Nat.gcd a c : Nat) : Int); omega, by show ((a / Nat.gcd a c : Nat) : Int) ≤ _; omega, by show (1 : Int) ≤ ((c / Nat.gcd a c : Nat) : Int); omega, by show ((c / Nat.gcd a c : Nat) : Int) ≤ _; omega, ?_⟩
  unfold gI
  show ((Nat.gcd (((a / Nat.gcd a c : Nat) : Int)).natAbs (((c / Nat.gcd a c : Nat) : Int)).natAbs : Nat) : Int) = 1
  rw [Int.natAbs_natCast, Int.natAbs_natCast, p5]
  rfl

/-! ### the bag of draws -/
/-- the bag at b: what is left of a great cell, the stirred number, how many cells were taken, the cells -/
def BagAt (H : Hp) (b : Addr) : Prop := ∃ (x y z : Int) (l : Addr) (cs : List Int), H b = some (.lst [.int x, .int y, .int z, .ref l]) ∧ H l = some (.lst (cs.map V.int)) ∧ l ≠ b ∧ 0 ≤ x ∧ 0 ≤ y ∧ y < 2147483647 ∧ 0 ≤ z ∧ cs.length ≤ 63 ∧ ∀ c ∈ cs, 0 ≤ c
/-- its cells lie at l -/
def BagL (H : Hp) (b l : Addr) : Prop := ∃ x y z : Int, H b = some (.lst [.int x, .int y, .int z, .ref l])
theorem BagL.eq {H : Hp} {b l k : Addr} {x y z : Int} (h : BagL H b l) (e : H b = some (.lst [.int x, .int y, .int z, .ref k])) : l = k := by
  obtain ⟨x', y', z', e'⟩ := h
  rw [e] at e'
  cases e'
  rfl
/-- the bag alone has changed -/
structure Rel (b : Addr) (H H' : Hp) : Prop where
  keep : ∀ a o, a ≠ b → H a = some o → H' a = some o
  cell : ∀ l, BagL H b l → BagL H' b l
  bag : BagAt H' b
theorem Rel.refl {b : Addr} {H : Hp} (h : BagAt H b) : Rel b H H := ⟨fun _ _ _ e => e, fun _ h => h, h⟩
theorem Rel.trans {b : Addr} {H H1 H2 : Hp} (r : Rel b H H1) (s : Rel b H1 H2) : Rel b H H2 := ⟨fun a o n e => s.keep a o n (r.keep a o n e), fun l h => s.cell l (r.cell l h), s.bag⟩
theorem BagAt.same {b : Addr} {H H' : Hp} (h : BagAt H b) (s : Same H H') : BagAt H' b := by
  obtain ⟨x, y, z, l, cs, h1, h2, r⟩ := h
  exact ⟨x, y, z, l, cs, s _ _ h1, s _ _ h2, r⟩
theorem BagL.same {b l : Addr} {H H' : Hp} (h : BagL H b l) (s : Same H H') : BagL H' b l := by
  obtain ⟨x, y, z, e⟩ := h
  exact ⟨x, y, z, s _ _ e⟩
theorem Rel.same {b : Addr} {H H1 H2 : Hp} (r : Rel b H H1) (s : Same H1 H2) : Rel b H H2 := ⟨fun a o n e => s a o (r.keep a o n e), fun l h => (r.cell l h).same s, r.bag.same s⟩
theorem Rel.of_same {b : Addr} {H H1 : Hp} (h : BagAt H b) (s : Same H H1) : Rel b H H1 := ⟨fun a o n e => s a o e, fun l h => h.same s, h.same s⟩
theorem Rel.fut {b : Addr} {mu : Addr → Prop} {H H' : Hp} (r : Rel b H H') (h : mu b) (hb : BagAt H b) : Fut mu H H' := fun a o e z => r.keep a o (fun q => by
  rcases z with z | z | z
  · exact z (by rw [q]; exact h)
  · obtain ⟨x, y, z', l, cs, h1, _⟩ := hb
    obtain ⟨xs, rfl⟩ := z
    rw [q, h1] at e
    cases e
  · obtain ⟨x, y, z', l, cs, h1, _⟩ := hb
    obtain ⟨ob, u, rfl⟩ := z
    rw [q, h1] at e
    cases e) e
theorem Rel.some {b : Addr} {H H' : Hp} (r : Rel b H H') {a : Addr} (h : H' a = Option.none) : H a = Option.none := by
  by_cases e : a = b
  · obtain ⟨x, y, z', l, cs, h1, _⟩ := r.bag
    rw [e, h1] at h
    cases h
  · cases q : H a with
    | none => rfl
    | some o =>
      rw [r.keep a o e q] at h
      cases h
theorem same_upd {H : Hp} {p : Addr} {o : HO} (h : H p = Option.none) : Same H (upd H p o) := fun b x e => by
  rw [upd_ne (ne_of_none e h)]
  exact e
theorem cut_mem {xs : List V} {lo hi : Option Int} {v : V} (h : v ∈ cutV xs lo hi) : v ∈ xs := by
  unfold cutV at h
  exact List.mem_of_mem_drop (List.mem_of_mem_take h)
theorem cut_len (xs : List V) (lo hi : Option Int) : (cutV xs lo hi).length ≤ xs.length := by
  unfold cutV
  rw [List.length_take, List.length_drop]
  omega
theorem head_cell {cs : List Int} (h : ∀ c ∈ cs, 0 ≤ c) (lo hi : Option Int) : ∃ c : Int, 0 ≤ c ∧ (cutV (cs.map V.int) lo hi ++ [V.int 0])[0]? = some (.int c) := by
  cases e : cutV (cs.map V.int) lo hi with
  | nil => exact ⟨0, Int.le_refl _, rfl⟩
  | cons v r =>
    have m : v ∈ cutV (cs.map V.int) lo hi := by
      rw [e]
      exact List.mem_cons_self
    obtain ⟨c, hc, rfl⟩ := List.mem_map.mp (cut_mem m)
    exact ⟨c, h c hc, rfl⟩
/-- a drawn integer from 0 to many less 1 -/
def spTake : Sp := fun vs H Q _ => ∃ (b : Addr) (many : Int), vs = [.ref b, .int many] ∧ BagAt H b ∧ 0 < many ∧ many < 1073741824 ∧ ∀ v H', 0 ≤ v → v < many → Rel b H H' → Q (.int v) H'
end Sw
/-! What an expression that draws from the bag gives as a datum (Ge exactly, Gv by a word of it). -/
namespace Sw
open PySem PySem.Spec PyProof.Rows L2

def tLstN (t : TA) : TE := fun σ H Q => t σ H fun xs H1 => xs.length ≤ sizeLine ∧ ∀ p, H1 p = none → p ≠ sysModules → Q (.ref p) (upd H1 p (.lst xs))
/-- a list display: its place is new, and not that of sys.modules -/
theorem pe_lstN {X : Cx} {es : List Expr} {t : TA} {pos : Pos} (h : PA X es t) : PE X (.List es pos) (tLstN t) :=
  ⟨fun pins s σ H Q I hq => wpAny_List_spliced (thn (h.run pos pins s σ H _ I hq) fun us s1 g => by
    obtain ⟨xs, H1, I1, r, z, q⟩ := g
    exact ⟨by rw [← r.length]; exact z, .ref s1.heap.objs.size, upd H1 s1.heap.objs.size (.lst xs), I1.laid (t' := s1.toks) (fun b u e => Heap.get?_push_of_some _ e) (Nat.le_refl _) ⟨z, us, 0, r, Heap.get?_push_size _ rfl⟩, rfl,
      q _ (I1.hok.fresh (Nat.le_refl _)) (Nat.ne_of_gt I1.big)⟩)⟩
def tDNewN : TE := fun _ H Q => ∀ p, H p = none → p ≠ sysModules → Q (.ref p) (upd H p (.dK []))
theorem pe_dnewN {X : Cx} {pos : Pos} : PE X (.Dict [] [] pos) tDNewN := ⟨fun pins s σ H Q I h =>
  wpAny_Dict_empty ⟨.ref s.heap.objs.size, _, I.laid (a := s.heap.objs.size) (o := .dK []) (t' := s.toks) (fun _ _ q => Heap.get?_push_of_some _ q) (Nat.le_refl _) (dk_empty s.heap I.big), rfl, h _ (I.hok.fresh (Nat.le_refl _)) (Nat.ne_of_gt I.big)⟩⟩
/-- what may change is tracked (or sys.modules) -/
def MuOk (mu : Addr → Prop) (H : Hp) : Prop := ∀ a, mu a → H a ≠ none ∨ a = sysModules
theorem MuOk.rel {mu : Addr → Prop} {b : Addr} {H H' : Hp} (m : MuOk mu H) (r : Rel b H H') : MuOk mu H' := fun a h => by
  rcases m a h with z | z
  · refine .inl fun e => z (r.some e)
  · exact .inr z
theorem MuOk.same {mu : Addr → Prop} {H H' : Hp} (m : MuOk mu H) (s : Same H H') : MuOk mu H' := fun a h => by
  rcases m a h with z | z
  · exact .inl fun e => z (s.free e)
  · exact .inr z
theorem MuOk.new {mu : Addr → Prop} {H : Hp} (m : MuOk mu H) {p : Addr} (n : H p = none) (s : p ≠ sysModules) : ¬ mu p := fun h => (m p h).elim (fun z => z n) s
theorem MuOk.bag {H : Hp} {b : Addr} (h : BagAt H b) : MuOk (fun a => a = b ∨ a = sysModules) H := fun a z => by
  rcases z with rfl | z
  · obtain ⟨x, y, z, l, cs, h1, _⟩ := h
    exact .inl (by rw [h1]; exact fun z => nomatch z)
  · exact .inr z

/-- a list may be changed -/
def Own (H : Hp) (v : V) (d : PyData) : Prop := (∀ ds, d = .list ds → ∃ a xs, v = .ref a ∧ H a = some (.lst xs)) ∧ (d = .dict [] → ∃ a, v = .ref a ∧ H a = some (.dK []))
theorem Own.fut {K : PySem.W.Frag} {mu : Addr → Prop} {H H' : Hp} {v : V} {d : PyData} (o : Own H v d) (h : Dt K mu H v d) (f : Fut mu H H') : Own H' v d := ⟨fun ds e => by
  subst e
  obtain ⟨a, xs, rfl, e⟩ := o.1 ds rfl
  obtain ⟨a', _, e2, n, _, _⟩ := h.lstAt
  cases e2
  exact ⟨a, xs, rfl, f a _ e (.inl n)⟩, fun e => by
  subst e
  obtain ⟨a, rfl, e⟩ := o.2 rfl
  cases h with
  | dct n _ _ => exact ⟨a, rfl, f a _ e (.inl n)⟩⟩
theorem own_not {H : Hp} {v : V} {d : PyData} (h : ∀ ds, d ≠ .list ds) (h2 : d ≠ .dict [] := by intro z; cases z) : Own H v d := ⟨fun ds e => absurd e (h ds), fun e => absurd e h2⟩
/-- .. all of them -/
def OwnA (H : Hp) (vs : List V) (ds : List PyData) : Prop := ∀ (i : Nat) (v : V) (d : PyData), vs[i]? = some v → ds[i]? = some d → Own H v d
theorem OwnA.nil {H : Hp} {ds : List PyData} : OwnA H [] ds := fun i v d e => by simp at e
theorem OwnA.cons {H : Hp} {v : V} {vs : List V} {d : PyData} {ds : List PyData} (h : Own H v d) (t : OwnA H vs ds) : OwnA H (v :: vs) (d :: ds) := fun i x y e1 e2 => by
  cases i with
  | zero =>
    cases e1
    cases e2
    exact h
  | succ i => exact t i x y (by simpa using e1) (by simpa using e2)
section
variable (K : PySem.W.Frag) (b : Addr) (mu : Addr → Prop) (σ : L2.St) (H0 : Hp)
/-- the expression gives the datum d -/
def Ge (te : TE) (d : PyData) : Prop := ∀ H, Rel b H0 H → MuOk mu H → ∀ Q : VK, (∀ v H', Rel b H H' → Dt K mu H' v d → Q v H') → te σ H Q
/-- .. a datum of which D holds -/
def Gv (te : TE) (D : PyData → Prop) : Prop := ∀ H, Rel b H0 H → MuOk mu H → ∀ Q : VK, (∀ v H' d, D d → Rel b H H' → Dt K mu H' v d → Own H' v d → Q v H') → te σ H Q
def GeA (ta : TA) (ds : List PyData) : Prop := ∀ H, Rel b H0 H → MuOk mu H → ∀ Q : List V → Hp → Prop, (∀ vs H', Rel b H H' → DtA K mu H' vs ds → Q vs H') → ta σ H Q
def GvA (ta : TA) (D : PyData → Prop) (n : Nat) : Prop := ∀ H, Rel b H0 H → MuOk mu H → ∀ Q : List V → Hp → Prop, (∀ vs H' ds, ds.length = n → (∀ d ∈ ds, D d) → Rel b H H' → DtA K mu H' vs ds → OwnA H' vs ds → Q vs H') → ta σ H Q
end
section
variable {K : PySem.W.Frag} {b : Addr} {mu : Addr → Prop} {σ : L2.St} {H0 : Hp} {te : TE} {ta tr : TA} {d : PyData} {ds : List PyData} {D : PyData → Prop} {n : Nat}
theorem Ge.gv (h : Ge K b mu σ H0 te d) (hd : D d) (hn : ∀ ds, d ≠ .list ds := by intro _ z; cases z) (hn2 : d ≠ .dict [] := by intro z; cases z) : Gv K b mu σ H0 te D := fun H hb m Q q => h H hb m Q fun v H' r e => q v H' d hd r e (own_not hn hn2)
theorem gv_lst (hm : mu b) (h : GeA K b mu σ H0 ta ds) (hl : ds.length ≤ 1000) (hd : D (.list ds)) : Gv K b mu σ H0 (tLstN ta) D := fun H hb m Q q =>
  h H hb m _ fun vs H1 r e => ⟨Nat.le_of_lt (small1000 (by rw [e.length]; exact hl)), fun p np ns => q _ _ _ hd (r.same (same_upd np)) (.lst ((m.rel r).new np ns) (.inl upd_same) (e.fut (.of_same (same_upd np)))) ⟨fun _ _ => ⟨p, vs, rfl, upd_same⟩, fun z => nomatch z⟩⟩
theorem ge_int {i : Int} : Ge K b mu σ H0 (tC (.int i)) (.int i) := fun H hb _ _ q => q _ H (.refl hb.bag) (.int i)
theorem ge_bl {i : Bool} : Ge K b mu σ H0 (tC (.bl i)) (.bool i) := fun H hb _ _ q => q _ H (.refl hb.bag) (.bl i)
theorem ge_str {i : Str} : Ge K b mu σ H0 (tC (.str i)) (.str i) := fun H hb _ _ q => q _ H (.refl hb.bag) (.str i)
theorem ge_non : Ge K b mu σ H0 (tC .non) .none := fun H hb _ _ q => q _ H (.refl hb.bag) .non
theorem ge_neg {i : Int} : Ge K b mu σ H0 (tUn (rU fun i => .int (-i)) (tC (.int i))) (.int (-i)) := fun H hb _ _ q => ⟨i, rfl, q _ H (.refl hb.bag) (.int _)⟩
theorem geA_nil : GeA K b mu σ H0 tNil [] := fun H hb _ _ q => q _ H (.refl hb.bag) .nil
theorem geA_cons (hm : mu b) (h : Ge K b mu σ H0 te d) (t : GeA K b mu σ H0 tr ds) : GeA K b mu σ H0 (tCons te tr) (d :: ds) := fun H hb m _ q =>
  h H hb m _ fun v H1 r1 e1 => t H1 (hb.trans r1) (m.rel r1) _ fun vs H2 r2 e2 => q _ H2 (r1.trans r2) (.cons (e1.fut (r2.fut hm r1.bag)) e2)
theorem gvA_nil : GvA K b mu σ H0 tNil D 0 := fun H hb _ _ q => q _ H [] rfl (fun _ z => nomatch z) (.refl hb.bag) .nil .nil
theorem gvA_cons (hm : mu b) (h : Gv K b mu σ H0 te D) (t : GvA K b mu σ H0 tr D n) : GvA K b mu σ H0 (tCons te tr) D (n + 1) := fun H hb m _ q =>
  h H hb m _ fun v H1 d hd r1 e1 o1 => t H1 (hb.trans r1) (m.rel r1) _ fun vs H2 ds hl hds r2 e2 o2 => q _ H2 (d :: ds) (by rw [List.length_cons, hl]) (fun x z => by
    rcases List.mem_cons.mp z with rfl | z
    · exact hd
    · exact hds x z) (r1.trans r2) (.cons (e1.fut (r2.fut hm r1.bag)) e2) (.cons (o1.fut e1 (r2.fut hm r1.bag)) o2)
theorem ge_tup (hm : mu b) (h : GeA K b mu σ H0 ta ds) (hl : ds.length ≤ 1000) : Ge K b mu σ H0 (tTup ta) (.tuple ds) := fun H hb m _ q =>
  h H hb m _ fun vs H1 r e => ⟨Nat.le_of_lt (small1000 (by rw [e.length]; exact hl)), fun p np => q _ _ (r.same (same_upd np)) (.tup (.inl upd_same) (e.fut (.of_same (same_upd np))))⟩
theorem ge_lst (hm : mu b) (h : GeA K b mu σ H0 ta ds) (hl : ds.length ≤ 1000) : Ge K b mu σ H0 (tLstN ta) (.list ds) := fun H hb m _ q =>
  h H hb m _ fun vs H1 r e => ⟨Nat.le_of_lt (small1000 (by rw [e.length]; exact hl)), fun p np ns => q _ _ (r.same (same_upd np)) (.lst ((m.rel r).new np ns) (.inl upd_same) (e.fut (.of_same (same_upd np))))⟩
end
theorem gv_dict {K : PySem.W.Frag} {b : Addr} {mu : Addr → Prop} {σ : L2.St} {H0 : Hp} {D : PyData → Prop} (hd : D (.dict [])) : Gv K b mu σ H0 tDNewN D := fun H hb m Q q =>
  fun p np ns => q _ _ _ hd (Rel.of_same hb.bag (same_upd np)) (.dct (m.new np ns) (.inl upd_same) .nil) ⟨(fun _ z => nomatch z), fun _ => ⟨p, rfl, upd_same⟩⟩
/-- a menu of drawn things: t is a list, one of its items comes back -/
def spSome : Sp := fun vs H Q _ => ∃ (b t : Addr) (xs : List V), vs = [.ref b, .ref t] ∧ BagAt H b ∧ t ≠ b ∧ H t = some (.lst xs) ∧ 0 < xs.length ∧ xs.length ≤ 1000 ∧ ∀ (i : Nat) v H', xs[i]? = some v → Rel b H H' → Q v H'
/-- a menu is asked -/
theorem gv_some {K : PySem.W.Frag} {b : Addr} {mu : Addr → Prop} {σ : L2.St} {H0 : Hp} {ta : TA} {D : PyData → Prop} {n i : Nat} (hm : mu b) (hσ : σ[i]? = some (some (.ref b))) (h : GvA K b mu σ H0 ta D n) (h0 : 0 < n) (h1 : n ≤ 1000) :
    Gv K b mu σ H0 (tCall spSome [] E0 (tCons (tVar i) (tCons (tLst ta) tNil))) D := fun H hb m Q q => by
  refine ⟨_, hσ, h H hb m _ fun vs H1 ds hl hD r e oo => ?_⟩
  have hv : vs.length = n := e.length.trans hl
  refine ⟨Nat.le_of_lt (small1000 (by omega)), fun p np => ?_⟩
  have nb : p ≠ b := fun z => by
    obtain ⟨x, y, z', l, cs, h1, _⟩ := r.bag
    rw [z, h1] at np
    cases np
  refine ⟨b, p, vs, rfl, r.bag.same (same_upd np), nb, upd_same, by omega, by omega, fun j v H2 hj r2 => ?_⟩
  obtain ⟨d, hd, ed⟩ := e.get hj
  have o1 := (oo j v d hj hd).fut ed (.of_same (same_upd (o := .lst vs) np))
  have r3 := r.same (same_upd (o := .lst vs) np)
  exact q v H2 d (hD d (List.mem_of_getElem? hd)) (r3.trans r2) ((ed.fut (.of_same (same_upd np))).fut (r2.fut hm r3.bag)) (o1.fut (ed.fut (.of_same (same_upd np))) (r2.fut hm r3.bag))
theorem gv_var {K : PySem.W.Frag} {b : Addr} {mu : Addr → Prop} {σ : L2.St} {H0 : Hp} {i : Nat} {v : V} {d : PyData} {D : PyData → Prop} (hm : mu b) (hb : BagAt H0 b) (hσ : σ[i]? = some (some v)) (h : Dt K mu H0 v d) (o : Own H0 v d) (hd : D d) : Gv K b mu σ H0 (tVar i) D := fun H r m Q q =>
  ⟨v, hσ, q v H d hd (.refl r.bag) (h.fut (r.fut hm hb)) (o.fut h (r.fut hm hb))⟩
/-- a menu that lies ready -/
theorem gv_someV {K : PySem.W.Frag} {b : Addr} {mu : Addr → Prop} {σ : L2.St} {H0 : Hp} {D : PyData → Prop} {i j : Nat} {t : Addr} {xs : List V} {ds : List PyData} (hm : mu b) (hb : BagAt H0 b) (hσ : σ[i]? = some (some (.ref b))) (hτ : σ[j]? = some (some (.ref t))) (ht : H0 t = some (.lst xs)) (nt : t ≠ b)
    (e : DtA K mu H0 xs ds) (o : OwnA H0 xs ds) (hD : ∀ d ∈ ds, D d) (h0 : 0 < ds.length) (h1 : ds.length ≤ 1000) : Gv K b mu σ H0 (tCall spSome [] E0 (tCons (tVar i) (tCons (tVar j) tNil))) D := fun H r m Q q => by
  have hv : xs.length = ds.length := e.length
  refine ⟨_, hσ, _, hτ, b, t, xs, rfl, r.bag, nt, r.keep _ _ nt ht, by omega, by omega, fun k v H2 hk r2 => ?_⟩
  obtain ⟨d, hd, ed⟩ := e.get hk
  have f := (r.trans r2).fut hm hb
  exact q v H2 d (hD d (List.mem_of_getElem? hd)) r2 (ed.fut f) ((o k v d hk hd).fut ed f)
/-- a def over the bag (and further arguments) gives a datum of which D holds -/
def spG (K : PySem.W.Frag) (as : List V) (D : PyData → Prop) : Sp := fun vs H Q _ => ∃ (b : Addr) (mu : Addr → Prop), vs = .ref b :: as ∧ mu b ∧ BagAt H b ∧ MuOk mu H ∧ ∀ v H' d, D d → Rel b H H' → Dt K mu H' v d → Own H' v d → Q v H'
/-- a drawn FRACTION above 0 -/
def NumP (n m : Int) : Prop := 1 ≤ n ∧ n ≤ 1000000000000 ∧ 1 ≤ m ∧ m ≤ 1000000000000 ∧ gI n m = 1
def NumD (d : PyData) : Prop := ∃ n m, d = .tuple [.int n, .int m] ∧ NumP n m
def spNum (K : PySem.W.Frag) : Sp := fun vs H Q E => ∃ most : Int, 0 < most ∧ most ≤ 100000000 ∧ spG K [.int most] NumD vs H Q E
theorem ge_num {K : PySem.W.Frag} {b : Addr} {mu : Addr → Prop} {σ : L2.St} {H0 : Hp} {i : Nat} {n : Int} (hm : mu b) (hσ : σ[i]? = some (some (.ref b))) (h0 : 0 < n) (h1 : n ≤ 100000000) :
    Gv K b mu σ H0 (tCall (spNum K) [] E0 (tCons (tVar i) (tCons (tC (.int n)) tNil))) NumD := fun H hb m Q q =>
  ⟨_, hσ, n, h0, h1, b, mu, rfl, hm, hb.bag, m, q⟩
theorem numD {n m : Int} (h : NumP n m) : NumD (.tuple [.int n, .int m]) := ⟨n, m, rfl, h⟩
theorem int_pow {n : Int} (h1 : 1 ≤ n) (h2 : n ≤ 1000000000000) : n.natAbs < 10 ^ 500 := by
  have e : (1000000000000 : Nat) < 10 ^ 500 := by decide +kernel
  omega
theorem NumD.not {H : Hp} {v : V} {d : PyData} (h : NumD d) : Own H v d := by
  obtain ⟨n, m, rfl, _⟩ := h
  exact own_not fun _ z => nomatch z
theorem numD_ok {d : PyData} (h : NumD d) : Ok d ∧ d.hasDict = false ∧ d.weight ≤ 202 ∧ d.depth = 1 := by
  obtain ⟨n, m, rfl, h1, h2, h3, h4, _⟩ := h
  have w : ∀ i : Int, 1 ≤ i → i ≤ 1000000000000 → (PyData.int i).weight ≤ 100 := fun i a b => by
    have hz : i.natAbs ≠ 0 := by omega
    have e : i.natAbs.log2 < 40 := (Nat.log2_lt hz).mpr (by omega)
    simp only [PyData.weight]
    split <;> omega
  have w1 := w n h1 h2
  have w2 := w m h3 h4
  have e1 : (PyData.tuple [.int n, .int m]).weight ≤ 202 := by
    simp only [PyData.weight, PyData.weightAll] at w1 w2 ⊢
    omega
  have e2 : (PyData.tuple [.int n, .int m]).depth = 1 := by
    simp [PyData.depth, PyData.depthAll]
  refine ⟨⟨?_, by rw [e2]; decide, by omega⟩, by simp [PyData.hasDict, PyData.hasDictAll], e1, e2⟩
  simp only [okD, okA, Bool.and_true, Bool.and_eq_true, decide_eq_true_eq]
  exact ⟨int_pow h1 h2, int_pow h3 h4⟩
end Sw
/-! Own exceptions as values: made by their own __init__, fields read, classes asked. -/
namespace Sw
open PySem PySem.Spec PyProof.Rows L2

/-- C(e, ..), an error as a value -/
def tMkV (C : Addr) (sp : Sp) (ta : TA) : TE := fun σ H Q => ta σ H fun vs H1 => vs.length ≤ 1000 ∧ ∀ a, H1 a = none → sp (.ref a :: vs) (upd H1 a (exo a C none)) (fun v H2 => v = .non ∧ Q (.ref a) H2) E0
theorem pe_exV {X : Cx} {x : Str} {C fI : Addr} {k : Nat} {fd : FuncData} {ps : List Str} {sp : Sp} {e : Expr} {es : List Expr} {ta : TA} {p pos : Pos} (T : OexC X.K C) (iC : PySem.W.findIn X.K (.ref C) "__init__" = some (some (.ref fI))) (tI : PySem.W.typeIn X.K (.ref fI) = some (.type "function"))
    (F1 : FnG X.prog X.w X.K X.mg X.base k fI fd ps sp) (g : Gd X.A) (hr : Room (k + 1) X.A) (hb : Binds X.K fd ps []) (hg : Gl X x) (hm : X.mg x = some (.ref C)) (ha : PA X (e :: es) ta)
    (hdb : (x == ("__debug__" : Str)) = false := by decide) (he : starEach (e :: es) X.env = (false, eval e X.env) :: starEach es X.env := by rfl) (hpl : (backTo pos (starEach es X.env)).any (·.1) = false := by rfl) :
    PE X (.Call (.Name x p) (e :: es) [] pos) (tMkV C sp ta) := by
  refine ⟨fun pins s σ H Q I h => ?_⟩
  obtain ⟨nm, q, N, bs, bm, sn, sub, ab, col, dd, k0, k1, k2, k3, k5, hC, hbm⟩ := T.cls
  refine wpAny_Call_Name_kw (ld_glob I hg hm ?_ hdb)
  refine PySem.W.callWith_K (h₀ := X.base) I.ok.mod.kin T.kC (thn (ha.run pos pins s σ H _ I h) fun us s1 ⟨vs, H1, I1, r1, hz, q1⟩ => ⟨I1.kIn, ?_⟩) he hpl
  show wpAny _ _ (call (.ref C) us) _ _ _
  obtain ⟨hp, g1, dr, tk, os⟩ := s1
  have hsz : hp.objs.size ≤ hp.objs.size + 1 := Nat.le_succ _
  have hn : H1 (hp.objs.size + 1) = none := I1.hok.fresh hsz
  have hq := q1 (hp.objs.size + 1) hn
  have kk : ∀ b o, hp.get? b = some o → ((hp.push (PySem.W.kdv_tup us)).push (PySem.HandSPX.excO C hp.objs.size)).get? b = some o := fun b o e => Heap.get?_push_of_some _ (Heap.get?_push_of_some _ e)
  have hget : ((hp.push (PySem.W.kdv_tup us)).push (PySem.HandSPX.excO C hp.objs.size)).get? (hp.objs.size + 1) = some (PySem.HandSPX.excO C hp.objs.size) := by heap_get
  have I2 : Inv X pins σ (upd H1 (hp.objs.size + 1) (exo (hp.objs.size + 1) C none)) ⟨(hp.push (PySem.W.kdv_tup us)).push (PySem.HandSPX.excO C hp.objs.size), g1, dr, tk, os⟩ :=
    I1.laid (t' := tk) (a := hp.objs.size + 1) (o := exo (hp.objs.size + 1) C none) (h' := (hp.push (PySem.W.kdv_tup us)).push (PySem.HandSPX.excO C hp.objs.size)) kk hsz (exo_ok hget)
  have r2 : Vals (V.ref (hp.objs.size + 1) :: vs) (Value.ref (hp.objs.size + 1) :: us) := .cons rfl r1
  have hl : (Value.ref (hp.objs.size + 1) :: us).length = ps.length := r2.length.symm.trans (F1.len _ _ _ _ hq)
  have hus : us.length ≤ sizeLine := by
    rw [← Paired.length r1, sizeLine_eq]
    omega
  have hbb := hb ⟨(hp.push (PySem.W.kdv_tup us)).push (PySem.HandSPX.excO C hp.objs.size), g1, dr, tk, os⟩ (Value.ref (hp.objs.size + 1) :: us) I2.kIn (by simpa using hl)
  rw [List.append_nil] at hbb
  refine wpAny_call (PySem.HandSPX.call_own F.excBase_ValueError (fun Y => PySem.HandSPX.refsVE_contains Y bm hbm) (I1.kIn _ _ hC) (PySem.W.looks_findIn I1.kIn iC) (fun self => PySem.W.bind_fn I1.kIn self tI) hus
    (codeAny_mono (F1.go (Gd.make g C us []) (hr.make C us []) (I2.env0.make C us []) hbb r2 hq) fun r s' hq' => ?_))
  match r, hq' with
  | .ok (.ret u), hq' =>
    obtain ⟨v, H2, I3, rv, ev, q2⟩ := I2.after hq'
    subst ev
    exact ⟨rv, .ref (hp.objs.size + 1), H2, I3, rfl, q2⟩
/-- C(), C without an own __init__ -/
def tMk0 (C : Addr) : TE := fun σ H Q => ∀ a, H a = none → Q (.ref a) (upd H a (exo a C none))
theorem pe_ex0 {X : Cx} {C : Addr} {bmB : List Value} {B newId initId : String} {x : Str} {p pos : Pos} (F : ExcBaseFacts B newId initId bmB) (q : PySem.W.excIn X.K C bmB newId = true) (gC : X.mg x = some (.ref C)) (kC : PySem.W.keepIn X.K (.ref C) = true) (hg : Gl X x)
    (hdb : (x == ("__debug__" : Str)) = false := by decide) :
    PE X (.Call (.Name x p) [] [] pos) (tMk0 C) := by
  refine ⟨fun pins s σ H Q I h => ?_⟩
  refine wpAny_Call_Name_kw (ld_glob I hg gC (PySem.W.callWith_K0 I.kIn kC ?_) hdb)
  obtain ⟨bm, N, nm, qn, bs, hdct, sn, sub, ab, col, dd, k0, k1, k2, k3, k5, mN, hC, hN, hni, T⟩ := exc_obj I.kIn q
  refine wpAny_call_exc_subT F T hC hN hni (fun h' a hm => ?_) (by show 0 ≤ sizeLine; rw [sizeLine_eq]; omega)
  have hn : H a = none := I.hok.gone hm.new
  obtain ⟨t, ht, _, _⟩ := hm.there
  exact ⟨.ref a, upd H a (exo a C none), I.laidN hm.keeps hm.new hn (exo_ok ht), rfl, h a hn⟩
/-- e.f, e an own error whose dict is known -/
def tXv (K : PySem.W.Frag) (f : Str) (te : TE) : TE := fun σ H Q => te σ H fun x H1 => ∃ (a C dx : Addr) (fs : List (Str × V)) (v : V), x = .ref a ∧ XfC K C ∧ PySem.W.findIn K (.ref C) f = some none ∧ H1 a = some (exo a C (some dx)) ∧ H1 dx = some (exd dx fs) ∧ fs.lookup f = some v ∧ Q v H1
theorem pe_xv {X : Cx} {e : Expr} {te : TE} {pos : Pos} {n : Str} (he : PE X e te) (hb : attributeBase e n X.env (eval e X.env) = eval e X.env := by rfl) :
    PE X (.Attribute e n pos) (tXv X.K n te) := by
  refine ⟨fun pins s σ H Q I h => ?_⟩
  refine attr_of hb (thn (he.run pins s σ H _ I h) fun u s1 hh => ?_)
  obtain ⟨x, H1, I1, rx, a, C, dx, fs, v, rfl, T, hno, ea, ed, l, q⟩ := hh
  obtain rfl : u = Value.ref a := rx
  obtain ⟨t1, ho⟩ := exo_at I1.hok ea
  obtain ⟨mA, hns, hr⟩ := exd_at I1.hok ed
  obtain ⟨od, hod, hl⟩ := lookIn_ns hns
  obtain ⟨u, hu, ru⟩ := RelO.some_of (v := v) (o := mA n) (by rw [← l]; exact hr n)
  have J : PySem.W.InstAt s1.heap a { cls := .ref C, dict := some dx, data := .fields #[.ref t1, .none, .none, .none, .bool false, .none] } C (some od) := ⟨ho, rfl, rfl, hod⟩
  exact HandSPX.exc_get I1.kIn J T.ga T.gg T.exC (PySem.W.findObj_own T.hdC hno rfl (by rw [hl, hu])) (handed_of ru) ⟨v, H1, I1.tok _, ru, q⟩
/-- isinstance(e, c), e an own error -/
def rIsX (K : PySem.W.Frag) : List V → Hp → VK → Prop := fun xs H Q => ∃ (a D : Addr) (dx : Option Addr) (c : V) (cv : Value) (b : Bool), xs = [.ref a, c] ∧ ExcC K D ∧ H a = some (exo a D dx) ∧ (∀ d, dx = some d → ∃ fs, H d = some (exd d fs)) ∧ (∀ u, RelV c u → u = cv) ∧ PySem.W.kitOne K (.ref D) cv = some b ∧ Q (.bl b) H
theorem call_isX {X : Cx} : CallR X (.builtin "isinstance") (rIsX X.K) := by
  intro pins s σ H xs us Q I r h
  obtain ⟨a, D, dx, c, cv, b, rfl, C, ea, hd, hcv, e, q⟩ := h
  cases r with
  | cons rx rr =>
    cases rr with
    | cons rt rr =>
      cases rr
      cases rx
      have ec := hcv _ rt
      subst ec
      obtain ⟨t1, ho⟩ := exo_at I.hok ea
      have hcl : (PySem.W.clsIn X.K D).isSome = true := by
        obtain ⟨cd, hc, _⟩ := PySem.W.any_some C.hd
        rw [hc]
        rfl
      have J : ∃ od, PySem.W.InstAt s.heap a { cls := .ref D, dict := dx, data := .fields #[.ref t1, .none, .none, .none, .bool false, .none] } D od := by
        cases dx with
        | none => exact ⟨none, ho, rfl, rfl, trivial⟩
        | some d =>
          obtain ⟨fs, ed⟩ := hd d rfl
          obtain ⟨mA, hns, _⟩ := exd_at I.hok ed
          obtain ⟨o, es, ep, e1, _⟩ := hns
          exact ⟨some o, ho, rfl, rfl, e1⟩
      obtain ⟨od, J⟩ := J
      exact PySem.W.kia_one (PySem.W.kitx_exc hcl C.hg C.hk C.hs C.ha C.hn C.ht C.hm) I.kIn J e (fun z => nomatch z) fun tk => ⟨.bl b, H, I.kept (t' := tk) fun _ _ z => z, rfl, q⟩
/-- __init__(self, y): self.f = y -/
def spInit1 (K : PySem.W.Frag) (C : Addr) (f : Str) : Sp := fun vs H Q _ => ∃ (a : Addr) (y : V), vs = [.ref a, y] ∧ H a = some (exo a C none) ∧ ∀ d, H d = none → d ≠ a → Q .non (upd (upd H d (exd d [(f, y)])) a (exo a C (some d)))
def spInit2 (K : PySem.W.Frag) (C : Addr) (f g : Str) : Sp := fun vs H Q _ => ∃ (a : Addr) (y z : V), vs = [.ref a, y, z] ∧ H a = some (exo a C none) ∧ ∀ d H', H d = none → d ≠ a → H' a = some (exo a C (some d)) → H' d = some (exd d [(g, z), (f, y)]) → (∀ b, b ≠ a → b ≠ d → H' b = H b) → Q .non H'
/-- a tuple's display, not to be looked into -/
@[irreducible] def tTupI (t : TA) : TE := tTup t
theorem pe_tupI {X : Cx} {es : List Expr} {k : Nat} {t : TA} {pos : Pos} (h : PA X es t) : PE X (.Tuple es k pos) (tTupI t) := by
  unfold tTupI
  exact pe_tup h
theorem pg_tupK {X : Cx} {K : PySem.W.Frag} {es : List Expr} {k : Nat} {t : TGs} {n : Nat} {pos : Pos} (hK : X.K = K) (hc : X.calm = true) (h : PGs X es t)
    (hn : (assignEach es X.env).length = n := by rfl) (hst : (assignEach es X.env).findIdx? (·.1) = none := by rfl) : PG X (.Tuple es k pos) (gTup K n t) := by
  subst hK
  exact pg_tup hc h hn hst
/-- the module's name x is an error class whose __init__ keeps sp -/
structure ExV (P : Program) (w : World) (K : PySem.W.Frag) (mg : Str → Option Value) (base : Heap) (x : Str) (C : Addr) (sp : Sp) : Prop where
  hm : mg x = some (.ref C)
  oex : OexC K C
  fn : ∃ (fI : Addr) (fd : FuncData) (ps : List Str), PySem.W.findIn K (.ref C) "__init__" = some (some (.ref fI)) ∧ PySem.W.typeIn K (.ref fI) = some (.type "function") ∧ FnG P w K mg base 1 fI fd ps sp ∧ Binds K fd ps []
theorem pex {X : Cx} {x : Str} {C : Addr} {j : Nat} {sp : Sp} {e : Expr} {es : List Expr} {ta : TA} {p pos : Pos} (c : ExV X.prog X.w X.K X.mg X.base x C sp) (g : Gd X.A) (hr : Room j X.A) (hk : 2 ≤ j) (hg : Gl X x) (ha : PA X (e :: es) ta)
    (hdb : (x == ("__debug__" : Str)) = false := by decide) (he : starEach (e :: es) X.env = (false, eval e X.env) :: starEach es X.env := by rfl) (hpl : (backTo pos (starEach es X.env)).any (·.1) = false := by rfl) :
    PE X (.Call (.Name x p) (e :: es) [] pos) (tMkV C sp ta) := by
  obtain ⟨fI, fd, ps, iC, tI, F, b⟩ := c.fn
  exact pe_exV c.oex iC tI F g (hr.mono hk) b hg c.hm ha hdb he hpl
/-- .. without an own __init__ -/
structure Ex0 (K : PySem.W.Frag) (mg : Str → Option Value) (x : Str) (C : Addr) : Prop where
  hm : mg x = some (.ref C)
  kC : PySem.W.keepIn K (.ref C) = true
  q : PySem.W.excIn K C [.type "ValueError", .type "Exception", .type "BaseException", .type "object"] "ValueError.__new__" = true
theorem px0 {X : Cx} {x : Str} {C : Addr} {p pos : Pos} (c : Ex0 X.K X.mg x C) (hg : Gl X x) (hdb : (x == ("__debug__" : Str)) = false := by decide) :
    PE X (.Call (.Name x p) [] [] pos) (tMk0 C) := pe_ex0 F.excBase_ValueError c.q c.hm c.kC hg hdb
end Sw
/-! Fractions in lowest terms, by integers. -/
namespace Sw
open PySem PySem.Spec PyProof.Rows L2

/-- nothing but 1 divides both -/
def Cp (a b : Int) : Prop := Nat.Coprime a.natAbs b.natAbs
theorem Cp.of {a b : Int} (h : ∀ k : Nat, (k : Int) ∣ a → (k : Int) ∣ b → k = 1) : Cp a b := by
  refine h _ ?_ ?_
  · exact Int.ofNat_dvd_left.mpr (Nat.gcd_dvd_left _ _)
  · exact Int.ofNat_dvd_left.mpr (Nat.gcd_dvd_right _ _)
theorem Cp.one {a b : Int} (c : Cp a b) {k : Nat} (h1 : (k : Int) ∣ a) (h2 : (k : Int) ∣ b) : k = 1 := by
  have h := Nat.dvd_gcd (Int.ofNat_dvd_left.mp h1) (Int.ofNat_dvd_left.mp h2)
  rw [show Nat.gcd a.natAbs b.natAbs = 1 from c] at h
  exact Nat.dvd_one.mp h
theorem Cp.symm {a b : Int} (h : Cp a b) : Cp b a := Nat.Coprime.symm h
theorem Cp.left {a b c : Int} (h : Cp a b) (d : c ∣ a) : Cp c b := .of fun _ h1 h2 => h.one (Int.dvd_trans h1 d) h2
theorem Cp.right {a b c : Int} (h : Cp a b) (d : c ∣ b) : Cp a c := (h.symm.left d).symm
theorem Cp.mul {a b c : Int} (h1 : Cp a b) (h2 : Cp a c) : Cp a (b * c) := by
  unfold Cp
  rw [Int.natAbs_mul]
  exact Nat.Coprime.mul_right h1 h2
theorem Cp.mulL {a b c : Int} (h1 : Cp a c) (h2 : Cp b c) : Cp (a * b) c := (h1.symm.mul h2.symm).symm
theorem Cp.add {a b k : Int} (h : Cp a b) : Cp (a + k * b) b := .of fun j h1 h2 => by
  have h3 : (j : Int) ∣ k * b := Int.dvd_trans h2 (Int.dvd_mul_left k b)
  have h4 : (j : Int) ∣ (a + k * b) - k * b := Int.dvd_sub h1 h3
  rw [Int.add_sub_cancel] at h4
  exact h.one h4 h2
theorem Cp.neg {a b : Int} (h : Cp a b) : Cp (-a) b := by
  unfold Cp
  rw [Int.natAbs_neg]
  exact h
theorem Cp.dvd {a b c : Int} (h : Cp a b) (d : a ∣ b * c) : a ∣ c := by
  rw [← Int.natAbs_dvd_natAbs] at d ⊢
  rw [Int.natAbs_mul] at d
  exact Nat.Coprime.dvd_of_dvd_mul_left h d
theorem gI_cp {a b : Int} : gI a b = 1 ↔ Cp a b := by
  unfold gI Cp Nat.Coprime
  omega
theorem gI_dvd (a b : Int) : gI a b ∣ a ∧ gI a b ∣ b := ⟨Int.ofNat_dvd_left.mpr (Nat.gcd_dvd_left _ _), Int.ofNat_dvd_left.mpr (Nat.gcd_dvd_right _ _)⟩
theorem gI_pos {a b : Int} (h : b ≠ 0) : 0 < gI a b := by
  have : 0 < Nat.gcd a.natAbs b.natAbs := Nat.gcd_pos_of_pos_right _ (by omega)
  unfold gI
  omega
/-- by the common divisor, nothing common is left -/
theorem cp_div {a b : Int} (h : b ≠ 0) : Cp (a / gI a b) (b / gI a b) := by
  have g := gI_pos (a := a) h
  obtain ⟨⟨x, hx⟩, y, hy⟩ := gI_dvd a b
  have ex : a / gI a b = x := Int.ediv_eq_of_eq_mul_right (by omega) hx
  have ey : b / gI a b = y := Int.ediv_eq_of_eq_mul_right (by omega) hy
  rw [ex, ey]
  have e1 : x.natAbs = a.natAbs / Nat.gcd a.natAbs b.natAbs := by
    have := congrArg Int.natAbs hx
    rw [Int.natAbs_mul] at this
    unfold gI at this g
    rw [Int.natAbs_natCast] at this
    exact (Nat.div_eq_of_eq_mul_right (by omega) this).symm
  have e2 : y.natAbs = b.natAbs / Nat.gcd a.natAbs b.natAbs := by
    have := congrArg Int.natAbs hy
    rw [Int.natAbs_mul] at this
    unfold gI at this g
    rw [Int.natAbs_natCast] at this
    exact (Nat.div_eq_of_eq_mul_right (by omega) this).symm
  unfold Cp
  rw [e1, e2]
  exact Nat.coprime_div_gcd_div_gcd (Nat.gcd_pos_of_pos_right _ (by omega))
/-- a FRACTION -/
structure Fr (n d : Int) : Prop where
  pos : 0 < d
  cp : Cp n d
theorem fr_eq {n d p q : Int} (h1 : Fr n d) (h2 : Fr p q) (e : n * q = p * d) : n = p ∧ d = q := by
  have a : d ∣ q := h1.cp.symm.dvd (by rw [e]; exact Int.dvd_mul_left p d)
  have b : q ∣ d := h2.cp.symm.dvd (by rw [← e]; exact Int.dvd_mul_left n q)
  have c : d = q := Int.dvd_antisymm (Int.le_of_lt h1.pos) (Int.le_of_lt h2.pos) a b
  subst c
  exact ⟨Int.eq_of_mul_eq_mul_right (by have := h1.pos; omega) e, rfl⟩
theorem redI_fr {x y : Int} (h : y ≠ 0) : Fr (redI x y).1 (redI x y).2 ∧ (redI x y).1 * y = x * (redI x y).2 := by
  have g := gI_pos (a := x) h
  obtain ⟨⟨a, ha⟩, b, hb⟩ := gI_dvd x y
  have ex : x / gI x y = a := Int.ediv_eq_of_eq_mul_right (by omega) ha
  have ey : y / gI x y = b := Int.ediv_eq_of_eq_mul_right (by omega) hb
  have c := cp_div (a := x) h
  rw [ex, ey] at c
  have cross : a * y = x * b := by
    generalize gI x y = k at ha hb
    subst ha hb
    simp only [Int.mul_left_comm, Int.mul_comm]
  unfold redI
  rw [sh_eq h]
  by_cases hy : y < 0
  · rw [if_pos hy, Int.neg_ediv_of_dvd (gI_dvd x y).1, Int.neg_ediv_of_dvd (gI_dvd x y).2, ex, ey]
    refine ⟨⟨?_, ?_⟩, ?_⟩
    · show 0 < -b
      have : b < 0 := by
        rcases Int.lt_or_le b 0 with z | z
        · exact z
        · have := Int.mul_nonneg (Int.le_of_lt g) z
          omega
      omega
    · show Cp (-a) (-b)
      exact (c.neg.symm.neg).symm
    · show -a * y = x * -b
      rw [Int.neg_mul, Int.mul_neg, cross]
  · rw [if_neg hy, ex, ey]
    refine ⟨⟨?_, c⟩, cross⟩
    show 0 < b
    rcases Int.lt_or_le 0 b with z | z
    · exact z
    · have := Int.mul_nonneg (Int.le_of_lt g) (show 0 ≤ -b by omega)
      rw [Int.mul_neg] at this
      omega
theorem redI_eq {x y p q : Int} (h : y ≠ 0) (f : Fr p q) (e : x * q = p * y) : redI x y = (p, q) := by
  obtain ⟨h1, h2⟩ := redI_fr (x := x) h
  have key : (redI x y).1 * q = p * (redI x y).2 := by
    have e3 : ((redI x y).1 * q) * y = (p * (redI x y).2) * y := by
      calc ((redI x y).1 * q) * y = ((redI x y).1 * y) * q := by rw [Int.mul_assoc, Int.mul_comm q y, ← Int.mul_assoc]
        _ = (x * (redI x y).2) * q := by rw [h2]
        _ = (x * q) * (redI x y).2 := by rw [Int.mul_assoc, Int.mul_comm (redI x y).2 q, ← Int.mul_assoc]
        _ = (p * y) * (redI x y).2 := by rw [e]
        _ = (p * (redI x y).2) * y := by rw [Int.mul_assoc, Int.mul_comm y, ← Int.mul_assoc]
    exact Int.eq_of_mul_eq_mul_right h e3
  obtain ⟨a, b⟩ := fr_eq h1 f key
  exact Prod.ext a b
/-- the program's own sum is in lowest terms -/
theorem add_red {n d m e : Int} (h1 : Fr n d) (h2 : Fr m e) : redI (n * e + m * d) (d * e) =
    ((n * (e / gI d e) + m * (d / gI d e)) / gI (n * (e / gI d e) + m * (d / gI d e)) (gI d e), d / gI d e * (e / gI (n * (e / gI d e) + m * (d / gI d e)) (gI d e))) := by
  have he : e ≠ 0 := by have := h2.pos; omega
  have hd : d ≠ 0 := by have := h1.pos; omega
  have gp := gI_pos (a := d) he
  have hdvd := gI_dvd d e
  have hc := cp_div (a := d) he
  obtain ⟨d1, ed⟩ := hdvd.1
  obtain ⟨e1, ee⟩ := hdvd.2
  have qd : d / gI d e = d1 := Int.ediv_eq_of_eq_mul_right (by omega) ed
  have qe : e / gI d e = e1 := Int.ediv_eq_of_eq_mul_right (by omega) ee
  rw [qd, qe] at hc ⊢
  generalize hg : gI d e = c at *
  have hc0 : c ≠ 0 := by omega
  -- part and what it shares with c
  have lp := gI_pos (a := n * e1 + m * d1) hc0
  have ldv := gI_dvd (n * e1 + m * d1) c
  have lcp := cp_div (a := n * e1 + m * d1) hc0
  obtain ⟨p, ep⟩ := ldv.1
  obtain ⟨r, er⟩ := ldv.2
  have qp : (n * e1 + m * d1) / gI (n * e1 + m * d1) c = p := Int.ediv_eq_of_eq_mul_right (by omega) ep
  have qr : c / gI (n * e1 + m * d1) c = r := Int.ediv_eq_of_eq_mul_right (by omega) er
  rw [qp, qr] at lcp
  rw [qp]
  generalize hl : gI (n * e1 + m * d1) c = l at *
  have ee2 : e = l * (r * e1) := by rw [ee, er, Int.mul_assoc]
  have qe2 : e / l = r * e1 := Int.ediv_eq_of_eq_mul_right (by omega) ee2
  rw [qe2]
  have d1p : 0 < d1 := by
    have := h1.pos
    rcases Int.lt_or_le 0 d1 with z | z
    · exact z
    · have := Int.mul_nonneg (Int.le_of_lt gp) (show 0 ≤ -d1 by omega)
      rw [Int.mul_neg] at this
      omega
  have rp : 0 < r * e1 := by
    have := h2.pos
    rcases Int.lt_or_le 0 (r * e1) with z | z
    · exact z
    · have := Int.mul_nonneg (Int.le_of_lt lp) (show 0 ≤ -(r * e1) by omega)
      rw [Int.mul_neg] at this
      omega
  have pd : p ∣ n * e1 + m * d1 := by rw [ep]; exact Int.dvd_mul_left l p
  have c1 : Cp p d1 := ((Cp.add (k := m) ((h1.cp.right (by rw [ed]; exact Int.dvd_mul_left c d1)).mulL hc.symm)).left pd)
  have c2 : Cp p e1 := by
    refine Cp.left (a := m * d1 + n * e1) (Cp.add (k := n) ((h2.cp.right (by rw [ee]; exact Int.dvd_mul_left c e1)).mulL hc)) ?_
    rw [Int.add_comm]
    exact pd
  refine redI_eq (Int.mul_ne_zero hd he) ⟨Int.mul_pos d1p rp, c1.mul (lcp.mul c2)⟩ ?_
  have e4 : n * e + m * d = c * (l * p) := by
    rw [← ep]
    conv =>
      lhs
      rw [ee, ed]
    rw [Int.mul_add, Int.mul_left_comm, Int.mul_left_comm c m]
  rw [e4]
  conv =>
    rhs
    rw [ed, ee2]
  simp only [Int.mul_assoc, Int.mul_comm, Int.mul_left_comm]
/-- .. its product -/
theorem mul_red {n d m e : Int} (h1 : Fr n d) (h2 : Fr m e) : redI (n * m) (d * e) = (n / gI n e * (m / gI m d), d / gI m d * (e / gI n e)) := by
  have he : e ≠ 0 := by have := h2.pos; omega
  have hd : d ≠ 0 := by have := h1.pos; omega
  have g1 := gI_pos (a := n) he
  have g2 := gI_pos (a := m) hd
  have k1 := cp_div (a := n) he
  have k2 := cp_div (a := m) hd
  have v1 := gI_dvd n e
  have v2 := gI_dvd m d
  generalize gI n e = l at *
  generalize gI m d = r at *
  obtain ⟨n1, en⟩ := v1.1
  obtain ⟨e1, ee⟩ := v1.2
  obtain ⟨m1, em⟩ := v2.1
  obtain ⟨d1, ed⟩ := v2.2
  rw [Int.ediv_eq_of_eq_mul_right (by omega) en, Int.ediv_eq_of_eq_mul_right (by omega) ee] at *
  rw [Int.ediv_eq_of_eq_mul_right (by omega) em, Int.ediv_eq_of_eq_mul_right (by omega) ed] at *
  have d1p : 0 < d1 := by
    have := h1.pos
    rcases Int.lt_or_le 0 d1 with z | z
    · exact z
    · have := Int.mul_nonneg (Int.le_of_lt g2) (show 0 ≤ -d1 by omega)
      rw [Int.mul_neg] at this
      omega
  have e1p : 0 < e1 := by
    have := h2.pos
    rcases Int.lt_or_le 0 e1 with z | z
    · exact z
    · have := Int.mul_nonneg (Int.le_of_lt g1) (show 0 ≤ -e1 by omega)
      rw [Int.mul_neg] at this
      omega
  have n1n : n1 ∣ n := by rw [en]; exact Int.dvd_mul_left l n1
  have m1m : m1 ∣ m := by rw [em]; exact Int.dvd_mul_left r m1
  have d1d : d1 ∣ d := by rw [ed]; exact Int.dvd_mul_left r d1
  have e1e : e1 ∣ e := by rw [ee]; exact Int.dvd_mul_left l e1
  refine redI_eq (Int.mul_ne_zero hd he) ⟨Int.mul_pos d1p e1p, Cp.mulL (((h1.cp.left n1n).right d1d).mul k1) (k2.mul ((h2.cp.left m1m).right e1e))⟩ ?_
  conv =>
    lhs
    rw [en, em]
  conv =>
    rhs
    rw [ed, ee]
  simp only [Int.mul_assoc, Int.mul_comm, Int.mul_left_comm]
/-- // by what is not 0 -/
def CDivA (_ j : Int) : Prop := j ≠ 0 ∧ j.natAbs.log2 < 9000
theorem op_fdivA {X : Cx} : OpR X (binaryOp .FloorDiv) (rI CDivA fun i j => .int (i.fdiv j)) := opI fun _ _ _ _ _ _ _ hc q => floordiv_int hc.1 q (.inl (PyProof.noPylong_of_log2 hc.2))
theorem log_lt {j : Int} (h : j.natAbs < 2 ^ 8000) : j.natAbs.log2 < 9000 := Nat.lt_of_lt_of_le (PySem.Flt.log2_lt_of (by decide) h) (by decide)
theorem mulW {i j : Int} (h1 : i.natAbs < 2 ^ 8000) (h2 : j.natAbs < 2 ^ 8000) : CMulW i j := wide_mul h1 h2 (by decide) (by decide) (by decide)
theorem divW {i j : Int} (h0 : 0 < j) (h1 : j.natAbs < 2 ^ 8000) : CDivW i j := wide_div h0 h1 (by decide) (by decide)
theorem gI_le {a b : Int} (h : b ≠ 0) : (gI a b).natAbs ≤ b.natAbs := by
  unfold gI
  rw [Int.natAbs_natCast]
  exact Nat.le_of_dvd (by omega) (Nat.gcd_dvd_right _ _)
theorem div_le {a c : Int} : (a / c).natAbs ≤ a.natAbs := Int.natAbs_ediv_le_natAbs a c
theorem natAbs_lt_mul {i j : Int} {a b : Nat} (h1 : i.natAbs < 2 ^ a) (h2 : j.natAbs < 2 ^ b) : (i * j).natAbs < 2 ^ (a + b) := wide_lt h1 h2
theorem natAbs_lt_add {i j : Int} {a : Nat} (h1 : i.natAbs < 2 ^ a) (h2 : j.natAbs < 2 ^ a) : (i + j).natAbs < 2 ^ (a + 1) := by
  rw [Nat.pow_succ]
  omega
theorem red_fdiv {n d : Int} (h : d ≠ 0) : (n.fdiv (if d < 0 then -gI n d else gI n d), d.fdiv (if d < 0 then -gI n d else gI n d)) = redI n d := by
  have g := gI_pos (a := n) h
  obtain ⟨g1, g2⟩ := gI_dvd n d
  unfold redI
  rw [sh_eq h]
  by_cases hd : d < 0
  · rw [if_pos hd, if_pos hd, Int.fdiv_eq_ediv_of_dvd (Int.neg_dvd.mpr g1), Int.fdiv_eq_ediv_of_dvd (Int.neg_dvd.mpr g2), Int.ediv_neg, Int.ediv_neg, Int.neg_ediv_of_dvd g1, Int.neg_ediv_of_dvd g2]
  · rw [if_neg hd, if_neg hd, Int.fdiv_eq_ediv_of_dvd g1, Int.fdiv_eq_ediv_of_dvd g2]
/-- a couple of integers stands at v -/
def Cpl (K : PySem.W.Frag) (H : Hp) (v : V) (n d : Int) : Prop := ∃ a, v = .ref a ∧ SqT K H a [.int n, .int d]
theorem Cpl.same {K : PySem.W.Frag} {H H' : Hp} {v : V} {n d : Int} (h : Cpl K H v n d) (s : Same H H') : Cpl K H' v n d := by
  obtain ⟨a, rfl, r⟩ := h
  exact ⟨a, rfl, s.seqT r⟩
theorem Cpl.mk {K : PySem.W.Frag} {H : Hp} {p : Addr} {n d : Int} (h : H p = some (.tup [.int n, .int d])) : Cpl K H (.ref p) n d := ⟨p, rfl, .inl (.inl h)⟩
/-- a new couple -/
def Res (Q : VK) (H : Hp) (r : Int × Int) : Prop := ∀ p H', Same H H' → H p = none → H' p = some (.tup [.int r.1, .int r.2]) → Q (.ref p) H'
theorem Res.now {Q : VK} {H H' : Hp} {r : Int × Int} {x y : Int} (h : Res Q H r) (s : Same H H') (e : r = (x, y)) : ∀ p, H' p = none → Q (.ref p) (upd H' p (.tup [.int x, .int y])) := fun p np => by
  subst e
  refine h p _ (s.trans (same_upd np)) ?_ upd_same
  cases z : H p with
  | none => rfl
  | some o =>
    rw [s _ _ z] at np
    cases np
theorem redI_neg {x y : Int} (h : y ≠ 0) : redI (-x) (-y) = redI x y := by
  obtain ⟨f, e⟩ := redI_fr (x := x) h
  have z := redI_eq (x := -x) (y := -y) (p := (redI x y).1) (q := (redI x y).2) (by omega) f (by rw [Int.neg_mul, Int.mul_neg, e])
  rw [z]
theorem Fr.flip {n d : Int} (h : Fr n d) (p : 0 < n) : Fr d n := ⟨p, h.cp.symm⟩
theorem Fr.flipN {n d : Int} (h : Fr n d) (p : n < 0) : Fr (-d) (-n) := ⟨by omega, h.cp.neg.symm.neg⟩
theorem Fr.neg {n d : Int} (h : Fr n d) : Fr (-n) d := ⟨h.pos, h.cp.neg⟩
theorem redI_le {x y : Int} (h : y ≠ 0) : (redI x y).1.natAbs ≤ x.natAbs ∧ (redI x y).2.natAbs ≤ y.natAbs := by
  unfold redI
  split
  · refine ⟨?_, ?_⟩
    · have := div_le (a := -x) (c := sh x y)
      rw [Int.natAbs_neg] at this
      exact this
    · have := div_le (a := -y) (c := sh x y)
      rw [Int.natAbs_neg] at this
      exact this
  · exact ⟨div_le, div_le⟩
theorem Cpl.fut {K : PySem.W.Frag} {mu : Addr → Prop} {H H' : Hp} {v : V} {n d : Int} (h : Cpl K H v n d) (f : Fut mu H H') : Cpl K H' v n d := by
  obtain ⟨a, rfl, (r | ⟨o, r⟩) | r⟩ := h
  · exact ⟨a, rfl, .inl (.inl (f _ _ r (.inr (.inl ⟨_, rfl⟩))))⟩
  · exact ⟨a, rfl, .inl (.inr ⟨o, f _ _ r (.inr (.inr ⟨_, _, rfl⟩))⟩)⟩
  · exact ⟨a, rfl, .inr r⟩
theorem Cpl.dt {K : PySem.W.Frag} {mu : Addr → Prop} {H : Hp} {v : V} {n d : Int} (h : Cpl K H v n d) : Dt K mu H v (.tuple [.int n, .int d]) := by
  obtain ⟨a, rfl, (r | ⟨o, r⟩) | r⟩ := h
  · exact .tup (.inl r) (.cons (.int _) (.cons (.int _) .nil))
  · exact .tup (.inr ⟨o, r⟩) (.cons (.int _) (.cons (.int _) .nil))
  · exact .tupK r (.cons (.int _) (.cons (.int _) .nil))
theorem Dt.cpl {K : PySem.W.Frag} {mu : Addr → Prop} {H : Hp} {v : V} {n d : Int} (h : Dt K mu H v (.tuple [.int n, .int d])) : Cpl K H v n d := by
  obtain ⟨a, xs, rfl, r, ha⟩ := h.tupAt
  obtain ⟨x, y, p, q, rfl, e, h1, h2⟩ := ha.two rfl
  cases e
  cases h1
  cases h2
  exact ⟨a, rfl, r⟩
/-- a row of couples -/
def RowF (K : PySem.W.Frag) (H : Hp) : List V → List (Int × Int) → Prop
  | [], [] => True
  | v :: vs, f :: fs => Cpl K H v f.1 f.2 ∧ RowF K H vs fs
  | _, _ => False
theorem RowF.fut {K : PySem.W.Frag} {mu : Addr → Prop} {H H' : Hp} (f : Fut mu H H') : ∀ {vs : List V} {fs : List (Int × Int)}, RowF K H vs fs → RowF K H' vs fs
  | [], [], _ => True.intro
  | v :: vs, g :: fs, h => ⟨h.1.fut f, RowF.fut f h.2⟩
  | [], _ :: _, h => h.elim
  | _ :: _, [], h => h.elim
theorem RowF.same {K : PySem.W.Frag} {H H' : Hp} {vs : List V} {fs : List (Int × Int)} (h : RowF K H vs fs) (s : Same H H') : RowF K H' vs fs := h.fut (mu := fun _ => False) (.of_same s)
theorem RowF.len {K : PySem.W.Frag} {H : Hp} : ∀ {vs : List V} {fs : List (Int × Int)}, RowF K H vs fs → vs.length = fs.length
  | [], [], _ => rfl
  | v :: vs, g :: fs, h => by rw [List.length_cons, List.length_cons, RowF.len h.2]
  | [], _ :: _, h => h.elim
  | _ :: _, [], h => h.elim
theorem RowF.get {K : PySem.W.Frag} {H : Hp} : ∀ {vs : List V} {fs : List (Int × Int)} {i : Nat} {v : V}, RowF K H vs fs → vs[i]? = some v → ∃ f, fs[i]? = some f ∧ Cpl K H v f.1 f.2
  | [], [], _, _, _, e => by simp at e
  | x :: vs, g :: fs, 0, _, h, e => by
    simp at e
    subst e
    exact ⟨g, rfl, h.1⟩
  | x :: vs, g :: fs, i + 1, v, h, e => by
    obtain ⟨f, h1, h2⟩ := RowF.get (i := i) h.2 (by simpa using e)
    exact ⟨f, by simpa using h1, h2⟩
  | [], _ :: _, _, _, h, _ => h.elim
  | _ :: _, [], _, _, h, _ => h.elim
theorem RowF.getD {K : PySem.W.Frag} {H : Hp} {vs : List V} {fs : List (Int × Int)} {i : Nat} {f : Int × Int} (h : RowF K H vs fs) (e : fs[i]? = some f) : ∃ v, vs[i]? = some v ∧ Cpl K H v f.1 f.2 := by
  have hi : i < vs.length := by rw [h.len]; exact (List.getElem?_eq_some_iff.mp e).1
  obtain ⟨g, h1, h2⟩ := h.get (List.getElem?_eq_getElem hi)
  rw [e] at h1
  cases h1
  exact ⟨_, List.getElem?_eq_getElem hi, h2⟩
theorem RowF.ins {K : PySem.W.Frag} {H : Hp} {v : V} {g : Int × Int} (hv : Cpl K H v g.1 g.2) : ∀ {vs : List V} {fs : List (Int × Int)} (i : Nat), RowF K H vs fs → RowF K H (vs.take i ++ v :: vs.drop i) (fs.take i ++ g :: fs.drop i)
  | vs, fs, 0, h => ⟨hv, h⟩
  | [], [], i + 1, _ => ⟨hv, True.intro⟩
  | x :: vs, f :: fs, i + 1, h => ⟨h.1, RowF.ins hv i h.2⟩
  | [], _ :: _, _ + 1, h => h.elim
  | _ :: _, [], _ + 1, h => h.elim
theorem RowF.dt {K : PySem.W.Frag} {mu : Addr → Prop} {H : Hp} : ∀ {vs : List V} {fs : List (Int × Int)}, RowF K H vs fs → DtA K mu H vs (fs.map fun f => .tuple [.int f.1, .int f.2])
  | [], [], _ => .nil
  | v :: vs, g :: fs, h => .cons h.1.dt (RowF.dt h.2)
  | [], _ :: _, h => h.elim
  | _ :: _, [], h => h.elim
theorem fut_at {H : Hp} {a : Addr} {xs : List V} {o' : HO} (ha : H a = some (.lst xs)) : Fut (fun b => b = a) H (upd H a o') := fun c o e z => by
  have nb : c ≠ a := fun q => by
    rcases z with z | ⟨ys, rfl⟩ | ⟨ob, u, rfl⟩
    · exact z q
    · rw [q, ha] at e
      cases e
    · rw [q, ha] at e
      cases e
  rw [upd_ne nb]
  exact e
theorem shaped_cpl (a b : Int) : SeqAt.shaped (.tuple [.int a, .int b]) = true := by
  simp [SeqAt.shaped, PyData.canLay0, PyData.canLayAll0, PyData.depth, PyData.depthAll]
theorem eqv_cpl (a b c d : Int) : PyData.eqv (.tuple [.int a, .int b]) (.tuple [.int c, .int d]) = decide ((a, b) = (c, d)) := by
  simp only [PyData.eqv, PyData.eqvAll, Bool.and_true, Prod.mk.injEq]
  by_cases h1 : a = c <;> by_cases h2 : b = d <;> simp [h1, h2]
/-- what was not there at first may change as it likes -/
theorem Rel.at {b p : Addr} {H H' : Hp} {o : HO} (R : Rel b H H') (hb : BagAt H b) (np : H p = none) : Rel b H (upd H' p o) := by
  obtain ⟨x0, y0, z0, l0, cs0, hb0, hl0, _⟩ := id hb
  have npb : p ≠ b := fun z => by
    rw [z, hb0] at np
    cases np
  refine ⟨fun a u n e => ?_, fun l hL => ?_, ?_⟩
  · rw [upd_ne (ne_of_none e np)]
    exact R.keep a u n e
  · obtain ⟨x, y, z, e⟩ := R.cell l hL
    exact ⟨x, y, z, by rw [upd_ne npb.symm]; exact e⟩
  · obtain ⟨x, y, z, l, cs, q1, q2, q3, q4⟩ := R.bag
    have el : l0 = l := (R.cell l0 ⟨_, _, _, hb0⟩).eq q1
    have e : l ≠ p := fun e => by
      rw [el, e, np] at hl0
      cases hl0
    exact ⟨x, y, z, l, cs, by rw [upd_ne npb.symm]; exact q1, by rw [upd_ne e]; exact q2, q3, q4⟩
theorem RowF.snoc {K : PySem.W.Frag} {H : Hp} {v : V} {g : Int × Int} (hv : Cpl K H v g.1 g.2) : ∀ {vs : List V} {fs : List (Int × Int)}, RowF K H vs fs → RowF K H (vs ++ [v]) (fs ++ [g])
  | [], [], _ => ⟨hv, True.intro⟩
  | x :: vs, f :: fs, h => ⟨h.1, RowF.snoc hv h.2⟩
  | [], _ :: _, h => h.elim
  | _ :: _, [], h => h.elim
end Sw
/-! sep.join(reversed(a list of texts)). -/
namespace Sw
open PySem PySem.Spec PyProof.Rows L2
section
variable {prog : Program} {w : World} {A : Around} {E : Value → Shared → Prop} {s : Shared}
theorem join_rev {x : Str} {t : Tok} {it l : Addr} {items : Array Value} {ys : List Str} {Q : Value → Shared → Prop} (hh : A.handled = none) (hit : s.heap.IsRevIter it l ((items.size : Int) - 1)) (hl : s.heap.IsList l items) (hne : l ≠ it) (hn : items.size ≤ sizeLine)
    (hP : ∀ acc : Array Value, ItemsOf (fun i v => items[items.size - 1 - i]? = some v) acc items.size → StrsAre acc.toList ys) (hok : (ys.map (·.length)).sum + ys.length * x.length ≤ 16777216)
    (hq : ∀ (h' : Heap), (∀ b o, b ≠ it → s.heap.get? b = some o → h'.get? b = some o) → ∀ (t' : Tok) (k : Nat), Q (.str (Txt.join x ys) t') { s with heap := h', toks := k }) :
    wpAny (model prog w) A (call (.builtin "str.join") [.str x t, .ref it]) Q E s := by
  refine wpAny_call (codeAny_call_builtin F.slot_str_join.plain F.entry_str_join (F.slot_str_join.check _ _ _ _ _ _ _ _ (typeIs_str _ _ _) (F.args_str_join_2 _ _) ?_))
  rw [join_tree_other]
  refine wpAny_bind (wpAny_typeOf hit.typeIs ?_)
  show wpAny _ A.in1 ((pyIter (.ref it)).tryCatch _ >>= fun i => collect i >>= fun zs => joinTail x zs) _ _ s
  refine wpAny_bind (wpAny_tryCatch (wpAny_pyIter_revIter hit ?_))
  have hh1 : A.in1.handled = none := hh
  refine wpAny_bind (RT.collect_rev hh1 hit hl hne hn fun h' tk acc hk hacc => ?_)
  obtain ⟨zs, hz, ht⟩ := strsAre_values (hP acc hacc)
  subst ht
  rw [hz]
  have ok2 := joinOk_of hok
  unfold JoinOk at ok2
  rw [Bool.not_eq_true'] at ok2
  have g : Gives (joinTail x (strValues zs)) (joinMade x zs) := by
    rcases zs with _ | ⟨p, _ | ⟨q, r⟩⟩
    all_goals exact gives_joinTail x _ ok2
  exact g prog w A (wants Q E) _ (post_join zs ⟨joinFit_length ok2, hq h' hk⟩)
end
/-- sep.join(reversed(e)) -/
def tJoinRev (K : PySem.W.Frag) (x : Str) (te : TE) : TE := fun σ H Q => te σ H fun v H1 => ∃ (a : Addr) (ys : List Str), v = .ref a ∧ SqL K H1 a (ys.map V.str) ∧ (ys.map (·.length)).sum + ys.length * x.length ≤ 16777216 ∧ Q (.str (Txt.join x ys.reverse)) H1
theorem pe_joinRev {X : Cx} {x : Str} {e : Expr} {te : TE} {u0 : Nat} {pc0 apos pos p2 pos2 : Pos} (hc : X.calm = true) (hg2 : Gl X "reversed") (hm2 : X.mg "reversed" = none) (he : PE X e te)
    (hs : starEach [e] X.env = (false, eval e X.env) :: starEach [] X.env := by rfl)
    (hs2 : starEach [.Call (.Name "reversed" p2) [e] [] pos2] X.env = [(false, eval (.Call (.Name "reversed" p2) [e] [] pos2) X.env)] := by rfl)
    (hbase : attributeBase (.Constant (.str x) u0 pc0) "join" X.env (eval (.Constant (.str x) u0 pc0) X.env) = eval (.Constant (.str x) u0 pc0) X.env := by rfl) (hline : (apos.endLine == pos.line) = true := by rfl) :
    PE X (.Call (.Attribute (.Constant (.str x) u0 pc0) "join" apos) [.Call (.Name "reversed" p2) [e] [] pos2] [] pos) (tJoinRev X.K x te) := by
  refine ⟨fun pins s σ H Q I h => ?_⟩
  refine PySem.Call_method1 hbase hs2 hline (thn (pe_str.run pins s σ H (fun v H1 => v = .str x ∧ H1 = H) I ⟨rfl, rfl⟩) fun v s1 ⟨x1, H1, I1, r1, q1⟩ => ?_)
  obtain ⟨rfl, rfl⟩ := q1
  obtain ⟨t, rfl⟩ := _root_.id r1
  refine ⟨"str", _, F.plainAttrs_str, F.slot_str_join, F.type_str_join, typeIs_str _ _ _, (fun _ e => nomatch e), Calls.callWith_builtin rfl (Calls.evalArgs_plain (Calls.spliced_cons ?_))⟩
  refine Call_ (ld_blt I1 hg2 hm2 PyProof.Rows.boot_reversed (PyProof.Rows.callWith_type1 (args_cons (thn (he.run pins s1 σ H1 _ I1 h) fun u s2 ⟨v, H2, I2, r2, q2⟩ => args_nil ?_) hs) hs rfl))
  obtain ⟨a, ys, rfl, hq, hz, q⟩ := q2
  obtain rfl : u = Value.ref a := r2
  obtain ⟨its, rv, p', hsz⟩ := I2.list hq
  refine call_reversed_list p'.isList ?_
  have k0 : ∀ b o, s2.heap.get? b = some o → (s2.heap.push (revObj a ((its.toArray.size : Int) - 1))).get? b = some o := fun b o e => Heap.get?_push_of_some _ e
  have I3 : Inv X pins σ H2 { s2 with heap := s2.heap.push (revObj a ((its.toArray.size : Int) - 1)) } := I2.kept (t' := s2.toks) k0
  obtain ⟨f0, f1, f2, f3, f4, f5⟩ := I2.fpOk (H' := H2) (b := s2.heap.objs.size) (Nat.le_refl _) (I2.hok.fresh (Nat.le_refl _))
  have hl := p'.isList
  obtain ⟨ol, hol, _⟩ := id hl
  have hne : a ≠ s2.heap.objs.size := Nat.ne_of_lt (Heap.lt_size hol)
  have hn : its.toArray.size ≤ sizeLine := by rw [List.size_toArray, ← rv.length]; exact hsz
  refine Calls.spliced_nil ?_
  refine join_rev (s := { s2 with heap := s2.heap.push (revObj a ((its.toArray.size : Int) - 1)) }) (ys := ys.reverse) (I2.ok.hd hc) ⟨_, Heap.get?_push_size _ rfl, rfl, rfl⟩ (hl.push _) hne hn (fun acc hacc => ?_) ?_ fun h' hk t' k => ?_
  · have z := RT.vals_rev rv hacc
    rw [← List.map_reverse] at z
    exact strs_of_vals z
  · rw [List.map_reverse, List.sum_reverse, List.length_reverse]
    exact hz
  · exact ⟨.str _, H2, I3.turned (t' := k) (fun b o hb e => hk b o hb e) f0 f1 f3 f4 f5, ⟨t', rfl⟩, q⟩
end Sw
/-! Texts of integers, read. -/
namespace Sw
open PySem PySem.Spec PyProof.Rows L2

/-- behind one sign - -/
def stripL : List Nat → List Nat
  | 45 :: r => r
  | l => l
def digL (l : List Nat) : Bool := decide (0 < l.length) && l.all fun c => decide (48 ≤ c) && decide (c ≤ 57)
theorem digL_iff {l : List Nat} : digL l = true ↔ l ≠ [] ∧ NumText.AllDigits l := by
  unfold digL NumText.AllDigits
  rw [Bool.and_eq_true, decide_eq_true_eq, List.all_eq_true]
  refine and_congr ⟨fun h e => (by rw [e] at h; exact absurd h (by decide)), fun h => List.length_pos_iff.mpr h⟩ ⟨fun h c hc => ?_, fun h c hc => ?_⟩
  · have := h c hc
    rw [Bool.and_eq_true, decide_eq_true_eq, decide_eq_true_eq] at this
    exact this
  · rw [Bool.and_eq_true, decide_eq_true_eq, decide_eq_true_eq]
    exact h c hc
theorem dig_tab : ∀ c, c < 128 → Unicode.isDigit c = (decide (48 ≤ c) && decide (c ≤ 57)) := by decide +kernel
theorem dig_eq (l : List Nat) : (Txt.isascii ⟨l.toArray⟩ && Txt.isdigit ⟨l.toArray⟩) = digL l := by
  unfold Txt.isascii Txt.isdigit digL
  show (l.toArray.all _ && (decide (l.toArray.size > 0) && l.toArray.all _)) = _
  rw [List.all_toArray, List.all_toArray, List.size_toArray]
  have key : ∀ l : List Nat, (l.all (fun c => decide (c < 128)) && l.all Unicode.isDigit) = l.all fun c => decide (48 ≤ c) && decide (c ≤ 57) := by
    intro l
    induction l with
    | nil => rfl
    | cons c l ih =>
      rw [List.all_cons, List.all_cons, List.all_cons, ← ih]
      by_cases hc : c < 128
      · rw [dig_tab c hc, decide_eq_true hc]
        cases decide (48 ≤ c) <;> cases decide (c ≤ 57) <;> simp
      · rw [decide_eq_false hc, decide_eq_false (show ¬ c ≤ 57 by omega)]
        simp
  rw [← key l]
  cases decide (l.length > 0) <;> simp
/-- the integer that a text shows, if it is its own text -/
def valL (l : List Nat) : Int := match l with
  | 45 :: r => -((NumText.digitsVal r : Nat) : Int)
  | l => ((NumText.digitsVal l : Nat) : Int)
theorem strip_min (r : List Nat) : stripL (45 :: r) = r ∧ valL (45 :: r) = -((NumText.digitsVal r : Nat) : Int) := ⟨rfl, rfl⟩
theorem strip_no {l : List Nat} (h : ∀ r, l ≠ 45 :: r) : stripL l = l ∧ valL l = ((NumText.digitsVal l : Nat) : Int) := by
  unfold stripL valL
  refine ⟨?_, ?_⟩
  · split
    · rename_i r
      exact absurd rfl (h r)
    · rfl
  · split
    · rename_i r
      exact absurd rfl (h r)
    · rfl
theorem min_or (l : List Nat) : (∃ r, l = 45 :: r) ∨ ∀ r, l ≠ 45 :: r := by
  by_cases h : ∃ r, l = 45 :: r
  · exact .inl h
  · exact .inr fun r e => h ⟨r, e⟩
theorem int_reads {l : List Nat} (h : digL (stripL l) = true) (hl : (stripL l).length ≤ 40) : intText? ⟨l.toArray⟩ = some (valL l) ∧ l.length ≤ 41 := by
  rcases min_or l with ⟨r, rfl⟩ | hn
  · rw [(strip_min r).1] at h hl
    rw [(strip_min r).2]
    obtain ⟨h1, h2⟩ := digL_iff.mp h
    refine ⟨intText_neg (x := ⟨(45 :: r).toArray⟩) (cs := r) (by simp) h2 h1 ?_, by rw [List.length_cons]; omega⟩
    show (45 :: r).toArray.size ≤ 4300
    rw [List.size_toArray, List.length_cons]
    omega
  · rw [(strip_no hn).1] at h hl
    rw [(strip_no hn).2]
    obtain ⟨h1, h2⟩ := digL_iff.mp h
    refine ⟨intText_digits (x := ⟨l.toArray⟩) (by simpa using h2) (by simpa using h1) ?_, by omega⟩
    show l.toArray.size ≤ 4300
    rw [List.size_toArray]
    omega
def intL (l : List Nat) : Option Int := if digL (stripL l) = true ∧ (stripL l).length ≤ 40 ∧ (Str.ofString (toString (valL l))).cps.toList = l then some (valL l) else none
theorem removeprefix_min (l : List Nat) : Txt.removeprefix ⟨l.toArray⟩ "-" = ⟨(stripL l).toArray⟩ := by
  have em : ("-" : Str) = ⟨#[45]⟩ := by decide +kernel
  rw [em, PySem.StrLaws.removeprefix_eq]
  have e1 : (⟨#[45]⟩ : Str).length = 1 := rfl
  have e2 : (⟨l.toArray⟩ : Str).length = l.length := by
    show l.toArray.size = _
    rw [List.size_toArray]
  have e3 : (⟨l.toArray⟩ : Str).cps.toList = l := by simp
  have e4 : Builtin.Str.subAt ⟨l.toArray⟩ ⟨#[45]⟩ 0 = decide (l.take 1 = [45]) := by
    unfold Builtin.Str.subAt
    show (l.toArray.extract 0 (0 + 1) == #[45]) = _
    rw [show l.toArray.extract 0 (0 + 1) = (l.take 1).toArray by simp]
    rw [Bool.eq_iff_iff, beq_iff_eq, decide_eq_true_eq]
    exact ⟨fun h => by simpa using congrArg Array.toList h, fun h => by rw [h]⟩
  rw [e1, e2, e3, e4]
  rcases min_or l with ⟨r, rfl⟩ | hn
  · rw [(strip_min r).1, if_pos (by simp)]
    simp
  · rw [(strip_no hn).1, if_neg]
    rw [Bool.and_eq_true, decide_eq_true_eq, decide_eq_true_eq]
    rintro ⟨_, h⟩
    match l, h, hn with
    | c :: r, h, hn =>
      have : c = 45 := by simpa using h
      subst this
      exact hn r rfl
/-- a text, k times: only its length is told -/
def rRepS : R2 := fun x y H Q => ∃ (z : Str) (k : Int), x = .str z ∧ y = .int k ∧ 2 ≤ k ∧ k ≤ 1000 ∧ 1 ≤ z.length ∧ z.length ≤ 1000 ∧ ∀ r : Str, r.length = z.length * k.toNat → Q (.str r) H
theorem rep_size (c : Array Nat) : ∀ m : Nat, ((List.replicate m c).foldl (· ++ ·) #[]).size = c.size * m := fun m => by
  have key : ∀ (m : Nat) (a : Array Nat), ((List.replicate m c).foldl (· ++ ·) a).size = a.size + c.size * m := by
    intro m
    induction m with
    | zero =>
      intro a
      simp
    | succ m ih =>
      intro a
      rw [List.replicate_succ, List.foldl_cons, ih, Array.size_append, Nat.mul_succ]
      omega
  rw [key m #[]]
  simp
theorem op_repS {X : Cx} : OpR X (binaryOp .Mult) rRepS := by
  intro pins s σ H x y v u Q I rx ry h
  obtain ⟨z, k, rfl, rfl, k2, k1, z1, z2, q⟩ := h
  obtain ⟨t, rfl⟩ := rx
  obtain ⟨t', rfl⟩ := ry
  have hm : z.length * k.toNat ≤ 1000000 := Nat.le_trans (Nat.mul_le_mul z2 (show k.toNat ≤ 1000 by omega)) (by decide)
  have hc : (k == 1 || z.length == 0) = false := by
    rw [Bool.or_eq_false_iff, beq_eq_false_iff_ne, beq_eq_false_iff_ne]
    omega
  refine P.mul_str (by rw [decide_eq_false (by omega), decide_eq_false (by omega)]; rfl) (fun _ _ => ?_) (fun _ _ => ?_) ?_
  · have e : (1000 : Int) ≤ (2 ^ 63 - 1) / k := by
      rw [Int.le_ediv_iff_mul_le (by omega)]
      omega
    omega
  · unfold Builtin.Str.tooLong
    have sl := sizeLine_eq
    first
      | (rw [decide_eq_false]; omega)
      | (simp; omega)
  · rw [if_neg (by omega), if_neg (by rw [hc]; exact Bool.false_ne_true)]
    have hz : (⟨(List.replicate k.toNat z.cps).foldl (· ++ ·) #[]⟩ : Str).length = z.length * k.toNat := rep_size z.cps k.toNat
    refine ⟨?_, ⟨.str _, H, I.tok _, ⟨_, rfl⟩, q _ hz⟩⟩
    have sl := sizeLine_eq
    first
      | (rw [hz]; omega)
      | (show _ ≤ _; rw [hz]; omega)
end Sw
/-! A written text ahead gives a token. -/
namespace Sw
open PySem PySem.Spec PyProof.Rows L2
section
variable {X : Cx} {f e : Expr} {es : List Expr} {tf te : TE} {ta : TA} {c : Str} {j : Nat} {pc0 pos : Pos} {r : R2}
/-- [.., 'c' + f, ..]: behind it a token is out -/
theorem pa_lit (ho : OpR X (binaryOp .Add) r) (hf : PE X f tf) (hr : PAT X es ta) (hs : starEach (.BinOp (.Constant (.str c) j pc0) .Add f pos :: es) X.env = (false, eval (.BinOp (.Constant (.str c) j pc0) .Add f pos) X.env) :: starEach es X.env := by rfl) :
    PA X (.BinOp (.Constant (.str c) j pc0) .Add f pos :: es) (tCons (tOp r (tC (.str c)) tf) ta) := by
  refine ⟨fun pos' pins s σ H Q I h => ?_⟩
  rw [hs]
  show wpAny _ _ (spliced ((false, eval (.BinOp (.Constant (.str c) j pc0) .Add f pos) X.env) :: backTo pos' (starEach es X.env))) _ _ s
  refine Calls.spliced_cons ?_
  refine wpAny_BinOp (Calls.Constant_str ?_)
  refine wpAny_mono (PySem.wpAny_toks (hf.run pins _ σ H _ (I.tok (s.toks + 1)) h)) (fun u s2 q => ?_) fun _ _ z => z.2
  obtain ⟨hk, y, H1, I1, r1, q1⟩ := q
  have hk : s.toks + 1 ≤ s2.toks := hk
  refine wpAny_mono (PySem.wpAny_toks (ho pins s2 σ H1 (.str c) y _ u _ I1 ⟨s.toks, rfl⟩ r1 q1)) (fun v s3 q => ?_) fun _ _ z => z.2
  obtain ⟨hk2, x, H2, I2, r2, q2⟩ := q
  exact thn (hr pos' pins s3 σ H2 _ (by omega) I2 q2) fun us s4 ⟨xs, H3, I3, r3, q3⟩ => ⟨x :: xs, H3, I3, .cons r2 r3, q3⟩
/-- a part of a list behind a written one, which wants no token itself -/
theorem pat_of (he : PE X e te) (hr : PAT X es ta) (hs : starEach (e :: es) X.env = (false, eval e X.env) :: starEach es X.env := by rfl) : PAT X (e :: es) (tCons te ta) := pat_cons (CwR.PET.of he) hr hs
end
end Sw
/-! Lists beside the empty one; rules within a comprehension. -/
namespace Sw
open PySem PySem.Spec PyProof.Rows L2
def rNeNil (K : PySem.W.Frag) : R2 := fun x y H Q => ∃ p q xs, x = .ref p ∧ y = .ref q ∧ SqL K H p xs ∧ SqL K H q [] ∧ Q (.bl (!decide (xs = []))) H
def rEqNil (K : PySem.W.Frag) : R2 := fun x y H Q => ∃ p q xs, x = .ref p ∧ y = .ref q ∧ SqL K H p xs ∧ SqL K H q [] ∧ Q (.bl (decide (xs = []))) H
theorem op_neNil {X : Cx} {K : PySem.W.Frag} (hK : X.K = K) (hu : X.A.units + 64 < cLine) : OpR X (compareOp .NotEq) (rNeNil K) := by
  subst hK
  intro pins s σ H x y v u Q I rx ry h
  obtain ⟨p, q, xs, rfl, rfl, hp, hq, k⟩ := h
  cases rx
  cases ry
  obtain ⟨its, rv, p', hz⟩ := I.list hp
  obtain ⟨its2, rv2, p2, hz2⟩ := I.list hq
  cases rv2
  have hu' : X.A.units < cLine := by omega
  have hl := rv.length
  cases xs with
  | nil =>
    cases rv
    refine PySem.SeqAt.RcNeAt.lists (e := fun _ => true) p'.isList p2.isList rfl hu' (fun j h1 h2 => by simp at h1) X.prog X.w _ _ ⟨.bl _, H, I, rfl, k⟩
  | cons x xs =>
    refine PySem.SeqAt.RcNeAt.lists_lengths p'.isList p2.isList (by cases rv; simp) hu' X.prog X.w _ _ ⟨.bl _, H, I, rfl, ?_⟩
    simpa using k
theorem op_eqNil {X : Cx} {K : PySem.W.Frag} (hK : X.K = K) (hu : X.A.units + 64 < cLine) : OpR X (compareOp .Eq) (rEqNil K) := by
  subst hK
  intro pins s σ H x y v u Q I rx ry h
  obtain ⟨p, q, xs, rfl, rfl, hp, hq, k⟩ := h
  cases rx
  cases ry
  obtain ⟨its, rv, p', hz⟩ := I.list hp
  obtain ⟨its2, rv2, p2, hz2⟩ := I.list hq
  cases rv2
  have hu' : X.A.units < cLine := by omega
  have hl := rv.length
  cases xs with
  | nil =>
    cases rv
    refine PySem.SeqAt.RcAt.lists (e := fun _ => true) p'.isList p2.isList rfl hu' (fun j h1 h2 => by simp at h1) X.prog X.w _ _ ⟨.bl _, H, I, rfl, k⟩
  | cons x xs =>
    refine PySem.SeqAt.RcAt.lists_lengths p'.isList p2.isList (by cases rv; simp) hu' X.prog X.w _ _ ⟨.bl _, H, I, rfl, ?_⟩
    simpa using k
theorem call_lenK {X : Cx} {K : PySem.W.Frag} (hK : X.K = K) : CallR X (.builtin "len") (fun xs H Q => ∃ x n, xs = [x] ∧ LenV K x H n ∧ Q (V.int ((n : Nat) : Int)) H) := by
  subst hK
  exact call_lenA
end Sw
/-! Rules by a named heap of the top, for what stands within a comprehension; lcm; zip of tuples. -/
namespace Sw
open PySem PySem.Spec PyProof.Rows L2 StX RZ
section
variable {X : Cx} {K : PySem.W.Frag}
theorem ix_listK (hK : X.K = K) : IxR X (rIxL K) := by
  subst hK
  exact ix_list
theorem ix_tupK (hK : X.K = K) : IxR X (rIxT K) := by
  subst hK
  exact ix_tup
theorem sl_listK (hK : X.K = K) : SlR X (rSlL K) := by
  subst hK
  exact sl_list
theorem sl_tupAK (hK : X.K = K) : SlR X (rSlA K) := by
  subst hK
  exact sl_tupA
theorem op_catAK (hK : X.K = K) : OpR X (binaryOp .Add) (rCatA K) := by
  subst hK
  exact op_catA
theorem pi_listK {tg l : Expr} {tl : TE} (hK : X.K = K) (hl : PE X l tl) : PI X tg l (iList K tl) := by
  subst hK
  exact pi_list hl
theorem pi_tupK {tg l : Expr} {tl : TE} (hK : X.K = K) (hl : PE X l tl) : PI X tg l (iTup K tl) := by
  subst hK
  exact pi_tup hl
def rTupOf (K : PySem.W.Frag) : List V → Hp → VK → Prop := fun xs H Q => ∃ p ys, xs = [.ref p] ∧ ((SqL K H p ys ∧ ∀ l, H l = none → Q (.ref l) (upd H l (.tup ys))) ∨ (SqT K H p ys ∧ Q (.ref p) H))
theorem call_tupK (hK : X.K = K) : CallR X (.type "tuple") (rTupOf K) := by
  subst hK
  exact call_tuple_of
theorem pa_starK {e : Expr} {es : List Expr} {te : TE} {t : TA} {p : Pos} (hK : X.K = K) (he : PE X e te) (hr : PA X es t) (hs : starEach (.Starred e p :: es) X.env = (true, eval e X.env) :: starEach es X.env := by rfl) : PA X (.Starred e p :: es) (tStar K te t) := by
  subst hK
  exact pa_star he hr hs
def rLcm : List V → Hp → VK → Prop := fun vs H Q => ∃ a b : Int, vs = [.int a, .int b] ∧ 0 < a ∧ 0 < b ∧ a.natAbs < 2 ^ 3000 ∧ b.natAbs < 2 ^ 3000 ∧ Q (.int ((Nat.lcm a.natAbs b.natAbs : Nat) : Int)) H
theorem lcm_le_mul {a b : Nat} (hb : 0 < b) (ha : 0 < a) : Nat.lcm a b ≤ a * b := by
  unfold Nat.lcm
  exact Nat.div_le_self _ _
theorem cr_lcm : CallR X (.builtin "math.lcm") rLcm := by
  intro pins s σ H vs us Q I r h
  obtain ⟨a, b, rfl, ha0, hb0, ha, hb, q⟩ := h
  obtain ⟨t, u, rfl⟩ := Vals.int2 r
  have l1 : (max 1 a.natAbs).log2 < 3000 := PySem.Flt.log2_lt_of (by decide) (by
    rcases Nat.le_total 1 a.natAbs with z | z
    · rw [Nat.max_eq_right z]
      exact ha
    · omega)
  have l2 : (max a.natAbs b.natAbs).log2 < 3000 := PySem.Flt.log2_lt_of (by decide) (by
    rcases Nat.le_total a.natAbs b.natAbs with z | z
    · rw [Nat.max_eq_right z]
      exact hb
    · rw [Nat.max_eq_left z]
      exact ha)
  have e1 : Nat.lcm 1 a.natAbs = a.natAbs := Nat.lcm_one_left _
  have sz : ((((Nat.lcm 1 a.natAbs).lcm b.natAbs : Nat) : Int)).natAbs.log2 < bitsLine := by
    rw [e1, Int.natAbs_natCast]
    have h6 : Nat.lcm a.natAbs b.natAbs < 2 ^ (3000 + 3000) := by
      rw [Nat.pow_add]
      exact Nat.lt_of_le_of_lt (lcm_le_mul (by omega) (by omega)) (Nat.mul_lt_mul'' ha hb)
    exact Nat.lt_of_lt_of_le (PySem.Flt.log2_lt_of (by decide) h6) (by decide)
  have key := PySem.W.mg_run_lcm a t b u (by omega) (by omega) sz
  refine PySem.call_function_meets PySem.W.MGF.kind_lcm PySem.W.MGF.plain_lcm PySem.W.MGF.entry_lcm (PySem.W.MGF.args_lcm _ _) key.meets ?_
  refine ⟨.int _, H, I.tok _, ⟨_, rfl⟩, ?_⟩
  rw [e1]
  exact q
end
section
variable {K : PySem.W.Frag} {a b : Addr} {xs ys : List V}
theorem walk_zipT {n : Nat} (hn : n = min xs.length ys.length) : Walk (ItzT K a b) n (fun H => SqT K H a xs ∧ SqT K H b ys) (YPair (fun i => xs[i]?) (fun i => ys[i]?)) := by
  subst hn
  refine ⟨fun i _ hi q => ?_, fun _ q => ⟨xs, ys, q.1, q.2, by omega⟩, fun i H v H' _ q y => ?_⟩
  · have h1 : i < xs.length := by omega
    have h2 : i < ys.length := by omega
    exact ⟨xs, ys, xs[i], ys[i], q.1, q.2, by simp [h1], by simp [h2]⟩
  · obtain ⟨T, x, z, h1, h2, h3, h4, h5⟩ := y
    exact ⟨T, x, z, h1, h2, h3, h4 xs q.1, h5 ys q.2⟩
end
end Sw
/-! enumerate over a tuple. -/
namespace Sw
open PySem PySem.Spec PyProof.Rows L2
set_option maxHeartbeats 2000000 in
theorem enumB_new {v : Value} {o : Obj} {W : Heap → Prop} (B : Begins v o W) :
    Meets (Builtin.«enumerate.__new__» ⟨[.type "enumerate", v], []⟩) (fun _ R s => W s.heap ∧ R (.ok (.ret (.ref (s.heap.push o).objs.size)))
      { s with heap := (s.heap.push o).push { cls := .type "enumerate", data := .fields #[.none, .bool false, .ref s.heap.objs.size, rawInt 0, .none, .none] } }) := by
  refine .of_wp fun prog w A R s h => ?_
  obtain ⟨hp, gg, dd, tk, os⟩ := s
  obtain ⟨hW, hR⟩ := h
  have isub := sub_enumerate
  have step : ∀ {A2 : Around} {E2 : Value → Shared → Prop} {Q2 : Value → Shared → Prop}, Q2 (.ref hp.objs.size) ⟨hp.push o, gg, dd, tk, os⟩ → wpAny (model prog w) A2 (pyIter v) Q2 E2 ⟨hp, gg, dd, tk, os⟩ := fun z => B.iter prog w _ _ ⟨hp, gg, dd, tk, os⟩ _ hW z
  wp_walk using step
  refine wpAny_stack_any fun stk => wpAny_pure ?_
  split
  · rename_i c1 _ _ _ _ _
    cases (c1 == Value.type "enumerate") <;> (wp_walk using step; exact ⟨_, rfl, hR⟩)
  · wp_walk using step
    exact ⟨_, rfl, hR⟩
theorem call_enumB {prog : Program} {w : World} {A : Around} {E : Value → Shared → Prop} {s : Shared} {v : Value} {o : Obj} {W : Heap → Prop} {Q : Value → Shared → Prop} (B : Begins v o W) (hW : W s.heap)
    (k : ∀ h2, IsEnum h2 (s.heap.objs.size + 1) s.heap.objs.size 0 .none → h2.get? s.heap.objs.size = some o → (∀ b ob, s.heap.get? b = some ob → h2.get? b = some ob) → Q (.ref (s.heap.objs.size + 1)) { s with heap := h2 }) :
    wpAny (model prog w) A (call (.type "enumerate") [v]) Q E s := by
  refine callType_new F.called_enumerate (by decide) (F.typeCall_enumerate_1 _) (F.newCall_enumerate_1 _) (fun ob => F.args_object_init_2 ob _) F.entry_enumerate_new (enumB_new B) ⟨hW, ?_⟩
  have size1 : (s.heap.push o).objs.size = s.heap.objs.size + 1 := Heap.size_push ..
  show _ ∧ _
  rw [size1]
  have isE : IsEnum ((s.heap.push o).push { cls := .type "enumerate", data := .fields #[.none, .bool false, .ref s.heap.objs.size, rawInt 0, .none, .none] }) (s.heap.objs.size + 1) s.heap.objs.size 0 .none := by
    have z := Heap.get?_push_size (s.heap.push o) (o := { cls := .type "enumerate", data := .fields #[.none, .bool false, .ref s.heap.objs.size, rawInt 0, .none, .none] }) rfl
    rw [size1] at z
    exact z
  exact ⟨⟨_, isE, rfl⟩, k _ isE (Heap.get?_push_of_some _ (Heap.get?_push_size _ B.free)) fun b ob z => Heap.get?_push_of_some _ (Heap.get?_push_of_some _ z)⟩
/-- the tuple at a, each item in a new pair -/
def IteT (K : PySem.W.Frag) (a : Addr) : It where
  go i H := ∃ (xs : List V) (x : V), SqT K H a xs ∧ xs[i]? = some x
  yld i H v H' := ∃ T x, v = .ref T ∧ H T = none ∧ H' = upd H T (.tup [.int (i : Nat), x]) ∧ ∀ xs, SqT K H a xs → xs[i]? = some x
  stop i H := ∃ xs : List V, SqT K H a xs ∧ xs.length = i
theorem tup_ne_enum {h : Heap} {e it a : Addr} {i : Int} {old : Value} {its : Array Value} (he : IsEnum h e it i old) (ht : h.IsTuple a its) : a ≠ e := fun z => by
  obtain ⟨ob, e1, c1, _⟩ := ht
  have e2 : h.get? e = some _ := he
  rw [z, e2] at e1
  cases e1
  exact absurd (Value.type.inj c1) (by decide)
theorem tup_ne_iter {h : Heap} {it a t : Addr} {i : Nat} {its : Array Value} (hi : h.IsTupleIter it t i) (ht : h.IsTuple a its) : a ≠ it := fun z => by
  obtain ⟨ob, e1, c1, _⟩ := ht
  obtain ⟨ob2, e2, c2, _⟩ := hi
  rw [z, e2] at e1
  cases e1
  rw [c2] at c1
  exact absurd (Value.type.inj c1) (by decide)
theorem turn_enumT {P : Program} {w : World} {K : PySem.W.Frag} {elts : List Expr} {kk : Nat} {tpos : Pos} (a e it : Addr) :
    Turn P w K (.Tuple elts kk tpos) (IteT K a) [e, it] e (fun i h => (∃ old, IsEnum h e it ((i : Nat) : Int) old) ∧ h.IsTupleIter it a i ∧ e ≠ it) := by
  refine ⟨by simp, ?_, ?_, ?_, ?_, ?_⟩
  · rintro i h ⟨⟨old, he⟩, ⟨o, ho, _, hd⟩, _⟩ b hb
    rcases (show b = e ∨ b = it by simpa using hb) with rfl | rfl
    · exact ⟨_, he, fun v q => nomatch q⟩
    · exact ⟨o, ho, fun v q => by rw [hd] at q; cases q⟩
  · rintro i h h' ⟨⟨old, he⟩, hi, hne⟩ k
    exact ⟨⟨old, k e (by simp) _ he⟩, hi.at fun o q => k it (by simp) o q, hne⟩
  · intro X hP hw hK hc i pins s σ H E I hf st hg
    subst hP hw hK
    obtain ⟨⟨old, he⟩, hit, hne⟩ := st
    obtain ⟨xs, x, hq, hx⟩ := hg
    obtain ⟨its, rv, p, _⟩ := I.tuple hq
    obtain ⟨u, hu, ru⟩ := rv.get hx
    have p2 : s.heap.IsTuple a its.toArray := p
    have ae := tup_ne_enum he p2
    have ai := tup_ne_iter hit p2
    have hel : e < s.heap.objs.size := Heap.lt_size he
    have hu2 : its.toArray[i]? = some u := by simpa using hu
    have hil : i < its.toArray.size := (Array.getElem?_eq_some_iff.mp hu2).1
    have DD := Draws.tuple (prog := X.prog) (w := X.w) (A := X.A.in1) (I.ok.hd hc) it a ai its.toArray
    refine wpAny_pyNext_enum_itemD DD he ⟨hit, p2⟩ hil hne (by simp only [List.mem_cons, List.not_mem_nil, or_false, not_or]; exact ⟨hne, Ne.symm ae⟩) fun y h' tk hy ho hst hT hsz hk => ?_
    have ey : y = u := by
      rw [hu2] at hy
      exact (Option.some.inj hy).symm
    subst ey
    refine ⟨_, rfl, wpAny_letOwnedTupleGo_enum (s := { s with heap := h', toks := tk + 1 }) ho fun h3 he3 sb => ?_⟩
    have hT3 : h3.get? s.heap.objs.size = some { cls := .type "tuple", data := .seq #[.int i tk, y] } := by
      rw [← hT]
      exact sb.2 _ (Nat.ne_of_gt hel)
    have fresh : ObjOk X.prog X.w (upd H s.heap.objs.size (.tup [.int (i : Nat), x])) h3 s.heap.objs.size (.tup [.int (i : Nat), x]) :=
      ⟨by show 2 ≤ sizeLine; decide, [.int i tk, y], .cons ⟨_, rfl⟩ (.cons ru .nil), ⟨_, hT3, rfl, _, rfl⟩⟩
    have stay : ∀ b ob, b ∉ [e, it] → s.heap.get? b = some ob → h3.get? b = some ob := fun b ob hb q => by
      have b1 : b ≠ e := fun z => hb (by simp [z])
      have b2 : b ≠ it := fun z => hb (by simp [z])
      rw [sb.2 b b1]
      exact hk b ob b1 b2 q
    have I1 : Inv X pins σ (upd H s.heap.objs.size (.tup [.int (i : Nat), x])) { s with heap := h3, toks := tk + 1 } := I.turnedNew (ch := [e, it]) stay hf (Nat.le_refl _) fresh
    refine ⟨.ref s.heap.objs.size, _, I1, rfl, ⟨_, x, rfl, I.hok.fresh (Nat.le_refl _), rfl, fun ys hy => by rw [I.tuple_inj hy hq]; exact hx⟩, ⟨⟨y, ?_⟩, hst.1.at fun ob q => (sb.2 it (Ne.symm hne)).trans q, hne⟩, fun b hb => ?_⟩
    · rw [show ((i + 1 : Nat) : Int) = (i : Int) + 1 by omega]
      exact he3
    · have hb2 : b < s.heap.objs.size := by
        rcases (show b = e ∨ b = it by simpa using hb) with rfl | rfl
        · exact hel
        · obtain ⟨ob, q, _⟩ := hit
          exact Heap.lt_size q
      rw [upd_ne (Nat.ne_of_lt hb2)]
      exact (hf b hb).1
  · intro X hP hw hK hc i pins s σ H E I hf st hg
    subst hP hw hK
    obtain ⟨⟨old, he⟩, hit, hne⟩ := st
    obtain ⟨xs, hq, hx⟩ := hg
    obtain ⟨its, rv, p, _⟩ := I.tuple hq
    have p2 : s.heap.IsTuple a its.toArray := p
    obtain ⟨f0, f1, f2, f3, f4, f5⟩ := hf it (by simp)
    have DD := Draws.tuple (prog := X.prog) (w := X.w) (A := X.A.in1) (I.ok.hd hc) it a (tup_ne_iter hit p2) its.toArray
    have en : i = its.toArray.size := by
      have := rv.length
      rw [List.size_toArray]
      omega
    rw [en] at hit
    exact wpAny_pyNext_enum_endD DD he ⟨hit, p2⟩ fun h' eb => ⟨rfl, I.turned (t' := s.toks) (fun b o hb q => eb b o hb q) f0 f1 f3 f4 f5⟩
  · rintro A i s Q E ⟨⟨_, he⟩, _⟩ h
    exact wpAny_pyIter_enum he h
def iEnumT (K : PySem.W.Frag) (ta : TA) : TI := fun σ H R => ta σ H fun vs H1 => ∃ a xs, vs = [.ref a] ∧ SqT K H1 a xs ∧ R (IteT K a) H1
theorem pi_enumT {X : Cx} {e : Expr} {ta : TA} {p pos tpos : Pos} {elts : List Expr} {kk : Nat} (hg : Gl X "enumerate") (hm : X.mg "enumerate" = none) (ha : PA X [e] ta) (hs : starEach [e] X.env = [(false, eval e X.env)] := by rfl) :
    PI X (.Tuple elts kk tpos) (.Call (.Name "enumerate" p) [e] [] pos) (iEnumT X.K ta) := by
  constructor
  intro pins s σ H R I h
  refine Call_ (ld_blt I hg hm boot_enumerate (PyProof.Rows.callWith_type1 (thn (ha.run pos pins s σ H _ I h) fun us s1 ⟨vs, H1, I1, r1, a, xs, ex, hq, q⟩ => ?_) hs rfl))
  subst ex
  obtain ⟨u, rfl, r2⟩ := vals1 r1
  cases r2
  obtain ⟨its, rv, pl, _⟩ := I1.tuple hq
  have p2 : s1.heap.IsTuple a its.toArray := pl
  refine call_enumB (begins_tuple a its.toArray) p2 fun h2 he ho hk => wpAny_pyIter_enum he ?_
  have I2 : Inv X pins σ H1 { s1 with heap := h2 } := I1.kept (t' := s1.toks) hk
  refine ⟨s1.heap.objs.size + 1, [s1.heap.objs.size + 1, s1.heap.objs.size], _, _, H1, rfl, I2, turn_enumT a (s1.heap.objs.size + 1) s1.heap.objs.size, ⟨⟨.none, he⟩, ⟨_, ho, rfl, rfl⟩, Nat.succ_ne_self _⟩, fun b hb => ?_, q⟩
  have le : s1.heap.objs.size ≤ b := by
    rcases (show b = s1.heap.objs.size + 1 ∨ b = s1.heap.objs.size by simpa using hb) with z | z
    · exact z ▸ Nat.le_succ _
    · exact z ▸ Nat.le_refl _
  exact I1.fpOk le (I1.hok.fresh le)
theorem walk_enumT {K : PySem.W.Frag} {a : Addr} {xs : List V} : Walk (IteT K a) xs.length (fun H => SqT K H a xs) (YPair (fun i => some (.int (i : Nat))) (fun i => xs[i]?)) := by
  refine ⟨fun i H hi q => ⟨xs, xs[i], q, by simp [hi]⟩, fun H q => ⟨xs, q, rfl⟩, fun i H v H' hi q y => ?_⟩
  obtain ⟨T, x, h1, h2, h3, h4⟩ := y
  exact ⟨T, .int (i : Nat), x, h1, h2, h3, rfl, h4 xs q⟩
end Sw
/-! Any datum beside a text: ==, not in. -/
namespace Sw
open PySem PySem.Spec PyProof.Rows L2 PySem.SeqAt
open AutoSeq1 (wpAny_loadPart')
theorem dict_eq_declines_str (l : Addr) (c : Value) (es : Array DictEntry) (ep : Nat) (b : Str) (u : Tok) :
    Meets (Builtin.«dict.__eq__» ⟨[.ref l, .str b u], []⟩) (fun _ R s => s.heap.get? l = some { cls := .type "dict", dict := none, data := .dict es ep, slots := #[] } ∧ R (.ok (.ret .notImplemented)) s) :=
  .of_wp fun prog w A R s h => by obtain ⟨hp, g, d, tk, os⟩ := s; obtain ⟨hl, h⟩ := h; have f1 := F.sub_str_dict; wp_walk using wpAny_loadPart' hl, wpAny_load hl; exact ⟨_, rfl, h⟩
theorem str_eq_declines_dict (b : Str) (u : Tok) (l : Addr) (es : Array DictEntry) (ep : Nat) :
    Meets (Builtin.«str.__eq__» ⟨[.str b u, .ref l], []⟩) (fun _ R s => s.heap.get? l = some { cls := .type "dict", dict := none, data := .dict es ep, slots := #[] } ∧ R (.ok (.ret .notImplemented)) s) :=
  .of_wp fun prog w A R s h => by obtain ⟨hp, g, d, tk, os⟩ := s; obtain ⟨hl, h⟩ := h; wp_walk using wpAny_loadPart' hl, wpAny_load hl; exact ⟨_, rfl, h⟩
section
variable {A : Around} {s : Shared}
theorem rcAt_dict_str {l : Addr} {o : Obj} {es : Array DictEntry} {ep : Nat} (b : Str) (u : Tok) (ho : s.heap.get? l = some o) (hx : o.ExactDict) (hd : o.data = .dict es ep) (hu : A.units < cLine) : RcAt A s (.ref l) (.str b u) false := fun prog w E Q h => by
  obtain ⟨cls, dd, data, sl⟩ := o
  obtain ⟨h1, h2, h3⟩ := hx
  simp only at h1 h2 h3 hd
  subst h1 h2 h3 hd
  exact rc_eq_decline_or (k := false) ⟨_, ho, rfl⟩ (typeIs_str s b u) (by decide) F.sub_str_dict F.slot_dict_eq F.slot_str_eq_refl
    (fun _ hq => call_meets F.slot_dict_eq ⟨_, ho, rfl⟩ F.entry_dict_eq (F.args_dict_eq_2 _ _) (dict_eq_declines_str l (.type "dict") es ep b u) ⟨ho, hq⟩)
    (fun _ hq => call_meets F.slot_str_eq_refl (typeIs_str s b u) F.entry_str_eq (F.args_str_eq_2 _ _) (str_eq_declines_dict b u l es ep) ⟨ho, hq⟩)
    (fun _ hq => wpAny_of_eq (rfl : isSame (.ref l) (.str b u) = pure false) hq) (.inr hu) h
theorem rcAt_str_dict {l : Addr} {o : Obj} {es : Array DictEntry} {ep : Nat} (b : Str) (u : Tok) (ho : s.heap.get? l = some o) (hx : o.ExactDict) (hd : o.data = .dict es ep) (hu : A.units < cLine) : RcAt A s (.str b u) (.ref l) false := fun prog w E Q h => by
  obtain ⟨cls, dd, data, sl⟩ := o
  obtain ⟨h1, h2, h3⟩ := hx
  simp only at h1 h2 h3 hd
  subst h1 h2 h3 hd
  exact rc_eq_decline_or (k := false) (typeIs_str s b u) ⟨_, ho, rfl⟩ (by decide) F.sub_dict_str F.slot_str_eq F.slot_dict_eq_refl
    (fun _ hq => call_meets F.slot_str_eq (typeIs_str s b u) F.entry_str_eq (F.args_str_eq_2 _ _) (str_eq_declines_dict b u l es ep) ⟨ho, hq⟩)
    (fun _ hq => call_meets F.slot_dict_eq_refl ⟨_, ho, rfl⟩ F.entry_dict_eq (F.args_dict_eq_2 _ _) (dict_eq_declines_str l (.type "dict") es ep b u) ⟨ho, hq⟩)
    (fun _ hq => wpAny_of_eq (rfl : isSame (.str b u) (.ref l) = pure false) hq) (.inr hu) h
theorem eqAt_str_dict {l : Addr} {o : Obj} {es : Array DictEntry} {ep : Nat} (b : Str) (u : Tok) (ho : s.heap.get? l = some o) (hx : o.ExactDict) (hd : o.data = .dict es ep) (hu : A.units < cLine) : EqAt A s (.str b u) (.ref l) false := fun prog w E Q h => by
  unfold eqBool
  refine wpAny_holding ?_
  refine wpAny_ite_split (fun hab => absurd (eq_of_beq hab) nofun) (fun _ => ?_)
  exact wpAny_bind (rcAt_str_dict b u ho hx hd hu prog w E _ (wpAny_truthy_bool h))
end
/-- the datum is this text -/
def isS (z : Str) : PyData → Bool
  | .str x => decide (x = z)
  | _ => false
def isSin (zs : List Str) : PyData → Bool
  | .str x => decide (x ∈ zs)
  | _ => false
def rEqS (K : PySem.W.Frag) : R2 := fun x y H Q => ∃ mu d z, Dt K mu H x d ∧ y = .str z ∧ Q (.bl (isS z d)) H
def rNotInS (K : PySem.W.Frag) : R2 := fun x y H Q => ∃ mu d zs p, Dt K mu H x d ∧ y = .ref p ∧ SqT K H p (zs.map V.str) ∧ Q (.bl (!isSin zs d)) H
section
variable {X : Cx} {K : PySem.W.Frag}
theorem op_eqS (hK : X.K = K) (hu : X.A.units + 64 < cLine) : OpR X (compareOp .Eq) (rEqS K) := by
  subst hK
  intro pins s σ H x y v u Q I rx ry h
  obtain ⟨mu, d, z, hd, rfl, q⟩ := h
  have hu' : X.A.units < cLine := by omega
  have sc := fun (a : scal x (.str z) = true) (b : Q (.bl (decide (x = V.str z))) H) => op_eq pins s σ H x (.str z) v u Q I rx ry ⟨a, b⟩
  cases hd with
  | non => exact sc rfl q
  | bl b => exact sc rfl q
  | int i => exact sc rfl q
  | str w =>
    refine sc rfl ?_
    rw [show decide (V.str w = V.str z) = decide (w = z) by rw [Bool.eq_iff_iff]; simp]
    exact q
  | lst _ rd _ =>
    cases rx
    obtain ⟨t, rfl⟩ := ry
    obtain ⟨its, rv, p, _⟩ := I.list (Rd.sqL rd)
    exact RcAt.list_str z t p.isList hu' X.prog X.w _ _ ⟨.bl _, H, I, rfl, q⟩
  | tup rd _ =>
    cases rx
    obtain ⟨t, rfl⟩ := ry
    obtain ⟨its, rv, p, _⟩ := I.tuple (Rd.sqT rd)
    exact RcAt.tuple_str z t p hu' X.prog X.w _ _ ⟨.bl _, H, I, rfl, q⟩
  | tupK rd _ =>
    cases rx
    obtain ⟨t, rfl⟩ := ry
    obtain ⟨its, rv, p, _⟩ := I.tuple (KTup.sqT rd)
    exact RcAt.tuple_str z t p hu' X.prog X.w _ _ ⟨.bl _, H, I, rfl, q⟩
  | @dct a kvs _ _ rd _ =>
    cases rx
    obtain ⟨t, rfl⟩ := ry
    have zo : ObjOk X.prog X.w H s.heap a (.dK kvs) := rd.ok I.hok
    obtain ⟨_, _, vs, rel, o, es, ep, ho, hx, hdd, _⟩ := zo
    exact rcAt_dict_str z t ho hx hdd hu' X.prog X.w _ _ ⟨.bl _, H, I, rfl, q⟩
/-- which of the texts -/
def eqS (d : PyData) : Value → Bool
  | .str z _ => isS z d
  | _ => false
theorem op_notInT (hK : X.K = K) (hu : X.A.units + 64 < cLine) : OpR X (compareOp .NotIn) (rNotInS K) := by
  subst hK
  intro pins s σ H x y v u Q I rx ry h
  obtain ⟨mu, d, zs, p, hd, rfl, hp, q⟩ := h
  cases ry
  obtain ⟨its, rv, pl, hz⟩ := I.tuple hp
  have hu' : X.A.in1.units < cLine := by
    have : X.A.in1.units = X.A.units + 1 := rfl
    omega
  have it : ∀ y ∈ its, ∃ z t, y = Value.str z t := by
    intro y hy
    obtain ⟨i, hi, e⟩ := List.getElem_of_mem hy
    have hl := rv.length
    obtain ⟨y2, e2, r2⟩ := rv.get (show (zs.map V.str)[i]? = some (V.str (zs[i]'(by rw [List.length_map] at hl; omega))) by
      rw [List.getElem?_map, List.getElem?_eq_getElem (by rw [List.length_map] at hl; omega)]
      rfl)
    rw [List.getElem?_eq_getElem hi, e] at e2
    cases e2
    obtain ⟨t, rfl⟩ := r2
    exact ⟨_, t, rfl⟩
  have an : its.any (eqS d) = isSin zs d := by
    have key : ∀ {zs : List Str} {us : List Value}, Vals (zs.map V.str) us → us.any (eqS d) = isSin zs d := by
      intro zs
      induction zs with
      | nil =>
        intro us r
        cases r
        cases d <;> rfl
      | cons z zs ih =>
        intro us r
        cases r with
        | cons r1 r2 =>
          obtain ⟨t, rfl⟩ := r1
          rw [List.any_cons, ih r2]
          show (isS z d || isSin zs d) = isSin (z :: zs) d
          cases d with
          | str w =>
            show (decide (w = z) || decide (w ∈ zs)) = decide (w ∈ z :: zs)
            rw [Bool.eq_iff_iff]
            simp
          | _ => rfl
    exact key rv
  refine notIn_tupleAt (eqS d) pl (fun y hy => ?_) ⟨.bl _, H, I, rfl, ?_⟩
  · obtain ⟨z, t, rfl⟩ := it y (by simpa using hy)
    show EqAt X.A.in1 s (.str z t) v (isS z d)
    cases hd with
    | non =>
      cases rx
      exact EqAt.str_none z t
    | bl b =>
      cases rx
      exact EqAt.str_bool z t b
    | int i =>
      obtain ⟨t2, rfl⟩ := rx
      exact EqAt.str_int z t i t2
    | str w =>
      obtain ⟨t2, rfl⟩ := rx
      have e := EqAt.str_str (A := X.A.in1) (s := s) z t w t2
      have e2 : isS z (.str w) = (z == w) := by
        show decide (w = z) = (z == w)
        rw [Bool.eq_iff_iff, decide_eq_true_eq, beq_iff_eq]
        exact ⟨Eq.symm, Eq.symm⟩
      rw [e2]
      exact e
    | lst _ rd _ =>
      cases rx
      obtain ⟨its, rv, p, _⟩ := I.list (Rd.sqL rd)
      exact EqAt.str_list z t p.isList hu'
    | tup rd _ =>
      cases rx
      obtain ⟨its, rv, p, _⟩ := I.tuple (Rd.sqT rd)
      exact EqAt.str_tuple z t p hu'
    | tupK rd _ =>
      cases rx
      obtain ⟨its, rv, p, _⟩ := I.tuple (KTup.sqT rd)
      exact EqAt.str_tuple z t p hu'
    | @dct a kvs _ _ rd _ =>
      cases rx
      have zo : ObjOk X.prog X.w H s.heap a (.dK kvs) := rd.ok I.hok
      obtain ⟨_, _, vs, rel, o, es, ep, ho, hx, hdd, _⟩ := zo
      exact eqAt_str_dict z t ho hx hdd hu'
  · rw [List.any_toArray, an]
    exact q
end
end Sw
/-! A tuple beside the empty one. -/
namespace Sw
open PySem PySem.Spec PyProof.Rows L2
def rNeNilT (K : PySem.W.Frag) : R2 := fun x y H Q => ∃ p q xs, x = .ref p ∧ y = .ref q ∧ SqT K H p xs ∧ SqT K H q [] ∧ Q (.bl (!decide (xs = []))) H
def rEqNilT (K : PySem.W.Frag) : R2 := fun x y H Q => ∃ p q xs, x = .ref p ∧ y = .ref q ∧ SqT K H p xs ∧ SqT K H q [] ∧ Q (.bl (decide (xs = []))) H
theorem nil_len {xs : List V} {its : List Value} (rv : Vals xs its) : (its.toArray.size == (#[] : Array Value).size) = decide (xs = []) := by
  have := rv.length
  rw [List.size_toArray, Bool.eq_iff_iff, beq_iff_eq, decide_eq_true_eq]
  show its.length = 0 ↔ _
  rw [← this]
  exact List.length_eq_zero_iff
theorem op_neNilT {X : Cx} {K : PySem.W.Frag} (hK : X.K = K) (hu : X.A.units + 64 < cLine) : OpR X (compareOp .NotEq) (rNeNilT K) := by
  subst hK
  intro pins s σ H x y v u Q I rx ry h
  obtain ⟨p, q, xs, rfl, rfl, hp, hq, k⟩ := h
  cases rx
  cases ry
  obtain ⟨its, rv, p', hz⟩ := I.tuple hp
  obtain ⟨its2, rv2, p2, hz2⟩ := I.tuple hq
  cases rv2
  have hu' : X.A.units < cLine := by omega
  refine PySem.SeqAt.RcNeAt.tuples (e := fun _ => true) p' p2 hu' (fun j h1 h2 => absurd h2 (by simp)) X.prog X.w _ _ ⟨.bl _, H, I, rfl, ?_⟩
  rw [nil_len rv]
  simpa using k
theorem op_eqNilT {X : Cx} {K : PySem.W.Frag} (hK : X.K = K) (hu : X.A.units + 64 < cLine) : OpR X (compareOp .Eq) (rEqNilT K) := by
  subst hK
  intro pins s σ H x y v u Q I rx ry h
  obtain ⟨p, q, xs, rfl, rfl, hp, hq, k⟩ := h
  cases rx
  cases ry
  obtain ⟨its, rv, p', hz⟩ := I.tuple hp
  obtain ⟨its2, rv2, p2, hz2⟩ := I.tuple hq
  cases rv2
  have hu' : X.A.units < cLine := by omega
  refine PySem.SeqAt.RcAt.tuples (e := fun _ => true) p' p2 hu' (fun j h1 h2 => absurd h2 (by simp)) X.prog X.w _ _ ⟨.bl _, H, I, rfl, ?_⟩
  rw [nil_len rv]
  simpa using k
theorem extend_tup (l : Addr) (items : Array Value) (n : Nat) (b : Addr) (items2 : Array Value) (n2 : Nat) (dd : Option Addr) (sl : Array (Option Value)) (hs0 : ¬(!items.isEmpty && Builtin.List.listTooLong (items.size + items2.size)) = true) (hs1 : items.size ≤ sizeLine) (hs2 : items.size + items2.size ≤ sizeLine + 1) :
    Meets (Builtin.«list.extend» ⟨[.ref l, .ref b], []⟩) (fun _ R s => s.heap.get? l = some { cls := .type "list", dict := none, data := .seq items n, slots := #[] } ∧ s.heap.get? b = some { cls := .type "tuple", dict := dd, data := .seq items2 n2, slots := sl } ∧ R (.ok (.ret Value.none)) { s with heap := s.heap.update l (Obj.mapSeq fun x => x ++ items2), toks := s.toks }) :=
  .of_wp fun prog w A R s h => by
    obtain ⟨hp, g, d, tk, os⟩ := s; obtain ⟨hl, hb, h⟩ := h; have f1 := AutoSeq1.idx_int; have f2 := AutoSeq1.sub_tuple_tuple; have f3 := AutoSeq1.sub_list_list; have f4 := AutoSeq1.sub_tuple_list; have f5 := AutoSeq1.sub_list_tuple;
    have hz' : (items ++ items2).size ≤ sizeLine + 1 := by rw [Array.size_append]; exact hs2
    wp_walk using (wpAny_updateSeq hl rfl (hz := hs1) (_hz' := hz')), AutoSeq1.wpAny_loadPart' hl, AutoSeq1.wpAny_loadPart' hb; exact ⟨_, rfl, h⟩
def rExtT (K : PySem.W.Frag) : V → List V → Hp → VK → Prop := fun x vs H Q => ∃ l b xs zs, x = .ref l ∧ vs = [.ref b] ∧ H l = some (.lst xs) ∧ SqT K H b zs ∧ xs.length + zs.length ≤ sizeLine ∧ Q .non (upd H l (.lst (xs ++ zs)))
theorem mt_extendT {X : Cx} {K : PySem.W.Frag} (hK : X.K = K) : MtM X "list.extend" (rExtT K) := by
  subst hK
  intro pins s σ H x vs v us Q I rx rv h
  obtain ⟨l, b, xs, zs, rfl, rfl, hH, hB, hz, q⟩ := h
  cases rx
  obtain ⟨u, rfl, ru⟩ := rv.one
  cases ru
  obtain ⟨z, its, n, r, hl, e⟩ := I.lstM hH
  obtain ⟨its2, r2, ⟨⟨cls, dd, data, sl⟩, e2, hc, n2, hd⟩, _⟩ := I.tuple hB
  simp only at hc hd
  subst hc hd
  have hl2 := r2.length
  have hsz : its.toArray.size + its2.toArray.size ≤ sizeLine := by rw [List.size_toArray, List.size_toArray]; omega
  have hlong : ¬ (!its.toArray.isEmpty && Builtin.List.listTooLong (its.toArray.size + its2.toArray.size)) = true := by
    rw [notLongL hsz, Bool.and_false]
    exact Bool.false_ne_true
  refine call_meets F.slot_list_extend ⟨_, e, rfl⟩ F.entry_list_extend (F.args_list_extend_2 _ _)
    (extend_tup l its.toArray n b its2.toArray n2 dd sl hlong (by rw [List.size_toArray]; omega) (by omega)) ⟨e, e2, ?_⟩
  refine ⟨.non, _, I.lset (its' := its ++ its2) hH e (by simp) (r.append r2) ?_, rfl, q⟩
  rw [List.length_append]
  omega
theorem mt_extT {X : Cx} : MtR X "list.extend" (rExtT X.K) := mt_extendT rfl
end Sw
/-! zip of a text and a tuple; dict.update. -/
namespace Sw
open PySem PySem.Spec PyProof.Rows L2
def ItST (K : PySem.W.Frag) (x : Str) (b : Addr) : It where
  go i H := ∃ (ys : List V) (c : Nat) (y : V), SqT K H b ys ∧ x.cps[i]? = some c ∧ ys[i]? = some y
  yld i H v H' := ∃ T c y, v = .ref T ∧ H T = none ∧ H' = upd H T (.tup [.str ⟨#[c]⟩, y]) ∧ x.cps[i]? = some c ∧ ∀ ys, SqT K H b ys → ys[i]? = some y
  stop i H := ∃ ys : List V, SqT K H b ys ∧ (i = x.cps.size ∨ i = ys.length) ∧ i ≤ x.cps.size ∧ i ≤ ys.length
theorem turn_zipST {P : Program} {w : World} {K : PySem.W.Frag} {elts : List Expr} {kk : Nat} {tpos : Pos} {x : Str} {t : Tok} {b z TI TO i1 i2 : Addr} (D : ZipSep2 z TI TO i1 i2 [i1] [i2, b]) (hb : b ≠ i2) :
    Turn P w K (.Tuple elts kk tpos) (ItST K x b) [z, TI, TO, i1, i2] z (fun i h => IsZip h z TI TO .none ∧ IsTupOf2 h TI (.ref i1) (.ref i2) ∧ (∃ a1 a2, IsTupOf2 h TO a1 a2) ∧ h.IsStrIter i1 (strIterType x) x t i ∧ h.IsTupleIter i2 b i) where
  mem := by simp
  obj := fun i h st c hc => by
    obtain ⟨hz, hTI, ⟨x, y, hTO⟩, ⟨o1, e1, _, d1⟩, ⟨o2, e2, _, d2⟩⟩ := st
    have e' : c = z ∨ c = TI ∨ c = TO ∨ c = i1 ∨ c = i2 := by simpa using hc
    rcases e' with q | q | q | q | q
    · rw [q]; exact ⟨_, hz, fun v q => nomatch q⟩
    · rw [q]; exact ⟨_, hTI, fun v q => nomatch q⟩
    · rw [q]; exact ⟨_, hTO, fun v q => nomatch q⟩
    · rw [q]; exact ⟨o1, e1, fun v q => by rw [d1] at q; cases q⟩
    · rw [q]; exact ⟨o2, e2, fun v q => by rw [d2] at q; cases q⟩
  keep := fun i h h' st k => by
    obtain ⟨hz, hTI, ⟨x, y, hTO⟩, h1, h2⟩ := st
    exact ⟨k z (by simp) _ hz, k TI (by simp) _ hTI, ⟨x, y, k TO (by simp) _ hTO⟩, (let ⟨o, e, c, d⟩ := h1; ⟨o, k i1 (by simp) o e, c, d⟩), h2.at fun o q => k i2 (by simp) o q⟩
  item := by
    intro X hP hw hK hc i pins s σ H E I hf st hg
    subst hP hw hK
    obtain ⟨hz, hTI, ⟨x0, y0, hTO⟩, h1, h2⟩ := st
    obtain ⟨ys, c, y, hqy, hx, hy⟩ := hg
    obtain ⟨its2, rv2, p2, _⟩ := I.tuple hqy
    have p3 : s.heap.IsTuple b its2.toArray := p2
    obtain ⟨u2, hu2, ru2⟩ := rv2.get hy
    have hu3 : its2.toArray[i]? = some u2 := by simpa using hu2
    have hzl : z < s.heap.objs.size := Heap.lt_size hz
    have D1 := Draws.text (prog := X.prog) (w := X.w) (A := X.A.in1) (I.ok.hd hc) i1 x t
    have D2 := Draws.tuple (prog := X.prog) (w := X.w) (A := X.A.in1) (I.ok.hd hc) i2 b hb its2.toArray
    refine wpAny_pyNext_zipD2_item D D1 D2 hz hTI hTO h1 ⟨h2, p3⟩ (Array.getElem?_eq_some_iff.mp hx).1 (Array.getElem?_eq_some_iff.mp hu3).1 fun x1 x2 h' tk y1 y2 z' TO' h1' h2' hT hsz hk => ?_
    obtain ⟨c', u1, hc', rfl⟩ := y1
    rw [hx] at hc'
    cases hc'
    have y2 : its2.toArray[i]? = some x2 := y2
    rw [hu3] at y2
    cases y2
    obtain ⟨h2', _⟩ := h2'
    refine ⟨_, rfl, wpAny_letOwnedTupleGo_zip (s := { s with heap := h', toks := tk }) z' fun h'' z'' sb => ?_⟩
    have hT2 : h''.get? s.heap.objs.size = some { cls := .type "tuple", data := .seq #[.str ⟨#[c]⟩ u1, u2] } := (sb.2 _ (Nat.ne_of_gt hzl)).trans hT
    have new : ObjOk X.prog X.w (upd H s.heap.objs.size (.tup [.str ⟨#[c]⟩, y])) h'' s.heap.objs.size (.tup [.str ⟨#[c]⟩, y]) :=
      ⟨by show 2 ≤ sizeLine; decide, [.str ⟨#[c]⟩ u1, u2], .cons ⟨_, rfl⟩ (.cons ru2 .nil), ⟨_, hT2, rfl, _, rfl⟩⟩
    have I1 : Inv X pins σ (upd H s.heap.objs.size (.tup [.str ⟨#[c]⟩, y])) { s with heap := h'', toks := tk } :=
      I.turnedNew (t' := tk) (ch := [z, TI, TO, i1, i2]) (fun c o hb q => (sb.2 c (fun q' => hb (by simp [q']))).trans (hk c o (fun q' => hb (by simp [q'])) (fun q' => hb (by simp [q'])) (fun q' => hb (by simp [q'])) (fun q' => hb (by simp [q'])) q)) hf (Nat.le_refl _) new
    refine ⟨.ref s.heap.objs.size, _, I1, rfl, ⟨_, c, y, rfl, I.hok.fresh (Nat.le_refl _), rfl, hx, fun l hl => by rw [I.tuple_inj hl hqy]; exact hy⟩, ⟨z'', ?_, ⟨.str ⟨#[c]⟩ u1, u2, ?_⟩, ?_, ?_⟩, fun c hcm => ?_⟩
    · exact (sb.2 _ D.TIz).trans (hk _ _ D.TIz D.TITO D.TIi1 D.TIi2 hTI)
    · exact (sb.2 _ D.TOz).trans TO'
    · obtain ⟨o, e, c1, d1⟩ := h1'
      exact ⟨o, (sb.2 _ D.zi1.symm).trans e, c1, d1⟩
    · exact h2'.at fun o q => (sb.2 _ D.zi2.symm).trans q
    · have hlt : c < s.heap.objs.size := by
        have e' : c = z ∨ c = TI ∨ c = TO ∨ c = i1 ∨ c = i2 := by simpa using hcm
        rcases e' with q | q | q | q | q
        · rw [q]; exact hzl
        · rw [q]; exact Heap.lt_size hTI
        · rw [q]; exact Heap.lt_size hTO
        · rw [q]; obtain ⟨_, e1, _⟩ := h1; exact Heap.lt_size e1
        · rw [q]; obtain ⟨_, e2, _⟩ := h2; exact Heap.lt_size e2
      rw [upd_ne (Nat.ne_of_lt hlt)]
      exact (hf c hcm).1
  done := by
    intro X hP hw hK hc i pins s σ H E I hf st hg
    subst hP hw hK
    obtain ⟨hz, hTI, ⟨x0, y0, hTO⟩, h1, h2⟩ := st
    obtain ⟨ys, hqy, hend, l1, l2⟩ := hg
    obtain ⟨its2, rv2, p2, _⟩ := I.tuple hqy
    have p3 : s.heap.IsTuple b its2.toArray := p2
    have ll := rv2.length
    have D1 := Draws.text (prog := X.prog) (w := X.w) (A := X.A.in1) (I.ok.hd hc) i1 x t
    have D2 := Draws.tuple (prog := X.prog) (w := X.w) (A := X.A.in1) (I.ok.hd hc) i2 b hb its2.toArray
    have sz : its2.toArray.size = ys.length := by rw [List.size_toArray, ll]
    exact wpAny_pyNext_zipD2_end D D1 D2 hz hTI hTO h1 ⟨h2, p3⟩ l1 (by rw [sz]; exact l2) (by rw [sz]; exact hend) fun h' tk hk => ⟨rfl, I.turnedL (t' := tk) (ch := [z, TI, TO, i1, i2]) (fun c o hb q =>
      hk c o (fun q' => hb (by simp [q'])) (fun q' => hb (by simp [q'])) (fun q' => hb (by simp [q'])) (fun q' => hb (by simp [q'])) q) hf⟩
  self := fun A i s Q E st h => wpAny_pyIter_zip st.1 h
theorem sepN (n b : Nat) (h : b < n) : ZipSep2 (n + 4) (n + 2) (n + 3) n (n + 1) [n] [n + 1, b] := by
  have two : ∀ c : Nat, c ≠ n + 1 → c ≠ b → ¬ List.Mem c [n + 1, b] := fun c h1 h2 e => by
    have e2 : c ∈ [n + 1, b] := e
    simp only [List.mem_cons, List.not_mem_nil, or_false] at e2
    omega
  have one : ∀ c : Nat, c ≠ n → ¬ List.Mem c [n] := fun c h1 e => by
    have e2 : c ∈ [n] := e
    simp only [List.mem_cons, List.not_mem_nil, or_false] at e2
    omega
  exact { TIz := by show ¬ ((n + 2 : Nat) = n + 4); omega
          TOz := by show ¬ ((n + 3 : Nat) = n + 4); omega
          TITO := by show ¬ ((n + 2 : Nat) = n + 3); omega
          TIi1 := by show ¬ ((n + 2 : Nat) = n); omega
          mem1 := List.mem_cons_self
          zf1 := one _ (by omega)
          Tf1 := one _ (by omega)
          TIi2 := by show ¬ ((n + 2 : Nat) = n + 1); omega
          mem2 := List.mem_cons_self
          zf2 := two _ (by omega) (by omega)
          Tf2 := two _ (by omega) (by omega)
          sep1_2 := two _ (by omega) (by omega)
          sep2_1 := one _ (by omega) }
theorem le5 (n c : Nat) (h : c ∈ [n + 4, n + 2, n + 3, n, n + 1]) : n ≤ c := by
  simp only [List.mem_cons, List.not_mem_nil, or_false] at h
  omega
def iZipST (K : PySem.W.Frag) (ta : TA) : TI := fun σ H R => ta σ H fun vs H1 => ∃ x b ys, vs = [.str x, .ref b] ∧ SqT K H1 b ys ∧ R (ItST K x b) H1
theorem pi_zipST {X : Cx} {e e2 : Expr} {ta : TA} {p pos tpos : Pos} {elts : List Expr} {kk : Nat} (hg : Gl X "zip") (hm : X.mg "zip" = none) (ha : PA X [e, e2] ta)
    (hs : starEach [e, e2] X.env = (false, eval e X.env) :: starEach [e2] X.env := by rfl) (hpl : (backTo pos (starEach [e2] X.env)).any (·.1) = false := by rfl) :
    PI X (.Tuple elts kk tpos) (.Call (.Name "zip" p) [e, e2] [] pos) (iZipST X.K ta) := by
  refine ⟨fun pins s σ H R I h => ?_⟩
  refine Call_ (ld_blt I hg hm PyProof.Rows.boot_zip (PyProof.Rows.callWith_type1 (thn (ha.run pos pins s σ H _ I h) fun us s1 ⟨vs, H1, I1, r1, q1⟩ => ?_) hs hpl))
  obtain ⟨x, b, ys, ex, hqy, q⟩ := q1
  subst ex
  cases r1 with
  | @cons _ u1 _ us1 r1 r2 =>
  obtain ⟨t, rfl⟩ := r1
  cases r2 with
  | @cons _ u2 _ us2 r3 r4 =>
  cases r4
  cases r3
  obtain ⟨its2, rv2, p2, _⟩ := I1.tuple hqy
  have p3 : s1.heap.IsTuple b its2.toArray := p2
  have bl : b < s1.heap.objs.size := by
    obtain ⟨ob, e1, _⟩ := id p3
    exact Heap.lt_size e1
  refine zip_begins2 (begins_text x t) (begins_tuple b its2.toArray) trivial p3 fun h2 hz hTI hTO ho1 ho2 hsz hk => wpAny_pyIter_zip hz ?_
  have I2 : Inv X pins σ H1 { s1 with heap := h2 } := I1.kept (t' := s1.toks) hk
  have D : ZipSep2 (s1.heap.objs.size + 4) (s1.heap.objs.size + 2) (s1.heap.objs.size + 3) s1.heap.objs.size (s1.heap.objs.size + 1) [s1.heap.objs.size] [s1.heap.objs.size + 1, b] := sepN _ _ bl
  refine ⟨s1.heap.objs.size + 4, [s1.heap.objs.size + 4, s1.heap.objs.size + 2, s1.heap.objs.size + 3, s1.heap.objs.size, s1.heap.objs.size + 1], _, _, H1, rfl, I2, turn_zipST (t := t) D (Nat.ne_of_lt (Nat.lt_succ_of_lt bl)), ⟨hz, hTI, ⟨_, _, hTO⟩, ⟨_, ho1, rfl, rfl⟩, ⟨_, ho2, rfl, rfl⟩⟩, fun c hc => ?_, q⟩
  have le : s1.heap.objs.size ≤ c := le5 _ _ hc
  exact I1.fpOk le (I1.hok.fresh le)
theorem walk_zipST {K : PySem.W.Frag} {x : Str} {b : Addr} {ys : List V} {n : Nat} (h1 : n = x.cps.size) (h2 : n = ys.length) : Walk (ItST K x b) n (fun H => SqT K H b ys) (YPair (fun i => (x.cps[i]?).map fun c => V.str ⟨#[c]⟩) (fun i => ys[i]?)) := by
  refine ⟨fun i H hi q => ⟨ys, x.cps[i], ys[i], q, Array.getElem?_eq_getElem (by omega), List.getElem?_eq_getElem (by omega)⟩, fun H q => ⟨ys, q, .inl h1, by omega, by omega⟩, fun i H v H' hi q y => ?_⟩
  obtain ⟨T, c, y0, e1, e2, e3, e4, e5⟩ := y
  exact ⟨T, _, y0, e1, e2, e3, by show (x.cps[i]?).map _ = _; rw [e4]; rfl, e5 ys q⟩
def rUpd : V → List V → Hp → VK → Prop := fun x vs H Q => ∃ d b kvs more, x = .ref d ∧ vs = [.ref b] ∧ H d = some (.dK kvs) ∧ H b = some (.dK more) ∧ d ≠ b ∧ kvs.length + more.length ≤ sizeLine ∧ Q .non (upd H d (.dK (mergeK kvs more)))
theorem mt_update {X : Cx} : MtR X "dict.update" rUpd := by
  intro pins s σ H x vs v us Q I rx rv h
  obtain ⟨d, b, kvs, more, rfl, rfl, hd, hb, ne, hsz, q⟩ := h
  cases rx
  obtain ⟨u, rfl, ru⟩ := rv.one
  cases ru
  obtain ⟨z1, m1, vs1, r1, D1⟩ := dk_of I.hok hd
  obtain ⟨z2, m2, vs2, r2, D2⟩ := dk_of I.hok hb
  refine call_meetsIn PySem.F.slot_dict_update D1.typeIs PySem.F.entry_dict_update (PySem.F.args_dict_update_2 _ _) (meets_dict_update (mixKind X.prog X.w) d b ne m2)
    ⟨vs1, vs2, D1, D2, (by rw [← r1.length, ← r2.length]; exact hsz), fun h' hmm _ hs => ?_⟩
  have hz : (mergeK kvs more).length ≤ sizeLine := Nat.le_trans (length_mergeK more kvs) hsz
  have he : ∃ q, h'.get? d = some q := let ⟨q, _, _, hq, _⟩ := hmm; ⟨q, hq⟩
  exact ⟨.non, _, d_write I (t' := s.toks) (by rw [hd]; exact True.intro) hs he (dk_new hz m1 (r2.merge r1) hmm), rfl, q⟩
end Sw
/-! A tuple, turned about; a text, some times over. -/
namespace Sw
open PySem PySem.Spec PyProof.Rows L2 HT
section
variable {prog : Program} {w : World} {A : Around} {E : Value → Shared → Prop} {s : Shared}
theorem adjust_rev (n : Nat) : Builtin.Slice.sliceAdjust none none (-1) (n : Int) = ((n : Int) - 1, -1) := by
  unfold Builtin.Slice.sliceAdjust
  have h1 : ((-1 : Int) < 0) := by decide
  simp only [h1, if_true]
theorem places_rev (n : Nat) : Builtin.Slice.slicePlaces ((n : Int) - 1) (-1) (-1) = n := by
  unfold Builtin.Slice.slicePlaces
  have h1 : ¬ ((-1 : Int) > 0) := by decide
  simp only [h1, if_false]
  split
  · simp
  · omega
theorem fm_congr {α β : Type} {f g : α → Option β} : ∀ {l : List α}, (∀ x ∈ l, f x = g x) → l.filterMap f = l.filterMap g
  | [], _ => rfl
  | x :: l, h => by
    rw [List.filterMap_cons, List.filterMap_cons, h x List.mem_cons_self, fm_congr fun y hy => h y (List.mem_cons_of_mem _ hy)]
theorem pick_rev (xs : Array Value) : ((List.range xs.size).filterMap fun (m : Nat) => xs[(((xs.size : Int) - 1) + (m : Int) * (-1)).toNat]?).toArray = xs.toList.reverse.toArray := by
  congr 1
  have key : ∀ m : Nat, m < xs.size → xs[(((xs.size : Int) - 1) + (m : Int) * (-1)).toNat]? = xs.toList.reverse[m]? := fun m hm => by
    rw [show (((xs.size : Int) - 1) + (m : Int) * (-1)).toNat = xs.size - 1 - m by omega, List.getElem?_reverse (by rw [Array.length_toList]; exact hm), Array.getElem?_toList, Array.length_toList]
  have e : (List.range xs.size).filterMap (fun (m : Nat) => xs[(((xs.size : Int) - 1) + (m : Int) * (-1)).toNat]?) = (List.range xs.size).filterMap (fun m => xs.toList.reverse[m]?) := fm_congr fun m hm => key m (List.mem_range.mp hm)
  rw [e]
  have e2 : ∀ l : List Value, (List.range l.length).filterMap (fun m => l[m]?) = l := by
    intro l
    induction l with
    | nil => rfl
    | cons x l ih =>
      rw [List.length_cons, List.range_succ_eq_map, List.filterMap_cons]
      show x :: List.filterMap _ (List.map Nat.succ (List.range l.length)) = x :: l
      rw [List.filterMap_map]
      congr 1
  have e3 := e2 xs.toList.reverse
  rw [List.length_reverse, Array.length_toList] at e3
  rw [e3]
theorem getItem_tuple_rev {t sl : Addr} {items : Array Value} {vs : Value} {Q : Value → Shared → Prop} (ht : IsTup s.heap t items) (hs : s.heap.IsSliceOf sl .none .none vs) (ps : IsPart vs (some (-1)))
    (h : Q (.ref s.heap.objs.size) { s with heap := s.heap.push { cls := .type "tuple", data := .seq items.toList.reverse.toArray } })
    (hsz : items.size ≤ sizeLine) : wpAny (model prog w) A (getItem (.ref t) (.ref sl)) Q E s := by
  have hok : sizeOk (.seq items.toList.reverse.toArray) := by
    show items.toList.reverse.toArray.size ≤ sizeLine
    rw [List.size_toArray, List.length_reverse, Array.length_toList]
    exact hsz
  obtain ⟨os, hos, hcs, hds⟩ := id hs
  have hTs : s.TypeIs (.ref sl) "slice" := ⟨os, hos, hcs⟩
  unfold getItem
  try with_reducible refine wpAny_holding ?_
  first | refine wpAny_bind (wpAny_pure ?_) | skip
  refine wpAny_bind (wpAny_sequenceKey ht.typeIs (by decide) ?_)
  refine wpAny_bind (wpAny_callSpecial?_slot (name := Str.ofString "__getitem__") ht.typeIs PyProof.Rows.slot_tuple_getitem
    (wpAny_call_entry PyProof.Rows.slot_tuple_getitem ht.typeIs entry_tuple_getitem ?_ (args_tuple_getitem _ _)))
  show wpAny _ _ (Builtin.Tuple.tupleItemsOf (.ref t) >>= _) _ _ s
  refine wpAny_bind (tupleItemsOf_ ht ?_)
  refine wpAny_bind (wpAny_typeOf hTs ?_)
  rw [if_pos (by decide)]
  have applied : ∀ {Q' : Int × Int × Nat → Shared → Prop} {A' : Around} {E' : Value → Shared → Prop}, Q' ((items.size : Int) - 1, -1, items.size) s → wpAny (model prog w) A' (Builtin.Slice.sliceApplied (.ref sl) (pure (items.size : Int))) Q' E' s := fun {Q' A' E'} q => by
    unfold Builtin.Slice.sliceApplied Builtin.Slice.sliceFields
    refine wpAny_bind (wpAny_bind (wpAny_field hos hds (x := .none) rfl (wpAny_bind (wpAny_field hos hds (x := .none) rfl (wpAny_bind (wpAny_field hos hds (x := vs) rfl (wpAny_pure ?_)))))))
    refine wpAny_bind (slicePart_ ps ?_)
    show wpAny _ _ (if ((-1 : Int) == 0) = true then _ else _) _ _ s
    rw [if_neg (by decide)]
    refine wpAny_bind (slicePart_none (wpAny_bind (slicePart_none (wpAny_bind (wpAny_pure ?_)))))
    show wpAny _ _ (match Builtin.Slice.sliceAdjust none none (-1) (items.size : Int) with | (lo, hi) => pure (lo, (-1 : Int), Builtin.Slice.slicePlaces lo hi (-1))) _ _ s
    rw [adjust_rev]
    show wpAny _ _ (pure ((items.size : Int) - 1, (-1 : Int), Builtin.Slice.slicePlaces ((items.size : Int) - 1) (-1) (-1))) _ _ s
    rw [places_rev]
    exact wpAny_pure q
  refine wpAny_bind (applied ?_)
  have hno : ¬ ((((items.size : Int) - 1) == 0 && (-1 : Int) == 1 && items.size == items.size) = true) := by
    intro q
    rw [Bool.and_eq_true, Bool.and_eq_true] at q
    exact absurd (eq_of_beq q.1.2) (by decide)
  show wpAny _ _ (if (((items.size : Int) - 1) == 0 && (-1 : Int) == 1 && items.size == items.size) = true then _ else _) _ _ s
  rw [if_neg hno, pick_rev]
  first
    | exact wpAny_bind (m := Builtin.Tuple.tupleExact _) (wpAny_newObj_type (wpAny_pure ⟨_, rfl, wpAny_pure h⟩) hok)
    | exact wpAny_bind (m := Builtin.Tuple.tupleExact _) (wpAny_newObj_type (wpAny_bind (wpAny_pure (wpAny_pure ⟨_, rfl, wpAny_pure h⟩))) hok)
    | exact wpAny_bind (wpAny_bind (m := Builtin.Tuple.tupleExact _) (wpAny_newObj_type (wpAny_pure (wpAny_pure ⟨_, rfl, wpAny_pure h⟩)) hok))
    | exact wpAny_bind (wpAny_bind (m := Builtin.Tuple.tupleExact _) (wpAny_newObj_type (wpAny_pure ⟨_, rfl, wpAny_pure h⟩) hok))
end
def tRevT (K : PySem.W.Frag) (te : TE) : TE := fun σ H Q => te σ H fun x H1 => ∃ a xs, x = .ref a ∧ SqT K H1 a xs ∧ ∀ p, H1 p = none → Q (.ref p) (upd H1 p (.tup xs.reverse))
theorem pe_revT {X : Cx} {e : Expr} {te : TE} {k : Nat} {p1 p2 p3 pos : Pos} (he : PE X e te) : PE X (.Subscript e (.Slice none none (some (.UnaryOp .USub (.Constant (.int 1) k p1) p2)) p3) pos) (tRevT X.K te) := by
  refine ⟨fun pins s σ H Q I h => Subscript_ (thn (he.run pins s σ H _ I h) fun v s1 ⟨x, H1, I1, r1, a, xs, ex, hx, q⟩ => ?_)⟩
  subst ex
  cases r1
  have hst : PO X (some (.UnaryOp .USub (.Constant (.int 1) k p1) p2)) (tPart (tUn (rU fun i => .int (-i)) (tC (.int 1)))) := po_some (pe_un un_neg pe_int)
  refine wpAny_Slice (thn (po_none.run pins s1 σ H1 (fun o H2 => o = none ∧ H2 = H1) I1 ⟨rfl, rfl⟩) fun vl s2 ⟨l, H2, I2, pl, el, e2⟩ => ?_)
  subst el e2
  cases pl
  refine thn (po_none.run pins s2 σ H2 (fun o H3 => o = none ∧ H3 = H2) I2 ⟨rfl, rfl⟩) fun vu s3 ⟨u, H3, I3, pu, eu, e3⟩ => ?_
  subst eu e3
  cases pu
  refine thn (hst.run pins s3 σ H3 (fun o H4 => o = some (-1) ∧ H4 = H3) I3 ⟨1, rfl, -1, rfl, rfl, rfl⟩) fun vs s4 ⟨o, H4, I4, ps, eo, e4⟩ => ?_
  subst eo e4
  have I5 : Inv X pins σ H4 { s4 with heap := s4.heap.push { cls := .type "slice", data := .fields #[.none, .none, vs] } } := I4.kept (t' := s4.toks) fun b ob q => Heap.get?_push_of_some _ q
  obtain ⟨its, r, ht, hz⟩ := I5.tuple hx
  have hlen := r.length
  show wpAny (model X.prog X.w) X.A (subscriptTail e (.Slice none none (some (.UnaryOp .USub (.Constant (.int 1) k p1) p2)) p3) (.ref a) (.ref s4.heap.objs.size)) (EP X pins σ Q) X.xe { s4 with heap := s4.heap.push { cls := .type "slice", data := .fields #[.none, .none, vs] } }
  refine tail_any (ops := [.ref a, .ref s4.heap.objs.size]) ht.typeIs (PyProof.Rows.slot_tuple_getitem.lookup) ?_ (by with_unfolding_all rfl)
  refine getItem_tuple_rev ht (Heap.IsSliceOf.new _ .none .none vs) ps ?_ (by rw [List.size_toArray]; omega)
  refine ⟨.ref _, _, I5.laid (t' := s4.toks) (o := .tup xs.reverse) (fun b ob q => Heap.get?_push_of_some _ q) (Nat.le_refl _) ?_, rfl, q _ (I5.hok.fresh (Nat.le_refl _))⟩
  refine ⟨by rw [List.length_reverse]; exact hz, its.reverse, r.reverse, ⟨_, Heap.get?_push_size _ rfl, rfl, 0, ?_⟩⟩
  simp
/-- a text, k times: its length, its letters -/
def rRepQ : R2 := fun x y H Q => ∃ (z : Str) (k : Int), x = .str z ∧ y = .int k ∧ 2 ≤ k ∧ k ≤ 1000 ∧ 1 ≤ z.length ∧ z.length ≤ 1000 ∧ ∀ r : Str, r.length = z.length * k.toNat → (PyData.strOk z = true → PyData.strOk r = true) → Q (.str r) H
theorem rep_all (c : Array Nat) (p : Nat → Bool) (h : c.all p = true) : ∀ m : Nat, ((List.replicate m c).foldl (· ++ ·) #[]).all p = true := fun m => by
  have key : ∀ (m : Nat) (a : Array Nat), a.all p = true → ((List.replicate m c).foldl (· ++ ·) a).all p = true := by
    intro m
    induction m with
    | zero =>
      intro a ha
      simpa using ha
    | succ m ih =>
      intro a ha
      rw [List.replicate_succ, List.foldl_cons]
      exact ih _ (by rw [Array.all_append, ha, h]; rfl)
  exact key m #[] (by simp)
theorem op_repQ {X : Cx} : OpR X (binaryOp .Mult) rRepQ := by
  intro pins s σ H x y v u Q I rx ry h
  obtain ⟨z, k, rfl, rfl, k2, k1, z1, z2, q⟩ := h
  obtain ⟨t, rfl⟩ := rx
  obtain ⟨t', rfl⟩ := ry
  have hm : z.length * k.toNat ≤ 1000000 := Nat.le_trans (Nat.mul_le_mul z2 (show k.toNat ≤ 1000 by omega)) (by decide)
  have hc : (k == 1 || z.length == 0) = false := by
    rw [Bool.or_eq_false_iff, beq_eq_false_iff_ne, beq_eq_false_iff_ne]
    omega
  refine P.mul_str (by rw [decide_eq_false (by omega), decide_eq_false (by omega)]; rfl) (fun _ _ => ?_) (fun _ _ => ?_) ?_
  · have e : (1000 : Int) ≤ (2 ^ 63 - 1) / k := by
      rw [Int.le_ediv_iff_mul_le (by omega)]
      omega
    omega
  · unfold Builtin.Str.tooLong
    have sl := sizeLine_eq
    first
      | (rw [decide_eq_false]; omega)
      | (simp; omega)
  · rw [if_neg (by omega), if_neg (by rw [hc]; exact Bool.false_ne_true)]
    have hz : (⟨(List.replicate k.toNat z.cps).foldl (· ++ ·) #[]⟩ : Str).length = z.length * k.toNat := rep_size z.cps k.toNat
    refine ⟨?_, ⟨.str _, H, I.tok _, ⟨_, rfl⟩, q _ hz fun ho => rep_all z.cps _ ho k.toNat⟩⟩
    have sl := sizeLine_eq
    first
      | (rw [hz]; omega)
      | (show _ ≤ _; rw [hz]; omega)
end Sw
namespace K16
open PySem PySem.Spec PyProof.Rows L2 Sw
def topS (i : Nat) : Stmt := PySem.Challenge.pw_soldwhole_k16_deeds_of_any_value.main.body.getD i (.Pass ⟨0, 0, 0, 0⟩)
/-- the module's own names -/
structure Tx (mg : Str → Option Value) : Prop where
  gcd : mg "gcd" = some (.builtin "math.gcd")
  LONGEST_NAME : ∃ u, mg "LONGEST_NAME" = some u ∧ L2.RelV (.int 12) u
/-- a thing that is the same as itself by == -/
def Selfs (K : PySem.W.Frag) (H : Hp) (x y : V) : Prop := ∃ n, n ≤ 60 ∧ EqR K H (EqV K H n) x y
def spAlike (K : PySem.W.Frag) : Sp := fun vs H Q _ => ∃ (x y : V) (mu : Addr → Prop) (d : PyData), vs = [x, y] ∧ Dt K mu H x d ∧ Dt K mu H y d ∧ Ok d ∧ (d.hasDict = false ∨ (mu sysModules ∧ Selfs K H x y)) ∧ Q (.bl true) H
/-! ### what is told of data -/
def isInt (d : PyData) : Bool := isT "int" d && !isT "bool" d
def isFrac : PyData → Bool
  | .tuple [.int n, .int d] => decide (1 ≤ d) && decide (gI n d = 1)
  | _ => false
def isNm : PyData → Bool
  | .str x => nameS x
  | _ => false
theorem isFrac_eq (n d : Int) : isFrac (.tuple [.int n, .int d]) = (decide (1 ≤ d) && decide (gI n d = 1)) := rfl
/-- tells p of any datum -/
def spP (K : PySem.W.Frag) (p : PyData → Bool) : Sp := fun vs H Q _ => ∃ (v : V) (mu : Addr → Prop) (d : PyData), vs = [v] ∧ Dt K mu H v d ∧ Ok d ∧ ∀ H', Same H H' → Q (.bl (p d)) H'
theorem spP_len {K : PySem.W.Frag} {p : PyData → Bool} {x : Str} : ∀ vs H Q E, spP K p vs H Q E → vs.length = [x].length := fun vs H Q E h => by
  obtain ⟨v, mu, d, rfl, _⟩ := h
  rfl
section
variable {P : Program} {w : World} {K : PySem.W.Frag} {mg : Str → Option Value} {base : Heap}
abbrev sis_integer : Stmt := topS 4
theorem sc_is_integer : FnScope ["thing"] ["thing"] (defScope sis_integer) := ⟨rfl, rfl, rfl, by decide +kernel, rfl, by decide +kernel, by decide +kernel⟩
theorem ok_is_integer {f : Addr} {fd : FuncData} (F : Fun K "is_integer" "is_integer" sis_integer f fd) (B : Bt mg) : FnG P w K mg base 1 f fd ["thing"] (spP K isInt) := by
  refine Fun.okG F sc_is_integer spP_len (fun cdv A outer s H vs Q E hg hr h => ?_)
  obtain ⟨v, mu, d, rfl, hd, ho, k⟩ := h
  refine ⟨_, (pss_one (ps_ret (pe_and (pe_callB call_isD (by rfl) B.isin bb_isin (pa_cons (pv 0) (pa_cons (pe_bltn (v := .ty "int") rfl B.int bb_int rfl) pa_nil))) (pe_one (pe_not (pe_callB call_isD (by rfl) B.isin bb_isin (pa_cons (pv 0) (pa_cons (pe_bltn (v := .ty "bool") rfl B.bool bb_bool rfl) pa_nil)))))))), ?_⟩
  refine ⟨_, rfl, _, "int", mu, d, rfl, by decide, hd, _, rfl, ?_⟩
  have k := k H (Same.refl H)
  unfold isInt at k
  cases h1 : isT "int" d with
  | false =>
    rw [h1] at k
    exact iteF k
  | true =>
    rw [h1] at k
    exact iteT ⟨_, rfl, _, "bool", mu, d, rfl, by decide, hd, _, rfl, k⟩
abbrev sis_fraction : Stmt := topS 5
theorem sc_is_fraction : FnScope ["thing", "n", "d"] ["thing"] (defScope sis_fraction) := ⟨rfl, rfl, rfl, by decide +kernel, rfl, by decide +kernel, by decide +kernel⟩
theorem ok_is_fraction {f : Addr} {fd : FuncData} (F : Fun K "is_fraction" "is_fraction" sis_fraction f fd) (B : Bt mg) (T : Tx mg) (c_is_integer : CalG P w K mg base 1 "is_integer" (spP K isInt)) : FnG P w K mg base 2 f fd ["thing"] (spP K isFrac) := by
  refine Fun.okG F sc_is_fraction spP_len (fun cdv A outer s H vs Q E hg hr h => ?_)
  obtain ⟨v, mu, d, rfl, hd, ho, k⟩ := h
  refine ⟨_, (pss_cons (ps_if (PW.pt (pw_or (pt_not (pt_val (pe_callB call_isD (by rfl) B.isin bb_isin (pa_cons (pv 0) (pa_cons (pe_bltn (v := .ty "tuple") rfl B.tuple bb_tuple rfl) pa_nil))))) (pw_or1 (pt_cmpR op_ne (pe_callB call_lenA (by rfl) B.len boot_len (pa_cons (pv 0) pa_nil)) pe_int (nomark _)))))
      (pss_one (ps_ret pe_bl))
      pss_nil)
    (pss_cons (ps_asg (pv 0) (pg_tup (n := 2) rfl (pgs_cons (pg_name (i := 1) sc_is_fraction.nd rfl (Or.inl rfl)) (pgs_cons (pg_name (i := 2) sc_is_fraction.nd rfl (Or.inl rfl)) pgs_nil))))
    (pss_one (ps_ret (pe_and (pc c_is_integer hg hr (by decide) (by rfl) (pa_cons (pv 1) pa_nil)) (pe_and (pc c_is_integer hg hr (by decide) (by rfl) (pa_cons (pv 2) pa_nil)) (pe_and (pe_cmpR op_ge (pv 2) pe_int (nomark _)) (pe_one (pe_cmpR op_eq (pe_callBfun cr_gcd (by rfl) T.gcd (pa_cons (pv 1) (pa_cons (pv 2) pa_nil))) pe_int (nomark _)))))))))), ?_⟩
  refine ⟨_, rfl, _, "tuple", mu, d, rfl, by decide, hd, _, rfl, ?_⟩
  have k0 := k H (Same.refl H)
  refine iteN (fun ht => ?_) fun ht => ?_
  · have e : isFrac d = false := by
      cases d <;> first | rfl | (simp [isT, tyName] at ht)
    rw [e] at k0
    exact iteT k0
  · obtain ⟨ds, rfl⟩ := (isTup d).mp ht
    obtain ⟨a, xs, rfl, hS, hA⟩ := hd.tupAt
    have el := hA.length
    refine ⟨_, rfl, _, xs.length, rfl, .inr ⟨_, hS, rfl⟩, rfl, _, rfl, iteNe (fun hn => ?_) fun hn => ?_⟩
    · have e : isFrac (.tuple ds) = false := by
        unfold isFrac
        split
        · rename_i z
          injection z with z
          rw [z] at el
          simp at el
          omega
        · rfl
      rw [e] at k0
      exact k0
    · obtain ⟨x, y, d1, d2, rfl, rfl, r1, r2⟩ := hA.two (by omega)
      · have o1 : Ok d1 := ho.inT (by simp)
        have o2 : Ok d2 := ho.inT (by simp)
        refine ⟨_, rfl, a, [x, y], rfl, hS, rfl, x, [y], rfl, y, [], rfl, rfl, ?_⟩
        have no : (∀ n m, d1 = .int n → d2 = .int m → False) → isFrac (.tuple [d1, d2]) = false := fun z => by
          unfold isFrac
          split
          · rename_i q
            injection q with q
            injection q with q1 q
            injection q with q2 _
            exact (z _ _ q1 q2).elim
          · rfl
        refine ⟨x, rfl, x, mu, d1, rfl, r1, o1, fun H1 s1 => ⟨_, rfl, iteB (fun h1 => ?_) fun h1 => ?_⟩⟩
        · refine ⟨y, rfl, y, mu, d2, rfl, r2.fut (.of_same s1), o2, fun H2 s2 => ⟨_, rfl, iteB (fun h2 => ?_) fun h2 => ?_⟩⟩
          · obtain ⟨n, rfl⟩ := (isIntD d1).mp h1
            obtain ⟨m, rfl⟩ := (isIntD d2).mp h2
            cases r1
            cases r2
            have kk := k H2 (s1.trans s2)
            rw [isFrac_eq] at kk
            refine ⟨_, rfl, _, _, rfl, rfl, _, rfl, iteP (fun h3 => ?_) fun h3 => ?_⟩
            · rw [decide_eq_true h3, Bool.true_and] at kk
              refine ⟨_, rfl, _, rfl, _, _, rfl, rfl, ?_⟩
              show Q (.bl (decide (V.int (gI n m) = V.int 1))) H2
              rw [Sw.dec_int]
              exact kk
            · rw [decide_eq_false h3, Bool.false_and] at kk
              exact kk
          · have kk := k H2 (s1.trans s2)
            rw [no fun n m e1 e2 => by rw [e2] at h2; cases h2] at kk
            exact kk
        · have kk := k H1 s1
          rw [no fun n m e1 e2 => by rw [e1] at h1; cases h1] at kk
          exact kk
abbrev sis_name : Stmt := topS 7
theorem sc_is_name : FnScope ["thing"] ["thing"] (defScope sis_name) := ⟨rfl, rfl, rfl, by decide +kernel, rfl, by decide +kernel, by decide +kernel⟩
theorem ok_is_name {f : Addr} {fd : FuncData} (F : Fun K "is_name" "is_name" sis_name f fd) (B : Bt mg) (T : Tx mg) : FnG P w K mg base 1 f fd ["thing"] (spP K isNm) := by
  refine Fun.okG F sc_is_name spP_len (fun cdv A outer s H vs Q E hg hr h => ?_)
  obtain ⟨v, mu, d, rfl, hd, ho, k⟩ := h
  refine ⟨_, (pss_cons (ps_if (PW.pt (pw_or (pt_not (pt_val (pe_callB call_isD (by rfl) B.isin bb_isin (pa_cons (pv 0) (pa_cons (pe_bltn (v := .ty "str") rfl B.str bb_str rfl) pa_nil))))) (pw_or1 (pt_not (pt_chain op_le op_le pe_int (pe_callB call_lenA (by rfl) B.len boot_len (pa_cons (pv 0) pa_nil)) (C8.pe_gc rfl T.LONGEST_NAME))))))
      (pss_one (ps_ret pe_bl))
      pss_nil)
    (pss_one (ps_ret (pe_and (pe_bm0 PySem.F.plainAttrs_str PySem.F.slot_str_isascii PySem.F.type_str_isascii mt_isascii (pv 0)) (pe_and (pe_bm0 PySem.F.plainAttrs_str PySem.F.slot_str_isalpha PySem.F.type_str_isalpha mt_isalpha (pv 0)) (pe_one (pe_bm0 PySem.F.plainAttrs_str PySem.F.slot_str_islower PySem.F.type_str_islower mt_islower (pv 0)))))))), ?_⟩
  refine ⟨_, rfl, _, "str", mu, d, rfl, by decide, hd, _, rfl, ?_⟩
  have k0 := k H (Same.refl H)
  refine iteN (fun ht => ?_) fun ht => ?_
  · have e : isNm d = false := by
      cases d <;> first | rfl | (simp [isT, tyName] at ht)
    rw [e] at k0
    exact k0
  · obtain ⟨x, rfl⟩ := (isStr d).mp ht
    have hl := ho.strLen
    cases hd
    have e0 : isNm (.str x) = nameS x := rfl
    unfold nameS at e0
    refine ⟨_, rfl, .str x, x.length, rfl, ⟨Nat.le_trans hl (by decide), rfl⟩, _, _, rfl, rfl, _, rfl, iteP (fun h1 => ?_) fun h1 => ?_⟩
    · refine ⟨_, _, rfl, rfl, _, rfl, iteN (fun h2 => ?_) fun h2 => ?_⟩
      · have z : ¬ x.length ≤ 12 := by
          have := of_decide_eq_false h2
          omega
        rw [e0, decide_eq_false z, Bool.and_false, Bool.false_and] at k0
        exact k0
      · have z : x.length ≤ 12 := by
          have := of_decide_eq_true h2
          omega
        have z1 : 1 ≤ x.length := by omega
        rw [e0, decide_eq_true z, decide_eq_true z1, Bool.true_and, Bool.true_and, ← name_txt x z1] at k0
        refine ⟨_, rfl, rfl, x, rfl, rfl, trivial, _, rfl, iteB (fun h3 => ?_) fun h3 => ?_⟩
        · rw [h3, Bool.true_and] at k0
          refine ⟨_, rfl, rfl, x, rfl, rfl, trivial, _, rfl, iteB (fun h4 => ?_) fun h4 => ?_⟩
          · rw [h4, Bool.true_and] at k0
            exact ⟨_, rfl, rfl, x, rfl, rfl, trivial, k0⟩
          · rw [h4, Bool.false_and] at k0
            exact k0
        · rw [h3, Bool.false_and] at k0
          exact k0
    · have z1 : ¬ 1 ≤ x.length := by omega
      rw [e0, decide_eq_false z1, Bool.false_and, Bool.false_and] at k0
      exact ⟨_, rfl, iteT k0⟩
abbrev s_law_is_int : Stmt := topS 27
theorem sc__law_is_int : FnScope ["thing"] ["thing"] (defScope s_law_is_int) := ⟨rfl, rfl, rfl, by decide +kernel, rfl, by decide +kernel, by decide +kernel⟩
theorem ok__law_is_int {f : Addr} {fd : FuncData} (F : Fun K "_law_is_int" "_law_is_int" s_law_is_int f fd) (B : Bt mg) : FnG P w K mg base 1 f fd ["thing"] (spP K isInt) := by
  refine Fun.okG F sc__law_is_int spP_len (fun cdv A outer s H vs Q E hg hr h => ?_)
  obtain ⟨v, mu, d, rfl, hd, ho, k⟩ := h
  refine ⟨_, (pss_one (ps_ret (pe_and (pe_callB call_isD (by rfl) B.isin bb_isin (pa_cons (pv 0) (pa_cons (pe_bltn (v := .ty "int") rfl B.int bb_int rfl) pa_nil))) (pe_one (pe_not (pe_callB call_isD (by rfl) B.isin bb_isin (pa_cons (pv 0) (pa_cons (pe_bltn (v := .ty "bool") rfl B.bool bb_bool rfl) pa_nil)))))))), ?_⟩
  refine ⟨_, rfl, _, "int", mu, d, rfl, by decide, hd, _, rfl, ?_⟩
  have k := k H (Same.refl H)
  unfold isInt at k
  cases h1 : isT "int" d with
  | false =>
    rw [h1] at k
    exact iteF k
  | true =>
    rw [h1] at k
    exact iteT ⟨_, rfl, _, "bool", mu, d, rfl, by decide, hd, _, rfl, k⟩
/-- the common divisor of two integers' sizes -/
def spCommon : Sp := fun vs H Q _ => ∃ a b : Int, vs = [.int a, .int b] ∧ Q (.int (gI a b)) H
abbrev s_law_common : Stmt := topS 28
theorem sc__law_common : FnScope ["one", "other"] ["one", "other"] (defScope s_law_common) := ⟨rfl, rfl, rfl, by decide +kernel, rfl, by decide +kernel, by decide +kernel⟩
theorem ok__law_common {f : Addr} {fd : FuncData} (F : Fun K "_law_common" "_law_common" s_law_common f fd) (B : Bt mg) : FnG P w K mg base 1 f fd ["one", "other"] spCommon := by
  refine Fun.okG F sc__law_common (fun vs H Q E h => ?_) (fun cdv A outer s H vs Q E hg hr h => ?_)
  · obtain ⟨a, b, rfl, _⟩ := h
    rfl
  obtain ⟨a, b, rfl, k⟩ := h
  refine ⟨_, (pss_cons (ps_par (i := 0) (j := 1) rfl sc__law_common.nd rfl rfl (by decide) rfl rfl (pa_cons (pe_callB call_abs (by rfl) B.abs bb_abs (pa_cons (pv 0) pa_nil)) (pa_cons (pe_callB call_abs (by rfl) B.abs bb_abs (pa_cons (pv 1) pa_nil)) pa_nil)) (by rfl))
    (pss_cons (ps_while PassesOwn.never (pt_cmpR op_gt (pv 1) pe_int (nomark _))
      (pss_one (ps_par (i := 0) (j := 1) rfl sc__law_common.nd rfl rfl (by decide) rfl rfl (pa_cons (pv 1) (pa_cons (pe_op op_mod (pe_callTy call_int1 (by rfl) B.int bb_int (pa_cons (pv 0) pa_nil)) (pv 1)) pa_nil)) (by rfl))))
    (pss_one (ps_ret (pv 0))))), ?_⟩
  have ab : ∀ i : Int, (if i < 0 then -i else i) = (i.natAbs : Int) := fun i => by split <;> omega
  refine ⟨_, rfl, a, rfl, _, rfl, b, rfl, _, _, rfl, ?_⟩
  rw [ab a, ab b]
  refine while_by (fun σ H1 => ∃ x y : Nat, σ = [some (.int x), some (.int y)] ∧ Nat.gcd x y = Nat.gcd a.natAbs b.natAbs ∧ H1 = H) (fun σ _ => match σ with | [_, some (.int j)] => j.toNat | _ => 0) ⟨a.natAbs, b.natAbs, rfl, rfl, rfl⟩ ?_ ?_
  · rintro σ H1 ⟨x, y, rfl, e, rfl⟩
    refine ⟨_, rfl, _, _, rfl, rfl, _, rfl, iteP (fun h => ?_) fun h => ?_⟩
    · refine ⟨_, rfl, _, rfl, .inl ⟨_, rfl, _, rfl, _, _, rfl, rfl, h, _, _, rfl, ?_⟩⟩
      refine ⟨⟨y, x % y, ?_, (gcd_step x y).trans e, rfl⟩, ?_⟩
      · show [some (V.int (y : Int)), some (V.int ((x : Int) % (y : Int)))] = _
        rw [← Int.natCast_emod]
      · show ((x : Int) % (y : Int)).toNat < ((y : Nat) : Int).toNat
        have := Int.emod_lt_of_pos (x : Int) h
        have := Int.emod_nonneg (x : Int) (show (y : Int) ≠ 0 by omega)
        omega
    · have hy : y = 0 := by omega
      subst hy
      rw [Nat.gcd_zero_right] at e
      rw [e] 
      exact ⟨_, rfl, k⟩
  · rintro σ H1 R R' hh ⟨v, e1, i, j, e2, e3, c, e4, q⟩
    exact ⟨v, e1, i, j, e2, e3, c, e4, hh _ _ q⟩
abbrev s_law_take : Stmt := topS 24
theorem sc__law_take : FnScope ["bag", "many", "cell", "stirred", "value", "begin", "second"] ["bag", "many"] (defScope s_law_take) := ⟨rfl, rfl, rfl, by decide +kernel, rfl, by decide +kernel, by decide +kernel⟩
theorem ok__law_take {f : Addr} {fd : FuncData} (F : Fun K "_law_take" "_law_take" s_law_take f fd) (B : Bt mg) : FnG P w K mg base 1 f fd ["bag", "many"] spTake := by
  refine Fun.okG F sc__law_take (fun vs H Q E h => ?_) (fun cdv A outer s H vs Q E hg hr h => ?_)
  · obtain ⟨b, m, rfl, _⟩ := h
    rfl
  obtain ⟨b, many, rfl, hb, hm0, hm1, k⟩ := h
  refine ⟨_, (C8.pss_cut (ps_if (pt_cmpR op_eq (pe_ix ix_list (pv 0) pe_int (fun _ _ => rfl)) pe_int (nomark _))
      (pss_cons (ps_set (i := 2) sc__law_take.nd rfl (Or.inl rfl) (pe_ix ix_list (pe_op op_cat (pe_slice sl_list (pe_ix ix_list (pv 0) pe_int (fun _ _ => rfl)) (po_some (pe_ix ix_list (pv 0) pe_int (fun _ _ => rfl))) po_none) (pe_lst (pa_cons pe_int pa_nil))) pe_int (fun _ _ => rfl)))
      (pss_cons (ps_augS (pv 0) pe_int get_list pe_int ip_add set_list)
      (C8.pss_cut (ps_if (pt_cmpR op_ge (pv 2) (pe_op op_pow pe_int pe_int) (nomark _))
        (pss_one (ps_asg (pv 2) (pg_sub (pv 0) pe_int set_list)))
        pss_nil)
      (pss_cons (ps_set (i := 3) sc__law_take.nd rfl (Or.inl rfl) (pe_op op_add (pe_op op_add (pe_op op_mul (pe_ix ix_list (pv 0) pe_int (fun _ _ => rfl)) pe_int) (pe_op op_mod (pe_callTy call_int1 (by rfl) B.int bb_int (pa_cons (pv 2) pa_nil)) pe_int)) (pe_op op_mul pe_int (pe_ix ix_list (pv 0) pe_int (fun _ _ => rfl)))))
      (pss_one (ps_asg (pe_op op_mod (pe_callTy call_int1 (by rfl) B.int bb_int (pa_cons (pv 3) pa_nil)) pe_int) (pg_sub (pv 0) pe_int set_list)))))))
      pss_nil)
    (pss_cons (ps_if (pt_cmpR op_gt (pe_ix ix_list (pv 0) pe_int (fun _ _ => rfl)) pe_int (nomark _))
      (pss_cons (ps_set (i := 4) sc__law_take.nd rfl (Or.inl rfl) (pe_op op_mod (pe_callTy call_int1 (by rfl) B.int bb_int (pa_cons (pe_ix ix_list (pv 0) pe_int (fun _ _ => rfl)) pa_nil)) (pv 1)))
      (pss_cons (ps_asg (pe_op op_fdiv (pe_callTy call_int1 (by rfl) B.int bb_int (pa_cons (pe_ix ix_list (pv 0) pe_int (fun _ _ => rfl)) pa_nil)) (pv 1)) (pg_sub (pv 0) pe_int set_list))
      (pss_one (ps_ret (pv 4)))))
      pss_nil)
    (pss_cons (ps_set (i := 5) sc__law_take.nd rfl (Or.inl rfl) (pe_op op_mod (pe_callTy call_int1 (by rfl) B.int bb_int (pa_cons (pe_op op_mul (pe_op op_add (pe_ix ix_list (pv 0) pe_int (fun _ _ => rfl)) pe_int) pe_int) pa_nil)) pe_int))
    (pss_cons (ps_set (i := 6) sc__law_take.nd rfl (Or.inl rfl) (pe_op op_mod (pe_callTy call_int1 (by rfl) B.int bb_int (pa_cons (pe_op op_mul (pe_op op_mod (pe_callTy call_int1 (by rfl) B.int bb_int (pa_cons (pe_op op_mul (pv 5) (pv 5)) pa_nil)) pe_int) pe_int) pa_nil)) pe_int))
    (pss_one (ps_ret (pe_op op_mod (pe_callTy call_int1 (by rfl) B.int bb_int (pa_cons (pe_op op_fdiv (pv 6) pe_int) pa_nil)) (pv 1)))))))), ?_⟩
  obtain ⟨x, y, z, l, cs, h1, h2, hlb, hx, hy0, hy1, hz, hcl, hc⟩ := hb
  refine ⟨fun σ H' => ∃ v2 v3, σ = [some (.ref b), some (.int many), v2, v3, none, none, none] ∧ Rel b H H', ?_, ?_⟩
  · refine ⟨_, rfl, b, _, 0, .int x, rfl, rfl, .of h1, atI_nat (j := 0) rfl, rfl, _, rfl, iteEq (fun e => ?_) fun e => ?_⟩
    · -- cell = (bag[3][bag[2]:] + [0])[0]
      refine ⟨_, rfl, b, _, 3, .ref l, rfl, rfl, .of h1, atI_nat (j := 3) rfl, _, rfl, b, _, 2, .int z, rfl, rfl, .of h1, atI_nat (j := 2) rfl, z, rfl, l, _, rfl, .of h2, fun p1 n1 => ?_⟩
      refine ⟨by show 1 ≤ sizeLine; decide, fun p2 n2 => ?_⟩
      have s1 := same_upd (o := .lst (cutV (cs.map V.int) (some z) none)) n1
      have s2 := same_upd (o := .lst [.int 0]) n2
      have hle : (cutV (cs.map V.int) (some z) none).length ≤ 63 := Nat.le_trans (cut_len _ _ _) (by rw [List.length_map]; exact hcl)
      refine ⟨p1, p2, _, _, rfl, rfl, s2 _ _ upd_same, upd_same, Nat.le_of_lt (small1000 (by show _ + 1 ≤ 1000; omega)), fun p3 n3 => ?_⟩
      have s3 := same_upd (o := .lst (cutV (cs.map V.int) (some z) none ++ [.int 0])) n3
      obtain ⟨c, hc0, hcv⟩ := head_cell hc (some z) none
      refine ⟨p3, _, 0, .int c, rfl, rfl, .of upd_same, atI_nat (j := 0) hcv, ?_⟩
      have s13 := (s1.trans s2).trans s3
      clear s1 s2 s3 n1 n2 n3 hle hcv
      revert s13
      generalize upd (upd (upd H p1 (.lst (cutV (cs.map V.int) (some z) none))) p2 (.lst [.int 0])) p3 (.lst (cutV (cs.map V.int) (some z) none ++ [.int 0])) = H3
      intro s13
      have g1 := s13 _ _ h1
      have g2 := s13 _ _ h2
      -- bag[2] += 1
      refine ⟨_, rfl, b, _, 2, .int z, rfl, rfl, .of g1, rfl, z, 1, rfl, rfl, b, _, 2, 2, rfl, rfl, g1, rfl, ?_⟩
      have r1 : Rel b H (upd H3 b (.lst [.int x, .int y, .int (z + 1), .ref l])) := ⟨fun a o n e => by rw [upd_ne n]; exact s13 a o e, fun k z => by rw [z.eq h1]; exact ⟨_, _, _, upd_same⟩, x, y, z + 1, l, cs, upd_same, by rw [upd_ne hlb]; exact g2, hlb, hx, hy0, hy1, by omega, hcl, hc⟩
      -- if cell >= 10 ** 18: bag[0] = cell
      refine ⟨fun σ H' => ∃ x', σ = [some (.ref b), some (.int many), some (.int c), none, none, none, none] ∧ Rel b H H' ∧ H' b = some (.lst [.int x', .int y, .int (z + 1), .ref l]) ∧ 0 ≤ x', ?_, ?_⟩
      · refine ⟨_, rfl, _, _, rfl, rfl, ⟨by decide, by decide, by decide⟩, _, _, rfl, rfl, _, rfl, iteP (fun h => ?_) fun h => ?_⟩
        · refine ⟨_, rfl, _, rfl, b, _, 0, 0, rfl, rfl, upd_same, rfl, c, rfl, ⟨fun a o n e => by rw [upd_ne n]; exact r1.keep a o n e, fun k z => by rw [z.eq h1]; exact ⟨_, _, _, upd_same⟩, c, y, z + 1, l, cs, upd_same, by rw [upd_ne hlb, upd_ne hlb]; exact g2, hlb, hc0, hy0, hy1, by omega, hcl, hc⟩, upd_same, hc0⟩
        · exact ⟨x, rfl, r1, upd_same, hx⟩
      · rintro σ H' ⟨x', rfl, R, hB, hx'⟩
        have e1 : l ≠ b := hlb
        have g3 : H' l = some (.lst (cs.map V.int)) := R.keep _ _ hlb h2
        refine ⟨_, rfl, b, _, 1, .int y, rfl, rfl, .of hB, atI_nat (j := 1) rfl, _, _, rfl, rfl, .inl ⟨by omega, by omega⟩, _, rfl, .inl ⟨_, rfl, _, _, rfl, rfl, (by show (0 : Int) < _; decide), _, _, rfl, rfl, _, rfl, b, _, 2, .int (z + 1), rfl, rfl, .of hB, atI_nat (j := 2) rfl, _, _, rfl, rfl, .inl ⟨by decide, by decide⟩, _, _, rfl, rfl, ?_⟩⟩
        refine ⟨_, rfl, .inl ⟨_, rfl, _, _, rfl, rfl, (by show (0 : Int) < _; decide), _, rfl, b, _, 1, 1, rfl, rfl, hB, rfl, _, _, rfl, ?_⟩⟩
        exact ⟨fun a o n e => by rw [upd_ne n]; exact R.keep a o n e, fun k z => by rw [z.eq h1]; exact ⟨_, _, _, upd_same⟩, x', _, z + 1, l, cs, upd_same, by rw [upd_ne hlb]; exact g3, hlb, hx', Int.emod_nonneg _ (by decide), Int.emod_lt_of_pos _ (by decide), by omega, hcl, hc⟩
    · exact ⟨_, _, rfl, .refl ⟨x, y, z, l, cs, h1, h2, hlb, hx, hy0, hy1, hz, hcl, hc⟩⟩
  · rintro σ H' ⟨v2, v3, rfl, R⟩
    obtain ⟨x, y, z, l, cs, h1, h2, hlb, hx, hy0, hy1, hz, hcl, hc⟩ := id R.bag
    refine ⟨_, rfl, b, _, 0, .int x, rfl, rfl, .of h1, atI_nat (j := 0) rfl, _, _, rfl, rfl, _, rfl, iteP (fun h => ?_) fun h => ?_⟩
    · refine ⟨_, rfl, b, _, 0, .int x, rfl, rfl, .of h1, atI_nat (j := 0) rfl, .inl ⟨_, rfl, _, rfl, _, _, rfl, rfl, hm0, ?_⟩⟩
      refine ⟨_, rfl, b, _, 0, .int x, rfl, rfl, .of h1, atI_nat (j := 0) rfl, .inl ⟨_, rfl, _, rfl, _, _, rfl, rfl, ⟨hm0, hm1⟩, _, rfl, b, _, 0, 0, rfl, rfl, h1, rfl, ?_⟩⟩
      refine ⟨_, rfl, k _ _ (Int.emod_nonneg _ (by omega)) (Int.emod_lt_of_pos _ hm0) ⟨fun a o n e => by rw [upd_ne n]; exact R.keep a o n e, fun k z => by rw [(R.cell k z).eq h1]; exact ⟨_, _, _, upd_same⟩, _, y, z, l, cs, upd_same, by rw [upd_ne hlb]; exact h2, hlb, Int.ediv_nonneg hx (by omega), hy0, hy1, hz, hcl, hc⟩⟩
    · have f1 := Int.emod_nonneg ((y + 1) * 39373) (show (1000000007 : Int) ≠ 0 by decide)
      have f2 := Int.emod_lt_of_pos ((y + 1) * 39373) (show (0 : Int) < 1000000007 by decide)
      refine ⟨_, rfl, b, _, 1, .int y, rfl, rfl, .of h1, atI_nat (j := 1) rfl, _, _, rfl, rfl, _, _, rfl, rfl, .inl ⟨by omega, by omega⟩, .inl ⟨_, rfl, _, _, rfl, rfl, (by show (0 : Int) < _; decide), ?_⟩⟩
      refine ⟨_, rfl, _, rfl, _, _, rfl, rfl, .inl ⟨by omega, by omega⟩, .inl ⟨_, rfl, _, _, rfl, rfl, (by show (0 : Int) < _; decide), _, _, rfl, rfl, .inr ⟨by decide, by decide⟩, .inl ⟨_, rfl, _, _, rfl, rfl, (by show (0 : Int) < _; decide), ?_⟩⟩⟩
      refine ⟨_, rfl, _, _, rfl, rfl, ⟨by decide, by decide⟩, .inl ⟨_, rfl, _, rfl, _, _, rfl, rfl, hm0, k _ _ (Int.emod_nonneg _ (by omega)) (Int.emod_lt_of_pos _ hm0) R⟩⟩
abbrev s_law_some : Stmt := topS 25
theorem sc__law_some : FnScope ["bag", "things"] ["bag", "things"] (defScope s_law_some) := ⟨rfl, rfl, rfl, by decide +kernel, rfl, by decide +kernel, by decide +kernel⟩
theorem ok__law_some {f : Addr} {fd : FuncData} (F : Fun K "_law_some" "_law_some" s_law_some f fd) (B : Bt mg) (c__law_take : CalG P w K mg base 1 "_law_take" spTake) : FnG P w K mg base 2 f fd ["bag", "things"] spSome := by
  refine Fun.okG F sc__law_some (fun vs H Q E h => ?_) (fun cdv A outer s H vs Q E hg hr h => ?_)
  · obtain ⟨b, t, xs, rfl, _⟩ := h
    rfl
  obtain ⟨b, t, xs, rfl, hb, ht, h1, h2, h3, k⟩ := h
  refine ⟨_, (pss_one (ps_ret (pe_ix ix_list (pv 1) (pc c__law_take hg hr (by decide) (by rfl) (pa_cons (pv 0) (pa_cons (pe_callB call_lenA (by rfl) B.len boot_len (pa_cons (pv 1) pa_nil)) pa_nil))) (fun _ _ => rfl)))), ?_⟩
  refine ⟨_, rfl, _, rfl, _, rfl, _, xs.length, rfl, .inl ⟨xs, .of h1, rfl⟩, b, _, rfl, hb, by omega, by omega, fun v H' v0 v1 R => ?_⟩
  obtain ⟨i, rfl⟩ : ∃ i : Nat, v = (i : Int) := ⟨v.toNat, by omega⟩
  have hi : i < xs.length := by omega
  exact ⟨t, xs, i, xs[i], rfl, rfl, .of (R.keep _ _ ht h1), atI_nat (List.getElem?_eq_getElem hi), k i _ H' (List.getElem?_eq_getElem hi) R⟩
/-- the FRACTION n / d -/
def spRed : Sp := fun vs H Q _ => ∃ n d : Int, vs = [.int n, .int d] ∧ d ≠ 0 ∧ d.natAbs < 2 ^ 8000 ∧ ∀ p, H p = none → Q (.ref p) (upd H p (.tup [.int (redI n d).1, .int (redI n d).2]))
abbrev s_law_reduced : Stmt := topS 29
theorem sc__law_reduced : FnScope ["n", "d", "shared"] ["n", "d"] (defScope s_law_reduced) := ⟨rfl, rfl, rfl, by decide +kernel, rfl, by decide +kernel, by decide +kernel⟩
theorem ok__law_reduced {f : Addr} {fd : FuncData} (F : Fun K "_law_reduced" "_law_reduced" s_law_reduced f fd) (B : Bt mg) (c__law_common : CalG P w K mg base 1 "_law_common" spCommon) : FnG P w K mg base 2 f fd ["n", "d"] spRed := by
  refine Fun.okG F sc__law_reduced (fun vs H Q E h => ?_) (fun cdv A outer s H vs Q E hg hr h => ?_)
  · obtain ⟨n, d, rfl, _⟩ := h
    rfl
  obtain ⟨n, d, rfl, h0, h1, k⟩ := h
  refine ⟨_, (pss_cons (ps_set (i := 2) sc__law_reduced.nd rfl (Or.inl rfl) (pe_callB (call_max2 rfl) (by rfl) B.max bb_max (pa_cons pe_int (pa_cons (pc c__law_common hg hr (by decide) (by rfl) (pa_cons (pv 0) (pa_cons (pv 1) pa_nil))) pa_nil))))
    (pss_cons (ps_if (pt_cmpR op_lt (pv 1) pe_int (nomark _))
      (pss_one (ps_ret (pe_tup (pa_cons (pe_op op_fdivW (pe_un un_neg (pv 0)) (pv 2)) (pa_cons (pe_op op_fdivW (pe_un un_neg (pv 1)) (pv 2)) pa_nil)))))
      pss_nil)
    (pss_one (ps_ret (pe_tup (pa_cons (pe_op op_fdivW (pv 0) (pv 2)) (pa_cons (pe_op op_fdivW (pv 1) (pv 2)) pa_nil))))))), ?_⟩
  have hw : CDivW 0 (sh n d) := wide_div (sh_pos n d) (Nat.lt_of_le_of_lt (sh_le h0) h1) (by decide) (by decide)
  have e1 : (if gI n d > 1 then gI n d else 1) = sh n d := rfl
  refine ⟨_, rfl, _, rfl, n, d, rfl, _, _, rfl, ?_⟩
  rw [e1]
  refine ⟨_, rfl, _, _, rfl, rfl, _, rfl, iteP (fun h => ?_) fun h => ?_⟩
  · have e2 : redI n d = ((-n) / sh n d, (-d) / sh n d) := if_pos h
    rw [e2] at k
    refine ⟨_, rfl, _, rfl, _, rfl, _, _, rfl, rfl, hw, _, rfl, _, rfl, _, rfl, _, _, rfl, rfl, hw, by show 2 ≤ sizeLine; decide, fun p np => k p np⟩
  · have e2 : redI n d = (n / sh n d, d / sh n d) := if_neg h
    rw [e2] at k
    refine ⟨_, rfl, _, rfl, _, _, rfl, rfl, hw, _, rfl, _, rfl, _, _, rfl, rfl, hw, by show 2 ≤ sizeLine; decide, fun p np => k p np⟩
abbrev s_law_number : Stmt := topS 30
theorem sc__law_number : FnScope ["bag", "most", "way"] ["bag", "most"] (defScope s_law_number) := ⟨rfl, rfl, rfl, by decide +kernel, rfl, by decide +kernel, by decide +kernel⟩
theorem ok__law_number {f : Addr} {fd : FuncData} (F : Fun K "_law_number" "_law_number" s_law_number f fd) (B : Bt mg) (c__law_take : CalG P w K mg base 1 "_law_take" spTake) (c__law_some : CalG P w K mg base 2 "_law_some" spSome) (c__law_reduced : CalG P w K mg base 2 "_law_reduced" spRed) :
    FnG P w K mg base 3 f fd ["bag", "most"] (spNum K) := by
  refine Fun.okG F sc__law_number (fun vs H Q E h => ?_) (fun cdv A outer s H vs Q E hg hr h => ?_)
  · obtain ⟨most, _, _, b, mu, rfl, _⟩ := h
    rfl
  obtain ⟨most, hm0, hm1, b, mu, rfl, hmu, hb, hM, k⟩ := h
  refine ⟨_, (pss_cons (ps_set (i := 2) sc__law_number.nd rfl (Or.inl rfl) (pc c__law_take hg hr (by decide) (by rfl) (pa_cons (pv 0) (pa_cons pe_int pa_nil))))
    (pss_cons (ps_if (pt_cmpR op_eq (pv 2) pe_int (nomark _))
      (pss_one (ps_ret (pc c__law_reduced hg hr (by decide) (by rfl) (pa_cons (pe_op op_add pe_int (pc c__law_take hg hr (by decide) (by rfl) (pa_cons (pv 0) (pa_cons (pe_op op_mul pe_int (pv 1)) pa_nil)))) (pa_cons (pc c__law_some hg hr (by decide) (by rfl) (pa_cons (pv 0) (pa_cons (pe_lst (pa_cons pe_int (pa_cons pe_int (pa_cons pe_int pa_nil)))) pa_nil))) pa_nil)))))
      pss_nil)
    (pss_cons (ps_if (pt_cmpR op_eq (pv 2) pe_int (nomark _))
      (pss_one (ps_ret (pc c__law_some hg hr (by decide) (by rfl) (pa_cons (pv 0) (pa_cons (pe_lst (pa_cons (pe_tup (pa_cons pe_int (pa_cons pe_int pa_nil))) (pa_cons (pe_tup (pa_cons pe_int (pa_cons pe_int pa_nil))) (pa_cons (pe_tup (pa_cons pe_int (pa_cons pe_int pa_nil))) (pa_cons (pe_tup (pa_cons pe_int (pa_cons pe_int pa_nil))) (pa_cons (pe_tup (pa_cons pe_int (pa_cons pe_int pa_nil))) pa_nil)))))) pa_nil)))))
      pss_nil)
    (pss_one (ps_ret (pe_tup (pa_cons (pe_op op_add pe_int (pc c__law_take hg hr (by decide) (by rfl) (pa_cons (pv 0) (pa_cons (pv 1) pa_nil)))) (pa_cons pe_int pa_nil)))))))), ?_⟩
  -- way = _law_take(bag, 12)
  refine ⟨_, rfl, b, _, rfl, hb, by decide, by decide, fun way H1 w0 w1 R1 => ?_⟩
  have M1 := hM.rel R1
  refine ⟨_, rfl, rfl, _, rfl, iteEq (fun e => ?_) fun e => ?_⟩
  · -- _law_reduced(1 + _law_take(bag, 3 * most), _law_some(bag, [2, 3, 7]))
    refine ⟨_, rfl, _, rfl, _, _, rfl, rfl, .inl ⟨by decide, by decide⟩, b, _, rfl, R1.bag, by omega, by omega, fun t H2 t0 t1 R2 => ⟨_, _, rfl, rfl, ?_⟩⟩
    have M2 := M1.rel R2
    refine gv_some (K := K) (mu := mu) (D := fun d => ∃ j : Int, d = .int j ∧ 2 ≤ j ∧ j ≤ 7) (n := 3) hmu rfl (gvA_cons hmu (ge_int.gv ⟨2, rfl, by decide, by decide⟩) (gvA_cons hmu (ge_int.gv ⟨3, rfl, by decide, by decide⟩) (gvA_cons hmu (ge_int.gv ⟨7, rfl, by decide, by decide⟩) gvA_nil))) (by decide) (by decide) H2 (.refl R2.bag) M2 _ fun v H3 d hd R3 hv _ => ?_
    obtain ⟨j, rfl, j0, j1⟩ := hd
    cases hv
    have hp : (7 : Nat) < 2 ^ 8000 := by decide +kernel
    refine ⟨_, _, rfl, by omega, Nat.lt_of_le_of_lt (show j.natAbs ≤ 7 by omega) hp, fun p np => ?_⟩
    have R := (R1.trans R2).trans R3
    obtain ⟨q1, q2, q3, q4, q5⟩ := redI_pos (show 0 < 1 + t by omega) (show 0 < j by omega)
    exact k (.ref p) _ _ ⟨_, _, rfl, q1, by omega, q3, by omega, q5⟩ (R.same (same_upd np)) (.tup (.inl upd_same) (.cons (.int _) (.cons (.int _) .nil))) (own_not fun _ z => nomatch z)
  · refine ⟨_, rfl, rfl, _, rfl, iteEq (fun e1 => ?_) fun e1 => ?_⟩
    · have g : ∀ {σ : L2.St} {H0 : Hp} {n m : Int}, NumP n m → Gv K b mu σ H0 (tTup (tCons (tC (.int n)) (tCons (tC (.int m)) tNil))) NumD := fun {σ H0 n m} h => (ge_tup hmu (geA_cons hmu ge_int (geA_cons hmu ge_int geA_nil)) (show 2 ≤ 1000 by decide)).gv (numD h)
      refine gv_some (K := K) (mu := mu) (D := NumD) (n := 5) hmu rfl (gvA_cons hmu (g ⟨by decide, by decide, by decide, by decide, by decide⟩) (gvA_cons hmu (g ⟨by decide, by decide, by decide, by decide, by decide⟩) (gvA_cons hmu (g ⟨by decide, by decide, by decide, by decide, by decide⟩) (gvA_cons hmu (g ⟨by decide, by decide, by decide, by decide, by decide⟩) (gvA_cons hmu (g ⟨by decide, by decide, by decide, by decide, by decide⟩) gvA_nil))))) (by decide) (by decide) H1 (.refl R1.bag) M1 _ fun v H3 d hd R3 hv _ => ?_
      exact k v H3 d hd (R1.trans R3) hv hd.not
    · refine ⟨_, rfl, _, rfl, b, _, rfl, R1.bag, by omega, by omega, fun t H2 t0 t1 R2 => ⟨_, _, rfl, rfl, by show 2 ≤ sizeLine; decide, fun p np => ?_⟩⟩
      refine k (.ref p) _ _ ⟨_, _, rfl, by omega, by omega, by decide, by decide, ?_⟩ ((R1.trans R2).same (same_upd np)) (.tup (.inl upd_same) (.cons (.int _) (.cons (.int _) .nil))) (own_not fun _ z => nomatch z)
      unfold gI
      simp
abbrev s_law_alike : Stmt := topS 26
theorem sc__law_alike : FnScope ["found", "due"] ["found", "due"] (defScope s_law_alike) := ⟨rfl, rfl, rfl, by decide +kernel, rfl, by decide +kernel, by decide +kernel⟩
theorem ok__law_alike {f : Addr} {fd : FuncData} (F : Fun K "_law_alike" "_law_alike" s_law_alike f fd) (B : Bt mg) : FnG P w K mg base 1 f fd ["found", "due"] (spAlike K) := by
  refine Fun.okG F sc__law_alike (fun vs H Q E h => ?_) (fun cdv A outer s H vs Q E hg hr h => ?_)
  · obtain ⟨x, y, mu, d, rfl, _⟩ := h
    rfl
  obtain ⟨x, y, mu, d, rfl, hx, hy, ho, hn, k⟩ := h
  have hu := Room.u64 hr
  refine ⟨_, (pss_one (ps_ret (pe_and (pe_cmpR (op_eqA hu) (pv 0) (pv 1) (nomark _)) (pe_one (pe_cmpR op_eq (pe_callB (call_repr hg hu) (by rfl) B.repr bb_repr (pa_cons (pv 0) pa_nil)) (pe_callB (call_repr hg hu) (by rfl) B.repr bb_repr (pa_cons (pv 1) pa_nil)) (nomark _)))))), ?_⟩
  have key : ∀ Q' : VK, Q' (.bl true) H → rEqA K x y H Q' := fun Q' q => by
    rcases hn with n | ⟨_, n, h1, h2⟩
    · refine .inl ⟨mu, d, d, hx, hy, ho.shaped n, ho.shaped n, ?_⟩
      rw [eqv_same (ok_lay d ho.ok n)]
      exact q
    · exact .inr (.inl ⟨n, h1, h2, q⟩)
  have hm : d.hasDict = false ∨ mu sysModules := hn.imp id And.left
  refine ⟨_, rfl, _, rfl, key _ ?_⟩
  refine ⟨_, rfl, iteT ⟨_, rfl, ?_⟩⟩
  refine ⟨x, mu, d, rfl, hx, ho.show, hm, by have := ho.dp; omega, ho.fits, ?_⟩
  refine ⟨_, rfl, ?_⟩
  refine ⟨y, mu, d, rfl, hy, ho.show, hm, by have := ho.dp; omega, ho.fits, ?_⟩
  have e : decide (V.str d.shown = V.str d.shown) = true := decide_eq_true rfl
  first
    | (show Q (.bl (decide (V.str d.shown = V.str d.shown))) H; rw [e]; exact k)
    | (refine ⟨rfl, ?_⟩; rw [e]; exact k)
    | (refine ⟨rfl, rfl, ?_⟩; rw [e]; exact k)
def spBag (K : PySem.W.Frag) : Sp := fun vs H Q _ => ∃ (a : Addr) (ns : List Int), vs = [.ref a] ∧ SqL K H a (ns.map V.int) ∧ ns.length ≤ 63 ∧ ∀ b H', Same H H' → H b = none → BagAt H' b → Q (.ref b) H'
abbrev s_law_bag : Stmt := topS 23
theorem sc__law_bag : FnScope ["script", "cell"] ["script"] (defScope s_law_bag) := ⟨rfl, rfl, rfl, by decide +kernel, rfl, by decide +kernel, by decide +kernel⟩
theorem ok__law_bag {f : Addr} {fd : FuncData} (F : Fun K "_law_bag" "_law_bag" s_law_bag f fd) (B : Bt mg) : FnG P w K mg base 1 f fd ["script"] (spBag K) := by
  refine Fun.okG F sc__law_bag (fun vs H Q E h => ?_) (fun cdv A outer s H vs Q E hg hr h => ?_)
  · obtain ⟨a, ns, rfl, _⟩ := h
    rfl
  obtain ⟨a, ns, rfl, hS, hl, k⟩ := h
  refine ⟨_, (pss_one (ps_ret (pe_lst (pa_cons pe_int (pa_cons pe_int (pa_cons pe_int (pa_cons (pe_lc (own := [("cell", 1)]) rfl sc__law_bag.nd (pi_list (pe_slice sl_list (pv 0) po_none (po_some pe_int))) (blkOk_by (own := [("cell", 1)]) (N := ["script", "cell"]) (sc := (defScope s_law_bag)) (by decide +kernel)) (fun _ _ _ _ _ => (pg_name (i := 1) sc__law_bag.nd rfl (Or.inl rfl))) (fun _ _ _ _ _ => pts_nil) (fun _ _ _ _ _ => (pe_callB call_abs (by rfl) B.abs bb_abs (pa_cons (pv 1) pa_nil)))) pa_nil))))))), ?_⟩
  refine ⟨_, rfl, 63, rfl, a, _, rfl, hS, fun p np => ?_⟩
  have sp := same_upd (o := .lst (cutV (ns.map V.int) none (some 63))) np
  obtain ⟨ms, em, hms⟩ : ∃ ms : List Int, cutV (ns.map V.int) none (some 63) = ms.map V.int ∧ ms.length ≤ 63 := by
    refine ⟨(ns.drop (HT.sIx ns.length 0 none)).take (HT.sIx ns.length ns.length (some 63) - HT.sIx ns.length 0 none), ?_, ?_⟩
    · unfold cutV
      rw [List.map_take, List.map_drop, List.length_map]
    · rw [List.length_take, List.length_drop]
      omega
  rw [em] at sp ⊢
  refine ⟨p, rfl, ⟨_, .inl (.inl upd_same)⟩, fun D nD => ?_⟩
  have sD := same_upd (o := .lst []) nD
  have nDp : p ≠ D := fun z => by
    rw [← z, upd_same] at nD
    cases nD
  refine lc_it (walk_list (xs := ms.map V.int) (a := p)) (fun i H' => Same H H' ∧ H' p = some (.lst (ms.map V.int)) ∧ H' D = some (.lst (((ms.take i).map fun c => if c < 0 then -c else c).map V.int))) ⟨sp.trans sD, sD _ _ upd_same, by rw [upd_same]; rfl⟩ (fun i H' _ h => .inl (.inl h.2.1)) (fun i x H2 H3 hi h y => ?_) fun H2 h => ?_
  · obtain ⟨h1, h2, h3⟩ := h
    obtain ⟨rfl, hx⟩ := y
    rw [List.getElem?_map] at hx
    have hi' : i < ms.length := by simpa using hi
    rw [List.getElem?_eq_getElem hi'] at hx
    cases hx
    refine ⟨rfl, _, rfl, _, rfl, _, h3, Nat.lt_of_le_of_lt (by rw [List.length_map, List.length_map, List.length_take]; exact Nat.min_le_left _ _) (small1000 (show i ≤ 1000 by omega)), fun q o e => ?_, ?_, ?_⟩
    · have nq : q ≠ D := fun z => by
        have e2 := sp _ _ e
        rw [z, nD] at e2
        cases e2
      rw [upd_ne nq]
      exact h1 q o e
    · rw [upd_ne nDp]
      exact h2
    · rw [upd_same, List.take_add_one, List.getElem?_eq_getElem hi', List.map_append, List.map_append]
      rfl
  · obtain ⟨h1, h2, h3⟩ := h
    rw [show List.take (ms.map V.int).length ms = ms from List.take_of_length_le (by rw [List.length_map]; exact Nat.le_refl _)] at h3
    refine ⟨by show 4 ≤ sizeLine; decide, fun b nb => ?_⟩
    have s3 := same_upd (o := .lst [.int 0, .int 1234567891, .int 0, .ref D]) nb
    have nbD : D ≠ b := fun z => by
      rw [z, nb] at h3
      cases h3
    have hb0 : H b = none := by
      cases e : H b with
      | none => rfl
      | some o =>
        rw [h1 _ _ e] at nb
        cases nb
    refine k b _ (h1.trans s3) hb0 ⟨0, 1234567891, 0, D, ms.map fun c => if c < 0 then -c else c, upd_same, s3 _ _ h3, nbD, by decide, by decide, by decide, by decide, by rw [List.length_map]; exact hms, fun c hc => ?_⟩
    obtain ⟨z, _, rfl⟩ := List.mem_map.mp hc
    split <;> omega
end
end K16
namespace K16
open PySem PySem.Spec PyProof.Rows L2 Sw
/-- a FRACTION above 0 -/
def isAb : PyData → Bool
  | .tuple [.int n, .int d] => isFrac (.tuple [.int n, .int d]) && decide (0 < n)
  | _ => false
def isIn (a b : Int) : PyData → Bool
  | .int i => decide (a ≤ i ∧ i ≤ b)
  | _ => false
mutual
/-- a CLAIM of ranks -/
def clm (r : Int) : PyData → Bool
  | .tuple (.str w :: ps) => clmW r w ps
  | _ => false
def clmW (r : Int) (w : Str) : List PyData → Bool
  | [] => decide (w = "none")
  | [p] => (decide (w = "shares") && isAb p) || (decide (w = "sum") && clmS r p)
  | [p, q] => isAb q && ((decide (w = "due") && isIn 0 (r - 1) p) || (decide (w = "option") && isAb p) || (decide (w = "capped") && clm r p))
  | _ => false
def clmS (r : Int) : PyData → Bool
  | .tuple cs => decide (2 ≤ cs.length) && clmA r cs
  | _ => false
def clmA (r : Int) : List PyData → Bool
  | [] => true
  | d :: ds => clm r d && clmA r ds
end
/-- a tuple of two at least -/
def tup2 : PyData → Bool
  | .tuple cs => decide (2 ≤ cs.length)
  | _ => false
/-- looked at by itself -/
def loc (r : Int) : PyData → Bool
  | .tuple [.str w] => decide (w = "none")
  | .tuple [.str w, p] => (decide (w = "shares") && isAb p) || (decide (w = "sum") && tup2 p)
  | .tuple [.str w, p, q] => isAb q && ((decide (w = "due") && isIn 0 (r - 1) p) || (decide (w = "option") && isAb p) || decide (w = "capped"))
  | _ => false
/-- what stands below -/
def sub : PyData → List PyData
  | .tuple [.str w, p] => if w = "sum" then (match p with | .tuple cs => cs | _ => []) else []
  | .tuple [.str w, p, _] => if w = "capped" then [p] else []
  | _ => []
theorem clm_loc (r : Int) (d : PyData) : clm r d = (loc r d && clmA r (sub d)) := by
  unfold loc sub
  split
  · rename_i w
    show clmW r w [] = _
    simp [clmW, clmA]
  · rename_i w p
    show clmW r w [p] = _
    by_cases h : w = "sum"
    · subst h
      have e : decide ((Str.ofString "sum") = Str.ofString "shares") = false := by decide +kernel
      cases p <;> simp [clmW, clmS, clmA, e, tup2]
    · simp [clmW, h, clmA]
  · rename_i w p q
    show clmW r w [p, q] = _
    by_cases h : w = "capped"
    · subst h
      have e : decide ((Str.ofString "capped") = Str.ofString "due") = false := by decide +kernel
      have e2 : decide ((Str.ofString "capped") = Str.ofString "option") = false := by decide +kernel
      simp [clmW, clmA, e, e2]
    · simp [clmW, h, clmA]
  · rename_i h1 h2 h3
    cases d with
    | tuple ds =>
      match ds with
      | [] => rfl
      | .str w :: [] => exact absurd rfl (h1 w)
      | .str w :: p :: [] => exact absurd rfl (h2 w p)
      | .str w :: p :: q :: [] => exact absurd rfl (h3 w p q)
      | .str w :: p :: q :: t :: ds => simp [clm, clmW]
      | .none :: _ | .bool _ :: _ | .int _ :: _ | .list _ :: _ | .tuple _ :: _ | .dict _ :: _ => simp [clm]
    | _ => rfl
def locW (r : Int) (w : Str) : List PyData → Bool
  | [] => decide (w = "none")
  | [p] => (decide (w = "shares") && isAb p) || (decide (w = "sum") && tup2 p)
  | [p, q] => isAb q && ((decide (w = "due") && isIn 0 (r - 1) p) || (decide (w = "option") && isAb p) || decide (w = "capped"))
  | _ => false
theorem loc_str (r : Int) (w : Str) : ∀ ps : List PyData, loc r (.tuple (.str w :: ps)) = locW r w ps
  | [] => rfl
  | [p] => rfl
  | [p, q] => rfl
  | p :: q :: t :: ds => rfl
theorem loc_not {r : Int} {d : PyData} (h : ∀ w, d ≠ .str w) (ps : List PyData) : loc r (.tuple (d :: ps)) = false := by
  cases d with
  | str w => exact absurd rfl (h w)
  | _ => rfl
theorem locW_none (r : Int) : ∀ ps : List PyData, locW r "none" ps = decide (ps = [])
  | [] => by simp [locW]
  | [p] => by
    have e : decide (("none" : Str) = "shares") = false := by decide +kernel
    have e2 : decide (("none" : Str) = "sum") = false := by decide +kernel
    simp [locW, e, e2]
  | [p, q] => by
    have e : decide (("none" : Str) = "due") = false := by decide +kernel
    have e2 : decide (("none" : Str) = "option") = false := by decide +kernel
    have e3 : decide (("none" : Str) = "capped") = false := by decide +kernel
    simp [locW, e, e2, e3]
  | p :: q :: t :: ds => by simp [locW]
theorem locW_other {r : Int} {w : Str} (h1 : w ≠ "none") (h2 : w ≠ "shares") (h3 : w ≠ "sum") (h4 : w ∉ (["due", "option", "capped"] : List Str)) : ∀ ps : List PyData, locW r w ps = false := by
  simp only [List.mem_cons, List.not_mem_nil, or_false, not_or] at h4
  obtain ⟨h4, h5, h6⟩ := h4
  intro ps
  match ps with
  | [] => simp [locW, h1]
  | [p] => simp [locW, h2, h3]
  | [p, q] => simp [locW, h4, h5, h6]
  | p :: q :: t :: ds => rfl
theorem locW_two {r : Int} {w : Str} (h1 : w ≠ "none") (h2 : w ≠ "shares") (h3 : w ≠ "sum") {ps : List PyData} (hl : ps.length ≠ 2) : locW r w ps = false := by
  match ps, hl with
  | [], _ => simp [locW, h1]
  | [p], _ => simp [locW, h2, h3]
  | [p, q], hl => exact absurd rfl hl
  | p :: q :: t :: ds, _ => rfl
theorem locW_one {r : Int} {w : Str} (h : w = "shares" ∨ w = "sum") {ps : List PyData} (hl : ps.length ≠ 1) : locW r w ps = false := by
  have e1 : decide (("shares" : Str) = "none") = false := by decide +kernel
  have e2 : decide (("shares" : Str) = "due") = false := by decide +kernel
  have e3 : decide (("shares" : Str) = "option") = false := by decide +kernel
  have e4 : decide (("shares" : Str) = "capped") = false := by decide +kernel
  have f1 : decide (("sum" : Str) = "none") = false := by decide +kernel
  have f2 : decide (("sum" : Str) = "due") = false := by decide +kernel
  have f3 : decide (("sum" : Str) = "option") = false := by decide +kernel
  have f4 : decide (("sum" : Str) = "capped") = false := by decide +kernel
  match ps, hl with
  | [], _ => rcases h with rfl | rfl <;> simp [locW, e1, f1]
  | [p], hl => exact absurd rfl hl
  | [p, q], _ => rcases h with rfl | rfl <;> simp [locW, e2, e3, e4, f2, f3, f4]
  | p :: q :: t :: ds, _ => rfl
theorem locW_shares (r : Int) (p : PyData) : locW r "shares" [p] = isAb p := by
  have e : decide (("shares" : Str) = "sum") = false := by decide +kernel
  simp [locW, e]
theorem locW_sum (r : Int) (p : PyData) : locW r "sum" [p] = tup2 p := by
  have e : decide (("sum" : Str) = "shares") = false := by decide +kernel
  simp [locW, e]
theorem locW_due (r : Int) (p q : PyData) : locW r "due" [p, q] = (isAb q && isIn 0 (r - 1) p) := by
  have e : decide (("due" : Str) = "option") = false := by decide +kernel
  have e2 : decide (("due" : Str) = "capped") = false := by decide +kernel
  simp [locW, e, e2]
theorem locW_capped (r : Int) (p q : PyData) : locW r "capped" [p, q] = isAb q := by
  simp [locW]
theorem locW_option (r : Int) (p q : PyData) : locW r "option" [p, q] = (isAb q && isAb p) := by
  have e : decide (("option" : Str) = "due") = false := by decide +kernel
  have e2 : decide (("option" : Str) = "capped") = false := by decide +kernel
  simp [locW, e, e2]
theorem loc_head {r : Int} : ∀ {ds : List PyData}, loc r (.tuple ds) = true → ∃ w ps, ds = .str w :: ps
  | [], h => by cases h
  | d :: ps, h => by
    cases d with
    | str w => exact ⟨w, ps, rfl⟩
    | _ =>
      rw [loc_not (by intro w z; cases z)] at h
      cases h
theorem sub_capped (p q : PyData) : sub (.tuple [.str "capped", p, q]) = [p] := by simp [sub]
theorem sub_sum (cs : List PyData) : sub (.tuple [.str "sum", .tuple cs]) = cs := by simp [sub]
theorem sub_other {w : Str} (h1 : w ≠ "capped") (h2 : w ≠ "sum") : ∀ ps : List PyData, sub (.tuple (.str w :: ps)) = []
  | [] => rfl
  | [p] => by simp [sub, h2]
  | [p, q] => by simp [sub, h1]
  | p :: q :: t :: ds => rfl
theorem capped_len {r : Int} : ∀ {ps : List PyData}, locW r "capped" ps = true → ps.length = 2
  | [], h => by
    have e : decide (("capped" : Str) = "none") = false := by decide +kernel
    simp [locW, e] at h
  | [p], h => by
    have e : decide (("capped" : Str) = "shares") = false := by decide +kernel
    have e2 : decide (("capped" : Str) = "sum") = false := by decide +kernel
    simp [locW, e, e2] at h
  | [p, q], _ => rfl
  | p :: q :: t :: ds, h => by cases h
theorem sum_len {r : Int} : ∀ {ps : List PyData}, locW r "sum" ps = true → ∃ cs, ps = [.tuple cs]
  | [], h => by
    have e : decide (("sum" : Str) = "none") = false := by decide +kernel
    simp [locW, e] at h
  | [p], h => by
    rw [locW_sum] at h
    cases p with
    | tuple cs => exact ⟨cs, rfl⟩
    | _ => cases h
  | [p, q], h => by
    have e : decide (("sum" : Str) = "due") = false := by decide +kernel
    have e2 : decide (("sum" : Str) = "option") = false := by decide +kernel
    have e3 : decide (("sum" : Str) = "capped") = false := by decide +kernel
    simp [locW, e, e2, e3] at h
  | p :: q :: t :: ds, h => by cases h
theorem isS_eq {z : Str} {d : PyData} (h : isS z d = true) : d = .str z := by
  cases d with
  | str w =>
    have h : decide (w = z) = true := h
    rw [of_decide_eq_true h]
  | _ => cases h
end K16
namespace K16
open PySem PySem.Spec PyProof.Rows L2 Sw
/-- the module's own names -/
structure Tx2 (mg : Str → Option Value) : Prop where
  MOST_RANKS : ∃ u, mg "MOST_RANKS" = some u ∧ L2.RelV (.int 6) u
def spBelow (K : PySem.W.Frag) : Sp := fun vs H Q _ => ∃ (v : V) (mu : Addr → Prop) (d : PyData), vs = [v] ∧ Dt K mu H v d ∧ (∃ r, loc r d = true) ∧ ∀ p xs H', Same H H' → SqT K H' p xs → DtA K mu H' xs (sub d) → Q (.ref p) H'
def spLoc (K : PySem.W.Frag) : Sp := fun vs H Q _ => ∃ (r : Int) (v : V) (mu : Addr → Prop) (d : PyData), vs = [.int r, v] ∧ Dt K mu H v d ∧ Ok d ∧ ∀ H', Same H H' → Q (.bl (loc r d)) H'
section
variable {P : Program} {w : World} {K : PySem.W.Frag} {mg : Str → Option Value} {base : Heap}
abbrev sis_above_zero : Stmt := topS 6
theorem sc_is_above_zero : FnScope ["thing"] ["thing"] (defScope sis_above_zero) := ⟨rfl, rfl, rfl, by decide +kernel, rfl, by decide +kernel, by decide +kernel⟩
theorem ok_is_above_zero {f : Addr} {fd : FuncData} (F : Fun K "is_above_zero" "is_above_zero" sis_above_zero f fd) (B : Bt mg) (c_is_fraction : CalG P w K mg base 2 "is_fraction" (spP K isFrac)) : FnG P w K mg base 3 f fd ["thing"] (spP K isAb) := by
  refine Fun.okG F sc_is_above_zero spP_len (fun cdv A outer s H vs Q E hg hr h => ?_)
  obtain ⟨v, mu, d, rfl, hd, ho, k⟩ := h
  refine ⟨_, (pss_one (ps_ret (pe_and (pc c_is_fraction hg hr (by decide) (by rfl) (pa_cons (pv 0) pa_nil)) (pe_one (pe_cmpR op_gt (pe_ix ix_tup (pv 0) pe_int (fun _ _ => rfl)) pe_int (nomark _)))))), ?_⟩
  refine ⟨v, rfl, v, mu, d, rfl, hd, ho, fun H1 s1 => ⟨_, rfl, iteB (fun h1 => ?_) fun h1 => ?_⟩⟩
  · have k1 := k H1 s1
    obtain ⟨n, m, rfl⟩ : ∃ n m, d = .tuple [.int n, .int m] := by
      unfold isFrac at h1
      split at h1
      · exact ⟨_, _, rfl⟩
      · cases h1
    · obtain ⟨a, xs, rfl, hS, hA⟩ := (hd.fut (.of_same s1)).tupAt
      obtain ⟨x, y, d1, d2, rfl, e2, r1, r2⟩ := hA.two rfl
      injection e2 with e3 e4
      injection e4 with e4 _
      subst e3 e4
      cases r1
      refine ⟨_, rfl, a, _, 0, .int n, rfl, rfl, hS, atI_nat (j := 0) rfl, _, _, rfl, rfl, ?_⟩
      have e : isAb (.tuple [.int n, .int m]) = (isFrac (.tuple [.int n, .int m]) && decide (0 < n)) := rfl
      rw [e, h1, Bool.true_and] at k1
      exact k1
  · have k1 := k H1 s1
    have e : isAb d = false := by
      unfold isAb
      split
      · rw [h1, Bool.false_and]
      · rfl
    rw [e] at k1
    exact k1
abbrev sis_ranks : Stmt := topS 8
theorem sc_is_ranks : FnScope ["thing"] ["thing"] (defScope sis_ranks) := ⟨rfl, rfl, rfl, by decide +kernel, rfl, by decide +kernel, by decide +kernel⟩
theorem ok_is_ranks {f : Addr} {fd : FuncData} (F : Fun K "is_ranks" "is_ranks" sis_ranks f fd) (B : Bt mg) (T : Tx2 mg) (c_is_integer : CalG P w K mg base 1 "is_integer" (spP K isInt)) : FnG P w K mg base 2 f fd ["thing"] (spP K (isIn 0 6)) := by
  refine Fun.okG F sc_is_ranks spP_len (fun cdv A outer s H vs Q E hg hr h => ?_)
  obtain ⟨v, mu, d, rfl, hd, ho, k⟩ := h
  refine ⟨_, (pss_one (ps_ret (pe_and (pc c_is_integer hg hr (by decide) (by rfl) (pa_cons (pv 0) pa_nil)) (pe_one (pe_chain op_le op_le pe_int (pv 0) (C8.pe_gc rfl T.MOST_RANKS)))))), ?_⟩
  refine ⟨_, rfl, v, mu, d, rfl, hd, ho, fun H1 s1 => ⟨_, rfl, iteB (fun h1 => ?_) fun h1 => ?_⟩⟩
  · have k1 := k H1 s1
    obtain ⟨n, rfl⟩ := (isIntD d).mp h1
    cases hd
    have e : isIn 0 6 (.int n) = decide (0 ≤ n ∧ n ≤ 6) := rfl
    rw [e] at k1
    refine ⟨_, rfl, _, _, rfl, rfl, _, rfl, iteP (fun h2 => ⟨_, _, rfl, rfl, ?_⟩) fun h2 => ?_⟩
    · rw [show decide (0 ≤ n ∧ n ≤ 6) = decide (n ≤ 6) by rw [Bool.eq_iff_iff]; simp [h2]] at k1
      exact k1
    · rw [decide_eq_false (fun z => h2 z.1)] at k1
      exact k1
  · have k1 := k H1 s1
    have e : isIn 0 6 d = false := by
      cases d <;> first | rfl | (simp [isInt, isT, tyName] at h1)
    rw [e] at k1
    exact k1
abbrev sclaims_below : Stmt := topS 9
theorem sc_claims_below : FnScope ["claim"] ["claim"] (defScope sclaims_below) := ⟨rfl, rfl, rfl, by decide +kernel, rfl, by decide +kernel, by decide +kernel⟩
theorem ok_claims_below {f : Addr} {fd : FuncData} (F : Fun K "claims_below" "claims_below" sclaims_below f fd) (B : Bt mg) : FnG P w K mg base 1 f fd ["claim"] (spBelow K) := by
  refine Fun.okG F sc_claims_below (fun vs H Q E h => ?_) (fun cdv A outer s H vs Q E hg hr h => ?_)
  · obtain ⟨_, _, _, rfl, _⟩ := h
    rfl
  have hu := Room.u64 hr
  obtain ⟨v, mu, d, rfl, hd, ho, k⟩ := h
  refine ⟨_, (pss_cons (ps_if (pt_cmpR (op_eqS (K := K) rfl hu) (pe_ix ix_tup (pv 0) pe_int (fun _ _ => rfl)) pe_str (nomark _))
      (pss_one (ps_ret (pe_tup (pa_cons (pe_ix ix_tup (pv 0) pe_int (fun _ _ => rfl)) pa_nil))))
      pss_nil)
    (pss_one (ps_ret (pe_ifExp (pt_cmpR (op_eqS (K := K) rfl hu) (pe_ix ix_tup (pv 0) pe_int (fun _ _ => rfl)) pe_str (nomark _)) (pe_ix ix_tup (pv 0) pe_int (fun _ _ => rfl)) (pe_tup pa_nil))))), ?_⟩
  obtain ⟨r, hl⟩ := ho
  -- its shape
  obtain ⟨ds, rfl⟩ : ∃ ds, d = .tuple ds := by
    cases d with
    | tuple ds => exact ⟨ds, rfl⟩
    | _ => cases hl
  obtain ⟨a, xs, rfl, hS, hA⟩ := hd.tupAt
  obtain ⟨w0, ps, rfl⟩ := loc_head hl
  rw [loc_str] at hl
  cases hA with
  | @cons x xs' _ _ hx hxs =>
  cases hx
  have h0 : atI (V.str w0 :: xs') 0 = some (.str w0) := atI_nat (j := 0) rfl
  refine ⟨_, rfl, a, _, 0, _, rfl, rfl, hS, h0, mu, .str w0, _, .str w0, rfl, _, rfl, iteP (fun hw => ?_) fun hw => ?_⟩
  · subst hw
    obtain ⟨y, z, d1, d2, rfl, rfl, r1, r2⟩ := hxs.two (capped_len hl)
    refine ⟨_, rfl, a, _, 1, y, rfl, rfl, hS, atI_nat (j := 1) rfl, by show 1 ≤ sizeLine; decide, fun t nt => ?_⟩
    have st := same_upd (o := .tup [y]) nt
    refine k t [y] _ st (.of upd_same) ?_
    rw [sub_capped]
    exact .cons (r1.fut (.of_same st)) .nil
  · refine ⟨_, rfl, a, _, 0, _, rfl, rfl, hS, h0, mu, .str w0, _, .str w0, rfl, _, rfl, iteP (fun hw2 => ?_) fun hw2 => ?_⟩
    · subst hw2
      obtain ⟨cs, rfl⟩ := sum_len hl
      obtain ⟨y, d1, rfl, e, r1⟩ := hxs.one rfl
      cases e
      obtain ⟨a2, ys, rfl, hS2, hA2⟩ := r1.tupAt
      refine ⟨_, rfl, a, _, 1, _, rfl, rfl, hS, atI_nat (j := 1) rfl, ?_⟩
      refine k a2 ys _ (.refl H) hS2 ?_
      rw [sub_sum]
      exact hA2
    · refine ⟨Nat.zero_le _, fun t nt => ?_⟩
      have st := same_upd (o := .tup []) nt
      refine k t [] _ st (.of upd_same) ?_
      rw [sub_other hw hw2]
      exact .nil
theorem cutV_from (xs : List V) (n : Nat) : cutV xs (some (n : Int)) none = xs.drop n := by
  unfold cutV
  rw [HT.sIx_none, HT.sIx_nat]
  by_cases h : n ≤ xs.length
  · rw [Nat.min_eq_left h]
    exact List.take_of_length_le (by rw [List.length_drop]; omega)
  · rw [List.drop_eq_nil_of_le (by omega), List.drop_eq_nil_of_le (by omega), List.take_nil]
theorem slA_use {K : PySem.W.Frag} {H : Hp} {r : Addr} {xs : List V} {lo hi : Option Int} {Q : VK} (h : SqT K H r xs) (k : ∀ p H', Same H H' → SqT K H' p (cutV xs lo hi) → Q (.ref p) H') : rSlA K (.ref r) lo hi H Q := by
  refine ⟨r, xs, rfl, h, fun z => ?_, fun _ p np => k p _ (same_upd np) (.of upd_same)⟩
  refine k r H (.refl H) ?_
  have : cutV xs lo hi = xs := by
    unfold cutV
    rw [z.1, z.2, List.drop_zero, Nat.sub_zero, List.take_length]
  rw [this]
  exact h
theorem iteS {A B : Prop} {z : Str} {d : PyData} (h1 : d = .str z → A) (h2 : d ≠ .str z → B) : if isS z d = true then A else B := by
  by_cases h : isS z d = true
  · rw [if_pos h]
    exact h1 (isS_eq h)
  · rw [if_neg h]
    exact h2 fun e => h (by rw [e]; exact decide_eq_true rfl)
abbrev sis_claim_but_within : Stmt := topS 11
theorem sc_is_claim_but_within : FnScope ["ranks", "thing", "word", "parts"] ["ranks", "thing"] (defScope sis_claim_but_within) := ⟨rfl, rfl, rfl, by decide +kernel, rfl, by decide +kernel, by decide +kernel⟩
theorem ok_is_claim_but_within {f : Addr} {fd : FuncData} (F : Fun K "is_claim_but_within" "is_claim_but_within" sis_claim_but_within f fd) (B : Bt mg) (c_is_integer : CalG P w K mg base 1 "is_integer" (spP K isInt)) (c_is_above_zero : CalG P w K mg base 3 "is_above_zero" (spP K isAb)) : FnG P w K mg base 4 f fd ["ranks", "thing"] (spLoc K) := by
  refine Fun.okG F sc_is_claim_but_within (fun vs H Q E h => ?_) (fun cdv A outer s H vs Q E hg hr h => ?_)
  · obtain ⟨_, _, _, _, rfl, _⟩ := h
    rfl
  obtain ⟨r, v, mu, d, rfl, hd, ho, k⟩ := h
  have hu := Room.u64 hr
  refine ⟨_, (pss_cons (ps_if (PW.pt (pw_or (pt_not (pt_val (pe_callB call_isD (by rfl) B.isin bb_isin (pa_cons (pv 1) (pa_cons (pe_bltn (v := .ty "tuple") rfl B.tuple bb_tuple rfl) pa_nil))))) (pw_or1 (pt_cmpR op_eq (pe_callB call_lenA (by rfl) B.len boot_len (pa_cons (pv 1) pa_nil)) pe_int (nomark _)))))
      (pss_one (ps_ret pe_bl))
      pss_nil)
    (pss_cons (ps_par (i := 2) (j := 3) rfl sc_is_claim_but_within.nd rfl rfl (by decide) rfl rfl (pa_cons (pe_ix ix_tup (pv 1) pe_int (fun _ _ => rfl)) (pa_cons (pe_slice sl_tupA (pv 1) (po_some pe_int) po_none) pa_nil)) (by rfl))
    (pss_cons (ps_if (pt_cmpR (op_eqS (K := K) rfl hu) (pv 2) pe_str (nomark _))
      (pss_one (ps_ret (pe_cmpR (op_eqNilT (K := K) rfl hu) (pv 3) (pe_tup pa_nil) (nomark _))))
      pss_nil)
    (pss_cons (ps_if (pt_cmpR (op_eqS (K := K) rfl hu) (pv 2) pe_str (nomark _))
      (pss_one (ps_ret (pe_and (pe_cmpR op_eq (pe_callB call_lenA (by rfl) B.len boot_len (pa_cons (pv 3) pa_nil)) pe_int (nomark _)) (pe_one (pc c_is_above_zero hg hr (by decide) (by rfl) (pa_cons (pe_ix ix_tup (pv 3) pe_int (fun _ _ => rfl)) pa_nil))))))
      pss_nil)
    (pss_cons (ps_if (pt_cmpR (op_eqS (K := K) rfl hu) (pv 2) pe_str (nomark _))
      (pss_one (ps_ret (pe_and (pe_cmpR op_eq (pe_callB call_lenA (by rfl) B.len boot_len (pa_cons (pv 3) pa_nil)) pe_int (nomark _)) (pe_and (pe_callB call_isD (by rfl) B.isin bb_isin (pa_cons (pe_ix ix_tup (pv 3) pe_int (fun _ _ => rfl)) (pa_cons (pe_bltn (v := .ty "tuple") rfl B.tuple bb_tuple rfl) pa_nil))) (pe_one (pe_cmpR op_ge (pe_callB call_lenA (by rfl) B.len boot_len (pa_cons (pe_ix ix_tup (pv 3) pe_int (fun _ _ => rfl)) pa_nil)) pe_int (nomark _)))))))
      pss_nil)
    (pss_cons (ps_if (PW.pt (pw_or (pt_cmpR (op_notInT (K := K) rfl hu) (pv 2) (pe_tup (pa_cons pe_str (pa_cons pe_str (pa_cons pe_str pa_nil)))) (by rfl)) (pw_or (pt_cmpR op_ne (pe_callB call_lenA (by rfl) B.len boot_len (pa_cons (pv 3) pa_nil)) pe_int (nomark _)) (pw_or1 (pt_not (pt_val (pc c_is_above_zero hg hr (by decide) (by rfl) (pa_cons (pe_ix ix_tup (pv 3) pe_int (fun _ _ => rfl)) pa_nil))))))))
      (pss_one (ps_ret pe_bl))
      pss_nil)
    (pss_cons (ps_if (pt_cmpR (op_eqS (K := K) rfl hu) (pv 2) pe_str (nomark _))
      (pss_one (ps_ret (pe_and (pc c_is_integer hg hr (by decide) (by rfl) (pa_cons (pe_ix ix_tup (pv 3) pe_int (fun _ _ => rfl)) pa_nil)) (pe_one (pe_chain op_le op_lt pe_int (pe_ix ix_tup (pv 3) pe_int (fun _ _ => rfl)) (pv 0))))))
      pss_nil)
    (pss_one (ps_ret (pe_or (pe_cmpR (op_eqS (K := K) rfl hu) (pv 2) pe_str (nomark _)) (pe_one (pc c_is_above_zero hg hr (by decide) (by rfl) (pa_cons (pe_ix ix_tup (pv 3) pe_int (fun _ _ => rfl)) pa_nil))))))))))))), ?_⟩
  refine ⟨_, rfl, _, "tuple", mu, d, rfl, by decide, hd, _, rfl, ?_⟩
  have k0 := k H (Same.refl H)
  refine iteN (fun ht => ?_) fun ht => ?_
  · have e : loc r d = false := by
      cases d <;> first | rfl | (simp [isT, tyName] at ht)
    rw [e] at k0
    exact iteT k0
  obtain ⟨ds, rfl⟩ := (isTup d).mp ht
  obtain ⟨a, xs, rfl, hS, hA⟩ := hd.tupAt
  refine ⟨_, rfl, _, xs.length, rfl, .inr ⟨_, hS, rfl⟩, rfl, _, rfl, iteEq (fun hn => ?_) fun hn => ?_⟩
  · have hl := hA.length
    have e : ds = [] := List.eq_nil_of_length_eq_zero (by omega)
    subst e
    exact k0
  cases hA with
  | nil => exact absurd rfl hn
  | @cons x xs' dw ps hx hxs =>
  have ow : Ok dw := ho.inT (by simp)
  refine ⟨_, rfl, a, _, 0, x, rfl, rfl, hS, atI_nat (j := 0) rfl, _, rfl, 1, rfl, ?_⟩
  dsimp only [tNoPart]
  refine slA_use hS fun p H1 s1 h1 => ⟨_, _, rfl, ?_⟩
  rw [show (1 : Int) = ((1 : Nat) : Int) from rfl, cutV_from] at h1
  have h1 : SqT K H1 p xs' := h1
  have hx1 := hx.fut (.of_same (mu := mu) s1)
  have hxs1 := hxs.fut (.of_same (mu := mu) s1)
  have hl := hxs.length
  have k1 := fun H2 s2 => k H2 (s1.trans s2)
  clear k k0
  refine ⟨_, rfl, mu, dw, _, hx1, rfl, _, rfl, iteS (fun e => ?_) fun e1 => ?_⟩
  · subst e
    refine ⟨_, rfl, Nat.zero_le _, fun q nq => ?_⟩
    have k2 := k1 _ (same_upd (o := .tup []) nq)
    rw [loc_str, locW_none] at k2
    refine ⟨p, q, xs', rfl, rfl, (same_upd nq).seqT h1, .of upd_same, ?_⟩
    rw [show decide (xs' = []) = decide (ps = []) by
      rw [Bool.eq_iff_iff, decide_eq_true_eq, decide_eq_true_eq, ← List.length_eq_zero_iff, ← List.length_eq_zero_iff, hl]]
    exact k2
  refine ⟨_, rfl, mu, dw, _, hx1, rfl, _, rfl, iteS (fun e => ?_) fun e2 => ?_⟩
  · subst e
    refine ⟨_, rfl, _, xs'.length, rfl, .inr ⟨_, h1, rfl⟩, rfl, _, rfl, iteEq (fun hn1 => ?_) fun hn1 => ?_⟩
    · obtain ⟨y, d1, rfl, rfl, r1⟩ := hxs1.one (by omega)
      refine ⟨_, rfl, p, _, 0, y, rfl, rfl, h1, atI_nat (j := 0) rfl, y, mu, d1, rfl, r1, ho.inT (by simp), fun H2 s2 => ?_⟩
      have k2 := k1 _ s2
      rw [loc_str, locW_shares] at k2
      exact k2
    · have k2 := k1 _ (.refl H1)
      rw [loc_str, locW_one (.inl rfl) (by omega)] at k2
      exact k2
  refine ⟨_, rfl, mu, dw, _, hx1, rfl, _, rfl, iteS (fun e => ?_) fun e3 => ?_⟩
  · subst e
    have k2 := k1 _ (.refl H1)
    rw [loc_str] at k2
    refine ⟨_, rfl, _, xs'.length, rfl, .inr ⟨_, h1, rfl⟩, rfl, _, rfl, iteEq (fun hn1 => ?_) fun hn1 => ?_⟩
    · obtain ⟨y, d1, rfl, rfl, r1⟩ := hxs1.one (by omega)
      rw [locW_sum] at k2
      refine ⟨_, rfl, p, _, 0, y, rfl, rfl, h1, atI_nat (j := 0) rfl, _, "tuple", mu, d1, rfl, by decide, r1, _, rfl, iteB (fun ht1 => ?_) fun ht1 => ?_⟩
      · obtain ⟨cs, rfl⟩ := (isTup d1).mp ht1
        obtain ⟨a2, ys, rfl, hS2, hA2⟩ := r1.tupAt
        refine ⟨_, rfl, p, _, 0, _, rfl, rfl, h1, atI_nat (j := 0) rfl, _, ys.length, rfl, .inr ⟨_, hS2, rfl⟩, _, _, rfl, rfl, ?_⟩
        have e : decide ((2 : Int) ≤ (ys.length : Int)) = decide (2 ≤ cs.length) := by
          rw [Bool.eq_iff_iff, decide_eq_true_eq, decide_eq_true_eq, hA2.length]
          omega
        have k2 : Q (.bl (decide (2 ≤ cs.length))) H1 := k2
        rw [← e] at k2
        exact k2
      · have e : tup2 d1 = false := by
          cases d1 <;> first | rfl | (simp [isT, tyName] at ht1)
        rw [e] at k2
        exact k2
    · rw [locW_one (.inr rfl) (by omega)] at k2
      exact k2
  -- word not in ..
  refine ⟨_, rfl, by show 3 ≤ sizeLine; decide, fun q nq => ?_⟩
  have s2 := same_upd (o := .tup [.str "due", .str "option", .str "capped"]) nq
  have h2 := s2.seqT h1
  have hx2 := hx1.fut (.of_same (mu := mu) s2)
  have hxs2 := hxs1.fut (.of_same (mu := mu) s2)
  have k2 := fun H3 s3 => k1 H3 (s2.trans s3)
  have hq2 : SqT K (upd H1 q (.tup [.str "due", .str "option", .str "capped"])) q ((["due", "option", "capped"] : List Str).map V.str) := .of upd_same
  revert h2 hx2 hxs2 k2 hq2
  generalize upd H1 q (.tup [.str "due", .str "option", .str "capped"]) = H2
  intro h2 hx2 hxs2 k2 hq2
  refine ⟨mu, dw, ["due", "option", "capped"], q, hx2, rfl, hq2, _, rfl, iteN (fun hin => ?_) fun hin => ?_⟩
  · have k3 := k2 _ (.refl H2)
    have e : loc r (.tuple (dw :: ps)) = false := by
      cases dw with
      | str w0 =>
        rw [loc_str]
        refine locW_other (fun z => e1 (by rw [z])) (fun z => e2 (by rw [z])) (fun z => e3 (by rw [z])) ?_ ps
        exact of_decide_eq_false hin
      | _ => exact loc_not (by intro w z; cases z) ps
    rw [e] at k3
    exact k3
  obtain ⟨w0, rfl, hw0⟩ : ∃ w0, dw = .str w0 ∧ w0 ∈ (["due", "option", "capped"] : List Str) := by
    cases dw with
    | str w0 => exact ⟨w0, rfl, of_decide_eq_true hin⟩
    | _ => cases hin
  have n1 : w0 ≠ "none" := fun z => e1 (by rw [z])
  have n2 : w0 ≠ "shares" := fun z => e2 (by rw [z])
  have n3 : w0 ≠ "sum" := fun z => e3 (by rw [z])
  refine ⟨_, rfl, _, xs'.length, rfl, .inr ⟨_, h2, rfl⟩, rfl, _, rfl, iteNe (fun hn2 => ?_) fun hn2 => ?_⟩
  · have k3 := k2 _ (.refl H2)
    rw [loc_str, locW_two n1 n2 n3 (by omega)] at k3
    exact k3
  obtain ⟨y, z, d1, d2, rfl, rfl, r1, r2⟩ := hxs2.two (by omega)
  refine ⟨_, rfl, p, _, 1, z, rfl, rfl, h2, atI_nat (j := 1) rfl, z, mu, d2, rfl, r2, ho.inT (by simp), fun H3 s3 => ⟨_, rfl, iteN (fun hab => ?_) fun hab => ?_⟩⟩
  · have k3 := k2 _ s3
    have e : locW r w0 [d1, d2] = false := by
      show (isAb d2 && _) = false
      rw [hab, Bool.false_and]
    rw [loc_str, e] at k3
    exact k3
  have h3 := s3.seqT h2
  have r13 := r1.fut (.of_same (mu := mu) s3)
  have hx3 := hx2.fut (.of_same (mu := mu) s3)
  have k3 := fun H4 s4 => k2 H4 (s3.trans s4)
  refine ⟨_, rfl, mu, .str w0, _, hx3, rfl, _, rfl, iteS (fun e => ?_) fun e4 => ?_⟩
  · cases e
    have e : loc r (.tuple (.str "due" :: [d1, d2])) = isIn 0 (r - 1) d1 := by
      rw [loc_str, locW_due, hab, Bool.true_and]
    rw [e] at k3
    refine ⟨_, rfl, p, _, 0, y, rfl, rfl, h3, atI_nat (j := 0) rfl, y, mu, d1, rfl, r13, ho.inT (by simp), fun H4 s4 => ⟨_, rfl, iteB (fun hi => ?_) fun hi => ?_⟩⟩
    · obtain ⟨n, rfl⟩ := (isIntD d1).mp hi
      cases r13
      have k4 := k3 _ s4
      have h4 := s4.seqT h3
      have e : isIn 0 (r - 1) (.int n) = decide (0 ≤ n ∧ n ≤ r - 1) := rfl
      rw [e] at k4
      refine ⟨_, rfl, p, _, 0, .int n, rfl, rfl, h4, atI_nat (j := 0) rfl, _, _, rfl, rfl, _, rfl, iteP (fun h5 => ⟨_, rfl, _, _, rfl, rfl, ?_⟩) fun h5 => ?_⟩
      · rw [show decide (0 ≤ n ∧ n ≤ r - 1) = decide (n < r) by
          rw [Bool.eq_iff_iff, decide_eq_true_eq, decide_eq_true_eq]
          omega] at k4
        exact k4
      · rw [decide_eq_false (fun z => h5 z.1)] at k4
        exact k4
    · have k4 := k3 _ s4
      have e : isIn 0 (r - 1) d1 = false := by
        cases d1 <;> first | rfl | (simp [isInt, isT, tyName] at hi)
      rw [e] at k4
      exact k4
  · refine ⟨_, rfl, mu, .str w0, _, hx3, rfl, _, rfl, iteS (fun e => ?_) fun e5 => ?_⟩
    · cases e
      have k4 := k3 _ (.refl H3)
      rw [loc_str, locW_capped, hab] at k4
      exact k4
    · have e6 : w0 = "option" := by
        simp only [List.mem_cons, List.not_mem_nil, or_false] at hw0
        rcases hw0 with z | z | z
        · exact absurd (by rw [z]) e4
        · exact z
        · exact absurd (by rw [z]) e5
      subst e6
      refine ⟨_, rfl, p, _, 0, y, rfl, rfl, h3, atI_nat (j := 0) rfl, y, mu, d1, rfl, r13, ho.inT (by simp), fun H4 s4 => ?_⟩
      have k4 := k3 _ s4
      rw [loc_str, locW_option, hab, Bool.true_and] at k4
      exact k4
theorem wt_app : ∀ ds es : List PyData, PyData.weightAll (ds ++ es) = PyData.weightAll ds + PyData.weightAll es
  | [], es => by
    show PyData.weightAll es = 0 + PyData.weightAll es
    omega
  | d :: ds, es => by
    have := wt_app ds es
    simp only [List.cons_append, PyData.weightAll] at this ⊢
    omega
theorem len_wt : ∀ ds : List PyData, ds.length ≤ PyData.weightAll ds
  | [] => Nat.le_refl _
  | d :: ds => by
    have := len_wt ds
    simp only [PyData.weightAll, List.length_cons] at this ⊢
    omega
theorem sub_wt (d : PyData) : PyData.weightAll (sub d) ≤ d.weight := by
  unfold sub
  split
  · split
    · split
      · simp only [PyData.weight, PyData.weightAll]
        omega
      · exact Nat.zero_le _
    · exact Nat.zero_le _
  · split
    · simp only [PyData.weight, PyData.weightAll]
      omega
    · exact Nat.zero_le _
  · exact Nat.zero_le _
theorem sub_ok {d : PyData} (h : Ok d) : ∀ e ∈ sub d, Ok e := by
  unfold sub
  split
  · split
    · split
      · rename_i cs
        intro e he
        exact Ok.inT (Ok.inT h (by simp)) he
      · exact fun e z => nomatch z
    · exact fun e z => nomatch z
  · split
    · intro e he
      rw [List.mem_singleton.mp he]
      exact Ok.inT h (by simp)
    · exact fun e z => nomatch z
  · exact fun e z => nomatch z
theorem clmA_app (r : Int) : ∀ ds es : List PyData, clmA r (ds ++ es) = (clmA r ds && clmA r es)
  | [], es => by simp [clmA]
  | d :: ds, es => by simp [clmA, clmA_app r ds es, Bool.and_assoc]
def spClm (K : PySem.W.Frag) : Sp := fun vs H Q _ => ∃ (r : Int) (v : V) (mu : Addr → Prop) (d : PyData), vs = [.int r, v] ∧ Dt K mu H v d ∧ Ok d ∧ ∀ H', Same H H' → Q (.bl (clm r d)) H'
abbrev sis_claim : Stmt := topS 10
theorem sc_is_claim : FnScope ["ranks", "thing", "ahead", "claim"] ["ranks", "thing"] (defScope sis_claim) := ⟨rfl, rfl, rfl, by decide +kernel, rfl, by decide +kernel, by decide +kernel⟩
theorem ok_is_claim {f : Addr} {fd : FuncData} (F : Fun K "is_claim" "is_claim" sis_claim f fd) (B : Bt mg) (c_is_claim_but_within : CalG P w K mg base 4 "is_claim_but_within" (spLoc K)) (c_claims_below : CalG P w K mg base 1 "claims_below" (spBelow K)) : FnG P w K mg base 5 f fd ["ranks", "thing"] (spClm K) := by
  refine Fun.okG F sc_is_claim (fun vs H Q E h => ?_) (fun cdv A outer s H vs Q E hg hr h => ?_)
  · obtain ⟨_, _, _, _, rfl, _⟩ := h
    rfl
  obtain ⟨r, v, mu, d, rfl, hd, ho, k⟩ := h
  refine ⟨_, (pss_cons (ps_set (i := 2) sc_is_claim.nd rfl (Or.inl rfl) (pe_lst (pa_cons (pv 1) pa_nil)))
    (pss_cons (ps_while PassesOwn.never (pt_truth (pv 2) (by intro _; rfl))
      (pss_cons (ps_set (i := 3) sc_is_claim.nd rfl (Or.inl rfl) (pe_bm0 PySem.F.plainAttrs_list PySem.F.slot_list_pop PySem.F.type_list_pop mt_pop (pv 2)))
      (pss_cons (ps_if (pt_not (pt_val (pc c_is_claim_but_within hg hr (by decide) (by rfl) (pa_cons (pv 0) (pa_cons (pv 3) pa_nil)))))
        (pss_one (ps_ret pe_bl))
        pss_nil)
      (pss_one (ps_expr (pe_bm PySem.F.plainAttrs_list PySem.F.slot_list_extend PySem.F.type_list_extend mt_extT (pv 2) (pa_cons (pc c_claims_below hg hr (by decide) (by rfl) (pa_cons (pv 3) pa_nil)) pa_nil)))))))
    (pss_one (ps_ret pe_bl)))), ?_⟩
  have hN : d.weight ≤ 27000 := ho.wt
  refine ⟨_, rfl, by show 1 ≤ sizeLine; decide, fun l nl => ?_⟩
  have s0 := same_upd (o := .lst [v]) nl
  have hd0 := (Dt.more nl hd).fut (.of_same s0)
  have pl : Fut (fun a => mu a ∨ a = l) = Fut (fun a => mu a ∨ a = l) := rfl
  refine ⟨fun m σ H' => ∃ o3 ws ds, σ = [some (.int r), some v, some (.ref l), o3] ∧ Same H H' ∧ H' l = some (.lst ws) ∧ DtA K (fun a => mu a ∨ a = l) H' ws ds ∧ (∀ e ∈ ds, Ok e) ∧ clm r d = clmA r ds ∧ PyData.weightAll ds ≤ 27001 ∧ m = PyData.weightAll ds,
    ⟨_, _, [v], [d], rfl, s0, upd_same, .cons hd0 .nil, (fun e he => by rw [List.mem_singleton.mp he]; exact ho), by simp [clmA], by simp only [PyData.weightAll]; omega, rfl⟩, ?_⟩
  rintro m σ H1 ⟨o3, ws, ds, rfl, sm, hl, hA, hok, hc, hw, rfl⟩
  refine ⟨_, rfl, !ws.isEmpty, .inl ⟨ws, .inl (.inl hl), rfl⟩, iteN (fun he => ?_) fun he => ?_⟩
  · have hne : ws ≠ [] := fun z => by
      rw [z] at he
      cases he
    have hlen := hA.length
    have hpos : 0 < ws.length := List.length_pos_iff.mpr hne
    obtain ⟨y, hy⟩ : ∃ y, ws[ws.length - 1]? = some y := ⟨_, List.getElem?_eq_getElem (by omega)⟩
    obtain ⟨e, he1, hye⟩ := hA.get hy
    have hA' := hA.take (ws.length - 1)
    rw [← List.dropLast_eq_take] at hA'
    have eds : ds = ds.take (ws.length - 1) ++ [e] := by
      have z : ds.take (ws.length - 1 + 1) = ds.take (ws.length - 1) ++ [e] := by
        rw [List.take_add_one, he1]
        rfl
      rw [← z]
      exact (List.take_of_length_le (by omega)).symm
    have oe : Ok e := hok e (List.mem_of_getElem? he1)
    have ok' : ∀ x ∈ ds.take (ws.length - 1), Ok x := fun x hx => hok x (List.mem_of_mem_take hx)
    generalize ds.take (ws.length - 1) = es at eds hA' ok'
    subst eds
    rw [clmA_app] at hc
    rw [wt_app] at hw ⊢
    refine ⟨fun σ' H' => ∃ o3 ws ds, σ' = [some (.int r), some v, some (.ref l), o3] ∧ Same H H' ∧ H' l = some (.lst ws) ∧ DtA K (fun a => mu a ∨ a = l) H' ws ds ∧ (∀ e ∈ ds, Ok e) ∧ clm r d = clmA r ds ∧ PyData.weightAll ds ≤ 27001 ∧ PyData.weightAll ds < PyData.weightAll es + PyData.weightAll [e],
      fun σ' H' ⟨o3, ws, ds, a1, a2, a3, a4, a5, a6, a7, a8⟩ => ⟨_, a8, o3, ws, ds, a1, a2, a3, a4, a5, a6, a7, rfl⟩, ?_⟩
    refine ⟨_, rfl, .inl ⟨rfl, _, .inl (.inl hl)⟩, l, ws, y, rfl, rfl, hl, hy, ?_⟩
    have fl : Fut (fun a => mu a ∨ a = l) H1 (upd H1 l (.lst ws.dropLast)) := (fut_at hl).mono fun a z => .inr z
    have sm2 : Same H (upd H1 l (.lst ws.dropLast)) := fun a o z => by
      rw [upd_ne (ne_of_none z nl)]
      exact sm a o z
    have hy2 := hye.fut fl
    have hA2 := hA'.fut fl
    have hl2 : (upd H1 l (.lst ws.dropLast)) l = some (.lst ws.dropLast) := upd_same
    revert sm2 hy2 hA2 hl2
    generalize upd H1 l (.lst ws.dropLast) = H2
    intro sm2 hy2 hA2 hl2
    have hc : clm r d = (clmA r es && clmA r [e]) := hc
    have ce : clmA r [e] = clm r e := by simp [clmA]
    rw [ce, clm_loc r e] at hc
    refine ⟨_, rfl, _, rfl, r, y, _, e, rfl, hy2, oe, fun H3 s3 => ⟨_, rfl, iteN (fun hloc => ?_) fun hloc => ?_⟩⟩
    · have kk := k H3 (sm2.trans s3)
      rw [hc, hloc, Bool.false_and, Bool.and_false] at kk
      exact kk
    · rw [hloc, Bool.true_and] at hc
      refine ⟨_, rfl, .inl ⟨rfl, _, .inl (.inl (s3 _ _ hl2))⟩, _, rfl, y, _, e, rfl, hy2.fut (.of_same s3), ⟨r, hloc⟩, fun p xs H4 s4 hp hxs => ?_⟩
      have s34 := s3.trans s4
      have hl4 := s34 _ _ hl2
      have w1 : PyData.weightAll [e] = e.weight + 1 := by simp [PyData.weightAll]
      have w2 := sub_wt e
      have l1 := hA2.length
      have l2 := hxs.length
      have l3 := len_wt es
      have l4 := len_wt (sub e)
      have sl := sizeLine_eq
      refine ⟨l, p, _, xs, rfl, rfl, hl4, hp, by omega, ?_⟩
      have fl4 : Fut (fun a => mu a ∨ a = l) H4 (upd H4 l (.lst (ws.dropLast ++ xs))) := (fut_at hl4).mono fun a z => .inr z
      refine ⟨_, _, es ++ sub e, rfl, fun a o z => ?_, upd_same, ((hA2.fut (.of_same s34)).append hxs).fut fl4, fun x hx => ?_, by rw [clmA_app]; exact hc, by rw [wt_app]; omega, by rw [wt_app]; omega⟩
      · rw [upd_ne (ne_of_none z nl)]
        exact s34 _ _ (sm2 a o z)
      · rcases List.mem_append.mp hx with hx | hx
        · exact ok' x hx
        · exact sub_ok oe x hx
  · have hnil : ws = [] := by
      cases ws with
      | nil => rfl
      | cons _ _ => cases he
    subst hnil
    cases hA
    have kk := k H1 sm
    rw [hc] at kk
    exact kk
end
end K16
namespace K16
open PySem PySem.Spec PyProof.Rows L2 Sw
/-- at least .. -/
def isGe (a : Int) : PyData → Bool
  | .int i => decide (a ≤ i)
  | _ => false
def optD (r : Int) : PyData → Bool
  | .tuple cs => decide (1 ≤ cs.length ∧ cs.length ≤ 4) && clmA r cs
  | _ => false
def partD (k : Str) (d : PyData) : Bool :=
  if k = "name" then isNm d else if k = "count" then isAb d else if k = "ranks" then isIn 0 6 d else if k = "options" then optD 6 d else if k = "index" then isGe 0 d else if k = "every" then isIn 1 3000 d else isIn 1 60 d
def spOpt (K : PySem.W.Frag) : Sp := spP K (optD 6)
def spPart (K : PySem.W.Frag) : Sp := fun vs H Q _ => ∃ (k : Str) (v : V) (mu : Addr → Prop) (d : PyData), vs = [.str k, v] ∧ Dt K mu H v d ∧ Ok d ∧ ∀ H', Same H H' → Q (.bl (partD k d)) H'
/-- the module's own numbers -/
structure Tx3 (mg : Str → Option Value) : Prop where
  MOST_RANKS : ∃ u, mg "MOST_RANKS" = some u ∧ L2.RelV (.int 6) u
  MOST_OPTIONS : ∃ u, mg "MOST_OPTIONS" = some u ∧ L2.RelV (.int 4) u
  MOST_EVERY : ∃ u, mg "MOST_EVERY" = some u ∧ L2.RelV (.int 3000) u
  MOST_TIMES : ∃ u, mg "MOST_TIMES" = some u ∧ L2.RelV (.int 60) u
section
variable {P : Program} {w : World} {K : PySem.W.Frag} {mg : Str → Option Value} {base : Heap}
abbrev sare_options : Stmt := topS 19
theorem sc_are_options : FnScope ["thing", "option"] ["thing"] (defScope sare_options) := ⟨rfl, rfl, rfl, by decide +kernel, rfl, by decide +kernel, by decide +kernel⟩
theorem ok_are_options {f : Addr} {fd : FuncData} (F : Fun K "are_options" "are_options" sare_options f fd) (B : Bt mg) (TA : mg "all" = none) (T : Tx3 mg) (c_is_claim : CalG P w K mg base 5 "is_claim" (spClm K)) : FnG P w K mg base 6 f fd ["thing"] (spP K (optD 6)) := by
  refine Fun.okG F sc_are_options spP_len (fun cdv A outer s H vs Q E hg hr h => ?_)
  obtain ⟨v, mu, d, rfl, hd, ho, k⟩ := h
  refine ⟨_, (pss_cons (ps_if (PW.pt (pw_or (pt_not (pt_val (pe_callB call_isD (by rfl) B.isin bb_isin (pa_cons (pv 0) (pa_cons (pe_bltn (v := .ty "tuple") rfl B.tuple bb_tuple rfl) pa_nil))))) (pw_or1 (pt_not (pt_chain op_le op_le pe_int (pe_callB call_lenA (by rfl) B.len boot_len (pa_cons (pv 0) pa_nil)) (C8.pe_gc rfl T.MOST_OPTIONS))))))
      (pss_one (ps_ret pe_bl))
      pss_nil)
    (pss_one (ps_ret (pe_callB (cr_all rfl) (by rfl) TA bb_all (pa_cons (pe_lc (own := [("option", 1)]) rfl sc_are_options.nd (pi_tup (pv 0)) (blkOk_by (own := [("option", 1)]) (N := ["thing", "option"]) (sc := (defScope sare_options)) (by decide +kernel)) (fun _ _ _ _ _ => (pg_name (i := 1) sc_are_options.nd rfl (Or.inl rfl))) (fun _ _ _ _ _ => pts_nil) (fun _ _ _ _ _ => (pc c_is_claim hg hr (by decide) (by rfl) (pa_cons (C8.pe_gc rfl T.MOST_RANKS) (pa_cons (pv 1) pa_nil))))) pa_nil))))), ?_⟩
  refine ⟨_, rfl, _, "tuple", mu, d, rfl, by decide, hd, _, rfl, ?_⟩
  have k0 := k H (Same.refl H)
  refine iteN (fun ht => ?_) fun ht => ?_
  · have e : optD 6 d = false := by
      cases d <;> first | rfl | (simp [isT, tyName] at ht)
    rw [e] at k0
    exact iteT k0
  obtain ⟨ds, rfl⟩ := (isTup d).mp ht
  obtain ⟨a, xs, rfl, hS, hA⟩ := hd.tupAt
  have hl := hA.length
  have eD : optD 6 (.tuple ds) = (decide (1 ≤ ds.length ∧ ds.length ≤ 4) && clmA 6 ds) := rfl
  refine ⟨_, rfl, _, xs.length, rfl, .inr ⟨_, hS, rfl⟩, _, _, rfl, rfl, _, rfl, iteP (fun h1 => ⟨_, _, rfl, rfl, _, rfl, iteN (fun h2 => ?_) fun h2 => ?_⟩) fun h1 => ⟨_, rfl, iteT ?_⟩⟩
  · have h2 := of_decide_eq_false h2
    rw [eD, decide_eq_false (by omega), Bool.false_and] at k0
    exact k0
  · have h2 := of_decide_eq_true h2
    have d1 : decide (1 ≤ ds.length ∧ ds.length ≤ 4) = true := decide_eq_true (by omega)
    refine ⟨_, rfl, a, rfl, ⟨xs, hS⟩, fun D nD => lc_it (walk_tup (K := K) (xs := xs) (a := a)) (fun i H' => Same H H' ∧ H' D = some (.lst (((ds.take i).map (clm 6)).map V.bl))) ?_ (fun i H' _ h => h.1.seqT hS) ?_ ?_⟩
    · exact ⟨same_upd nD, by rw [upd_same]; rfl⟩
    · rintro i x H1 H2 hi ⟨sm, hD⟩ ⟨rfl, hx⟩
      obtain ⟨e, he, hxe⟩ := hA.get hx
      refine ⟨rfl, _, rfl, 6, x, mu, e, rfl, hxe.fut (.of_same sm), ho.inT (List.mem_of_getElem? he), fun H3 s3 => ?_⟩
      refine ⟨_, s3 _ _ hD, ?_, fun b o z => ?_, ?_⟩
      · rw [List.length_map, List.length_map, List.length_take]
        exact small1000 (by omega)
      · rw [upd_ne (ne_of_none z nD)]
        exact s3 _ _ (sm b o z)
      · rw [upd_same, List.take_add_one, he, List.map_append, List.map_append]
        rfl
    · rintro H1 ⟨sm, hD⟩
      rw [List.take_of_length_le (by omega)] at hD
      refine ⟨D, (ds.map (clm 6)), rfl, .inl (.inl hD), ?_⟩
      have k1 := k H1 sm
      rw [eD, d1, Bool.true_and] at k1
      have e : ∀ l : List PyData, (l.map (clm 6)).all id = clmA 6 l := by
        intro l
        induction l with
        | nil => rfl
        | cons x l ih => simp [clmA, ← ih]
      rw [e]
      exact k1
  · rw [eD, decide_eq_false (by omega), Bool.false_and] at k0
    exact k0
abbrev sis_part : Stmt := topS 18
theorem sc_is_part : FnScope ["kind", "thing"] ["kind", "thing"] (defScope sis_part) := ⟨rfl, rfl, rfl, by decide +kernel, rfl, by decide +kernel, by decide +kernel⟩
theorem ok_is_part {f : Addr} {fd : FuncData} (F : Fun K "is_part" "is_part" sis_part f fd) (B : Bt mg) (T : Tx3 mg) (c_is_name : CalG P w K mg base 1 "is_name" (spP K isNm)) (c_is_above_zero : CalG P w K mg base 3 "is_above_zero" (spP K isAb)) (c_is_ranks : CalG P w K mg base 2 "is_ranks" (spP K (isIn 0 6)))
    (c_are_options : CalG P w K mg base 6 "are_options" (spP K (optD 6))) (c_is_integer : CalG P w K mg base 1 "is_integer" (spP K isInt)) : FnG P w K mg base 7 f fd ["kind", "thing"] (spPart K) := by
  refine Fun.okG F sc_is_part (fun vs H Q E h => ?_) (fun cdv A outer s H vs Q E hg hr h => ?_)
  · obtain ⟨_, _, _, _, rfl, _⟩ := h
    rfl
  obtain ⟨kd, v, mu, d, rfl, hd, ho, k⟩ := h
  refine ⟨_, (pss_cons (ps_if (pt_cmpR op_eq (pv 0) pe_str (nomark _))
      (pss_one (ps_ret (pc c_is_name hg hr (by decide) (by rfl) (pa_cons (pv 1) pa_nil))))
      pss_nil)
    (pss_cons (ps_if (pt_cmpR op_eq (pv 0) pe_str (nomark _))
      (pss_one (ps_ret (pc c_is_above_zero hg hr (by decide) (by rfl) (pa_cons (pv 1) pa_nil))))
      pss_nil)
    (pss_cons (ps_if (pt_cmpR op_eq (pv 0) pe_str (nomark _))
      (pss_one (ps_ret (pc c_is_ranks hg hr (by decide) (by rfl) (pa_cons (pv 1) pa_nil))))
      pss_nil)
    (pss_cons (ps_if (pt_cmpR op_eq (pv 0) pe_str (nomark _))
      (pss_one (ps_ret (pc c_are_options hg hr (by decide) (by rfl) (pa_cons (pv 1) pa_nil))))
      pss_nil)
    (pss_cons (ps_if (pt_not (pt_val (pc c_is_integer hg hr (by decide) (by rfl) (pa_cons (pv 1) pa_nil))))
      (pss_one (ps_ret pe_bl))
      pss_nil)
    (pss_cons (ps_if (pt_cmpR op_eq (pv 0) pe_str (nomark _))
      (pss_one (ps_ret (pe_cmpR op_ge (pv 1) pe_int (nomark _))))
      pss_nil)
    (pss_one (ps_ret (pe_chain op_le op_le pe_int (pv 1) (pe_ifExp (pt_cmpR op_eq (pv 0) pe_str (nomark _)) (C8.pe_gc rfl T.MOST_EVERY) (C8.pe_gc rfl T.MOST_TIMES))))))))))), ?_⟩
  have no : isInt d = false → ∀ a b, isIn a b d = false ∧ isGe a d = false := fun hi a b => by
    cases d <;> first | exact ⟨rfl, rfl⟩ | (simp [isInt, isT, tyName] at hi)
  unfold partD at k
  refine ⟨_, rfl, rfl, _, rfl, iteP (fun e => ?_) fun e => ?_⟩
  · rw [if_pos (V.str.inj e)] at k
    exact ⟨_, rfl, v, mu, d, rfl, hd, ho, k⟩
  rw [if_neg (fun z => e (by rw [z]))] at k
  refine ⟨_, rfl, rfl, _, rfl, iteP (fun e => ?_) fun e => ?_⟩
  · rw [if_pos (V.str.inj e)] at k
    exact ⟨_, rfl, v, mu, d, rfl, hd, ho, k⟩
  rw [if_neg (fun z => e (by rw [z]))] at k
  refine ⟨_, rfl, rfl, _, rfl, iteP (fun e => ?_) fun e => ?_⟩
  · rw [if_pos (V.str.inj e)] at k
    exact ⟨_, rfl, v, mu, d, rfl, hd, ho, k⟩
  rw [if_neg (fun z => e (by rw [z]))] at k
  refine ⟨_, rfl, rfl, _, rfl, iteP (fun e => ?_) fun e => ?_⟩
  · rw [if_pos (V.str.inj e)] at k
    exact ⟨_, rfl, v, mu, d, rfl, hd, ho, k⟩
  rw [if_neg (fun z => e (by rw [z]))] at k
  refine ⟨_, rfl, v, mu, d, rfl, hd, ho, fun H1 s1 => ⟨_, rfl, iteN (fun hi => ?_) fun hi => ?_⟩⟩
  · have k1 := k H1 s1
    rw [(no hi 0 0).2, (no hi 1 3000).1, (no hi 1 60).1] at k1
    rw [ite_self, ite_self] at k1
    exact k1
  · obtain ⟨n, rfl⟩ := (isIntD d).mp hi
    cases hd
    have k1 := k H1 s1
    refine ⟨_, rfl, rfl, _, rfl, iteP (fun e => ?_) fun e => ?_⟩
    · rw [if_pos (V.str.inj e)] at k1
      exact ⟨_, rfl, _, _, rfl, rfl, k1⟩
    rw [if_neg (fun z => e (by rw [z]))] at k1
    refine ⟨_, rfl, _, _, rfl, rfl, _, rfl, iteP (fun h1 => ⟨_, rfl, rfl, _, rfl, iteP (fun e => ?_) fun e => ?_⟩) fun h1 => ?_⟩
    · rw [if_pos (V.str.inj e), show isIn 1 3000 (.int n) = decide (n ≤ 3000) by
        show decide (1 ≤ n ∧ n ≤ 3000) = _
        rw [Bool.eq_iff_iff, decide_eq_true_eq, decide_eq_true_eq]
        omega] at k1
      exact ⟨_, _, rfl, rfl, k1⟩
    · rw [if_neg (fun z => e (by rw [z])), show isIn 1 60 (.int n) = decide (n ≤ 60) by
        show decide (1 ≤ n ∧ n ≤ 60) = _
        rw [Bool.eq_iff_iff, decide_eq_true_eq, decide_eq_true_eq]
        omega] at k1
      exact ⟨_, _, rfl, rfl, k1⟩
    · rw [show isIn 1 3000 (.int n) = false from decide_eq_false (fun z => h1 z.1), show isIn 1 60 (.int n) = false from decide_eq_false (fun z => h1 z.1), ite_self] at k1
      exact k1
end
end K16
namespace K16
open PySem PySem.Spec PyProof.Rows L2 Sw StX RZ
def deedT : List (Str × List Str) := [("firm", ["name", "ranks"]), ("sort", ["name", "name", "options"]), ("give", ["name", "name", "name", "count"]), ("hand", ["name", "name", "name", "name", "count"]), ("back", ["name", "name", "name", "count"]), ("split", ["name", "name", "count"]), ("grant", ["name", "name", "name", "count", "every", "times"]), ("leave", ["name", "name"]), ("strike", ["index"])]
def deedK (z : Str) : Option (List Str) := deedT.lookup z
def ptsD : List Str → List PyData → Bool
  | k :: ks, p :: ps => partD k p && ptsD ks ps
  | _, _ => true
def isDeed : PyData → Bool
  | .tuple (.str w :: ps) => (match deedK w with | some ks => decide (ps.length = ks.length) && ptsD ks ps | none => false)
  | _ => false
def isEnt : PyData → Bool
  | .tuple [a, b] => isInt a && isDeed b
  | _ => false
def areEnt : PyData → Bool
  | .tuple ds => ds.all isEnt
  | _ => false
/-- the table of the deeds' parts, as the top has written it -/
structure DPs (K : PySem.W.Frag) (w : World) (mg : Str → Option Value) (d0 : Addr) (es : Array DictEntry) (n : Nat) : Prop where
  at_ : mg "DEED_PARTS" = some (.ref d0)
  kd : KDict K w d0 es n
  no : ∀ z, deedK z = none → PySem.W.nsIn K d0 z = some none
  yes : ∀ z ks, deedK z = some ks → ∃ a, PySem.W.nsIn K d0 z = some (some (.ref a)) ∧ KTup K a (ks.map V.str)
theorem isDeed_str (w : Str) (ps : List PyData) : isDeed (.tuple (.str w :: ps)) = (match deedK w with | some ks => decide (ps.length = ks.length) && ptsD ks ps | none => false) := rfl
theorem deed_len {z : Str} {ks : List Str} (h : deedK z = some ks) : ks.length ≤ 6 := by
  have : ∀ p ∈ deedT, p.2.length ≤ 6 := by decide
  unfold deedK at h
  have key : ∀ l : List (Str × List Str), l.lookup z = some ks → (z, ks) ∈ l := by
    intro l
    induction l with
    | nil => intro h; cases h
    | cons p l ih =>
      intro h
      rw [List.lookup_cons] at h
      split at h
      · rename_i e
        rw [beq_iff_eq] at e
        cases h
        rw [e]
        exact List.mem_cons_self
      · exact List.mem_cons_of_mem _ (ih h)
  exact this _ (key _ h)
section
variable {P : Program} {w : World} {K : PySem.W.Frag} {mg : Str → Option Value} {base : Heap}
abbrev sis_deed : Stmt := topS 17
theorem sc_is_deed : FnScope ["thing", "kinds", "kind", "part"] ["thing"] (defScope sis_deed) := ⟨rfl, rfl, rfl, by decide +kernel, rfl, by decide +kernel, by decide +kernel⟩
theorem ok_is_deed {f : Addr} {fd : FuncData} {d0 : Addr} {es : Array DictEntry} {n : Nat} (F : Fun K "is_deed" "is_deed" sis_deed f fd) (B : Bt mg) (TA : mg "all" = none) (T : DPs K w mg d0 es n) (c_is_part : CalG P w K mg base 7 "is_part" (spPart K)) : FnG P w K mg base 8 f fd ["thing"] (spP K isDeed) := by
  refine Fun.okG F sc_is_deed spP_len (fun cdv A outer s H vs Q E hg hr h => ?_)
  obtain ⟨v, mu, d, rfl, hd, ho, k⟩ := h
  refine ⟨_, (pss_cons (ps_if (PW.pt (pw_or (pt_not (pt_val (pe_callB call_isD (by rfl) B.isin bb_isin (pa_cons (pv 0) (pa_cons (pe_bltn (v := .ty "tuple") rfl B.tuple bb_tuple rfl) pa_nil))))) (pw_or (pt_cmpR op_eq (pe_callB call_lenA (by rfl) B.len boot_len (pa_cons (pv 0) pa_nil)) pe_int (nomark _)) (pw_or1 (pt_not (pt_val (pe_callB call_isD (by rfl) B.isin bb_isin (pa_cons (pe_ix ix_tup (pv 0) pe_int (fun _ _ => rfl)) (pa_cons (pe_bltn (v := .ty "str") rfl B.str bb_str rfl) pa_nil)))))))))
      (pss_one (ps_ret pe_bl))
      pss_nil)
    (pss_cons (ps_if (pt_cmpR (op_notIn_kd T.kd) (pe_ix ix_tup (pv 0) pe_int (fun _ _ => rfl)) (pe_glob (v := .ref d0) (by rfl) T.at_ rfl) (by rfl))
      (pss_one (ps_ret pe_bl))
      pss_nil)
    (pss_cons (ps_set (i := 1) sc_is_deed.nd rfl (Or.inl rfl) (pe_ix ix_kdict (pe_glob (v := .ref d0) (by rfl) T.at_ rfl) (pe_ix ix_tup (pv 0) pe_int (fun _ _ => rfl)) (fun _ _ => rfl)))
    (pss_one (ps_ret (pe_and (pe_cmpR op_eq (pe_callB call_lenA (by rfl) B.len boot_len (pa_cons (pv 0) pa_nil)) (pe_op op_add pe_int (pe_callB call_lenA (by rfl) B.len boot_len (pa_cons (pv 1) pa_nil))) (nomark _)) (pe_one (pe_callB (cr_all rfl) (by rfl) TA bb_all (pa_cons (pe_lc (own := [("kind", 2), ("part", 3)]) rfl sc_is_deed.nd (pi_zipA (by rfl) B.zip (pa_cons (pv 1) (pa_cons (pe_slice sl_tupA (pv 0) (po_some pe_int) po_none) pa_nil))) (blkOk_by (own := [("kind", 2), ("part", 3)]) (N := ["thing", "kinds", "kind", "part"]) (sc := (defScope sis_deed)) (by decide +kernel)) (fun _ _ _ _ _ => (pg_tupK (K := K) (hK := rfl) (n := 2) rfl (pgs_cons (pg_name (i := 2) sc_is_deed.nd rfl (Or.inl rfl)) (pgs_cons (pg_name (i := 3) sc_is_deed.nd rfl (Or.inl rfl)) pgs_nil)))) (fun _ _ _ _ _ => pts_nil) (fun _ _ _ _ _ => (pc c_is_part hg hr (by decide) (by rfl) (pa_cons (pv 2) (pa_cons (pv 3) pa_nil))))) pa_nil))))))))), ?_⟩
  refine ⟨_, rfl, _, "tuple", mu, d, rfl, by decide, hd, _, rfl, ?_⟩
  have k0 := k H (Same.refl H)
  refine iteN (fun ht => ?_) fun ht => ?_
  · have e : isDeed d = false := by
      cases d <;> first | rfl | (simp [isT, tyName] at ht)
    rw [e] at k0
    exact iteT k0
  obtain ⟨ds, rfl⟩ := (isTup d).mp ht
  obtain ⟨a, xs, rfl, hS, hA⟩ := hd.tupAt
  have hl := hA.length
  refine ⟨_, rfl, _, xs.length, rfl, .inr ⟨_, hS, rfl⟩, rfl, _, rfl, iteEq (fun hn => ?_) fun hn => ?_⟩
  · have e : ds = [] := List.eq_nil_of_length_eq_zero (by omega)
    subst e
    exact k0
  cases hA with
  | nil => exact absurd rfl hn
  | @cons x xs' dw ps hx hxs =>
  refine ⟨_, rfl, a, _, 0, x, rfl, rfl, hS, atI_nat (j := 0) rfl, _, "str", mu, dw, rfl, by decide, hx, _, rfl, iteN (fun hs => ?_) fun hs => ?_⟩
  · have e : isDeed (.tuple (dw :: ps)) = false := by
      cases dw <;> first | rfl | (simp [isT, tyName] at hs)
    rw [e] at k0
    exact k0
  obtain ⟨z, rfl⟩ := (isStr dw).mp hs
  cases hx
  rw [isDeed_str] at k k0
  have hl' := hxs.length
  cases hz : deedK z with
  | none =>
    rw [hz] at k k0
    have e := T.no z hz
    refine ⟨_, rfl, a, _, 0, _, rfl, rfl, hS, atI_nat (j := 0) rfl, z, none, rfl, rfl, e, _, rfl, iteT k0⟩
  | some ks =>
    rw [hz] at k k0
    dsimp only at k k0
    obtain ⟨t, e, ht⟩ := T.yes z ks hz
    have hk6 := deed_len hz
    refine ⟨_, rfl, a, _, 0, _, rfl, rfl, hS, atI_nat (j := 0) rfl, z, _, rfl, rfl, e, _, rfl, iteF ?_⟩
    refine ⟨_, rfl, a, _, 0, _, rfl, rfl, hS, atI_nat (j := 0) rfl, d0, z, .ref t, rfl, rfl, ⟨es, n, _, T.kd.at_, T.kd.lit, e, rfl⟩, ?_⟩
    refine ⟨_, rfl, _, (V.str z :: xs').length, rfl, .inr ⟨_, hS, rfl⟩, _, rfl, _, (ks.map V.str).length, rfl, .inr ⟨_, KTup.sqT ht, rfl⟩, _, _, rfl, rfl, rfl, _, rfl, iteEq (fun h1 => ?_) fun h1 => ?_⟩
    rotate_left
    · have : ps.length ≠ ks.length := fun z => by
        rw [List.length_map, List.length_cons] at h1
        omega
      rw [decide_eq_false this, Bool.false_and] at k0
      exact k0
    have hlen : ps.length = ks.length := by
      rw [List.length_map, List.length_cons] at h1
      omega
    rw [decide_eq_true hlen, Bool.true_and] at k
    refine ⟨_, rfl, _, rfl, 1, rfl, ?_⟩
    dsimp only [tNoPart]
    refine slA_use hS fun p H1 s1 h1 => ?_
    rw [show (1 : Int) = ((1 : Nat) : Int) from rfl, cutV_from] at h1
    have h1 : SqT K H1 p xs' := h1
    have hxs1 := hxs.fut (.of_same (mu := mu) s1)
    have hk1 : SqT K H1 t (ks.map V.str) := KTup.sqT ht
    have lz : (ks.zip ps).length = ks.length := by rw [List.length_zip, hlen, Nat.min_self]
    refine ⟨t, p, ks.map V.str, xs', rfl, .inr ⟨hk1, h1, fun D nD => lc_it (walk_zipT (K := K) (a := t) (b := p) (xs := ks.map V.str) (ys := xs') (n := ks.length) (by rw [List.length_map]; omega)) (fun i H' => Same H1 H' ∧ H' D = some (.lst ((((ks.zip ps).take i).map fun q => partD q.1 q.2).map V.bl))) ?_ (fun i H' _ h => ⟨h.1.seqT hk1, h.1.seqT h1⟩) ?_ ?_⟩⟩
    · exact ⟨same_upd nD, by rw [upd_same]; rfl⟩
    · rintro i x' H2 H3 hi ⟨sm, hD⟩ ⟨T2, x2, y2, rfl, nT, rfl, hx2, hy2⟩
      have hx2 : (ks.map V.str)[i]? = some x2 := hx2
      have hy2 : xs'[i]? = some y2 := hy2
      obtain ⟨e2, he2, hye⟩ := hxs1.get hy2
      have hki : ks[i]? = some ks[i] := List.getElem?_eq_getElem hi
      rw [List.getElem?_map, hki] at hx2
      cases hx2
      have TD : T2 ≠ D := fun e => by
        rw [e, hD] at nT
        cases nT
      have sT := same_upd (o := .tup [.str ks[i], y2]) nT
      refine ⟨T2, _, rfl, .inl (.inl upd_same), rfl, _, _, rfl, _, _, rfl, rfl, rfl, ?_⟩
      have hD2 := sT _ _ hD
      have sm2 := sm.trans sT
      revert hD2 sm2
      generalize upd H2 T2 (.tup [.str ks[i], y2]) = H3
      intro hD2 sm2
      refine ⟨_, rfl, _, rfl, ks[i], y2, mu, e2, rfl, hye.fut (.of_same sm2), ho.inT (List.mem_cons_of_mem _ (List.mem_of_getElem? he2)), fun H4 s4 => ?_⟩
      refine ⟨_, s4 _ _ hD2, ?_, fun b o q => ?_, ?_⟩
      · rw [List.length_map, List.length_map, List.length_take]
        exact small1000 (by omega)
      · rw [upd_ne (ne_of_none q nD)]
        exact s4 _ _ (sm2 b o q)
      · have hz2 : (ks.zip ps)[i]? = some (ks[i], e2) := List.getElem?_zip_eq_some.mpr ⟨hki, he2⟩
        rw [upd_same, List.take_add_one, hz2, List.map_append, List.map_append]
        rfl
    · rintro H2 ⟨sm, hD⟩
      rw [List.take_of_length_le (by omega)] at hD
      refine ⟨D, _, rfl, .inl (.inl hD), ?_⟩
      have k1 := k H2 (s1.trans sm)
      have e : ∀ (ks : List Str) (ps : List PyData), ((ks.zip ps).map fun q => partD q.1 q.2).all id = ptsD ks ps := by
        intro ks
        induction ks with
        | nil =>
          intro ps
          cases ps <;> rfl
        | cons a l ih =>
          intro ps
          cases ps with
          | nil => rfl
          | cons b r =>
            rw [List.zip_cons_cons, List.map_cons, List.all_cons, ih r]
            rfl
      rw [e]
      exact k1
abbrev sis_entry : Stmt := topS 21
theorem sc_is_entry : FnScope ["thing"] ["thing"] (defScope sis_entry) := ⟨rfl, rfl, rfl, by decide +kernel, rfl, by decide +kernel, by decide +kernel⟩
theorem ok_is_entry {f : Addr} {fd : FuncData} (F : Fun K "is_entry" "is_entry" sis_entry f fd) (B : Bt mg) (c_is_integer : CalG P w K mg base 1 "is_integer" (spP K isInt)) (c_is_deed : CalG P w K mg base 8 "is_deed" (spP K isDeed)) : FnG P w K mg base 9 f fd ["thing"] (spP K isEnt) := by
  refine Fun.okG F sc_is_entry spP_len (fun cdv A outer s H vs Q E hg hr h => ?_)
  obtain ⟨v, mu, d, rfl, hd, ho, k⟩ := h
  refine ⟨_, (pss_one (ps_ret (pe_and (pe_callB call_isD (by rfl) B.isin bb_isin (pa_cons (pv 0) (pa_cons (pe_bltn (v := .ty "tuple") rfl B.tuple bb_tuple rfl) pa_nil))) (pe_and (pe_cmpR op_eq (pe_callB call_lenA (by rfl) B.len boot_len (pa_cons (pv 0) pa_nil)) pe_int (nomark _)) (pe_and (pc c_is_integer hg hr (by decide) (by rfl) (pa_cons (pe_ix ix_tup (pv 0) pe_int (fun _ _ => rfl)) pa_nil)) (pe_one (pc c_is_deed hg hr (by decide) (by rfl) (pa_cons (pe_ix ix_tup (pv 0) pe_int (fun _ _ => rfl)) pa_nil)))))))), ?_⟩
  refine ⟨_, rfl, _, "tuple", mu, d, rfl, by decide, hd, _, rfl, ?_⟩
  have k0 := k H (Same.refl H)
  refine iteB (fun ht => ?_) fun ht => ?_
  rotate_left
  · have e : isEnt d = false := by
      cases d <;> first | rfl | (simp [isT, tyName] at ht)
    rw [e] at k0
    exact k0
  obtain ⟨ds, rfl⟩ := (isTup d).mp ht
  obtain ⟨a, xs, rfl, hS, hA⟩ := hd.tupAt
  have hl := hA.length
  refine ⟨_, rfl, _, xs.length, rfl, .inr ⟨_, hS, rfl⟩, rfl, _, rfl, iteEq (fun hn => ?_) fun hn => ?_⟩
  · obtain ⟨x, y, d1, d2, rfl, rfl, r1, r2⟩ := hA.two (by omega)
    have e : isEnt (.tuple [d1, d2]) = (isInt d1 && isDeed d2) := rfl
    rw [e] at k
    refine ⟨_, rfl, a, _, 0, x, rfl, rfl, hS, atI_nat (j := 0) rfl, x, mu, d1, rfl, r1, ho.inT (by simp), fun H1 s1 => ⟨_, rfl, iteB (fun h1 => ?_) fun h1 => ?_⟩⟩
    · rw [h1, Bool.true_and] at k
      exact ⟨_, rfl, a, _, 1, y, rfl, rfl, s1.seqT hS, atI_nat (j := 1) rfl, y, mu, d2, rfl, r2.fut (.of_same s1), ho.inT (by simp), fun H2 s2 => k H2 (s1.trans s2)⟩
    · have k1 := k H1 s1
      rw [h1, Bool.false_and] at k1
      exact k1
  · have e : isEnt (.tuple ds) = false := by
      match ds, hl with
      | [], _ => rfl
      | [_], _ => rfl
      | [_, _], hl => exact absurd (by rw [hl]; rfl) hn
      | _ :: _ :: _ :: _, _ => rfl
    rw [e] at k0
    exact k0
abbrev sare_entries : Stmt := topS 20
theorem sc_are_entries : FnScope ["thing", "entry"] ["thing"] (defScope sare_entries) := ⟨rfl, rfl, rfl, by decide +kernel, rfl, by decide +kernel, by decide +kernel⟩
theorem ok_are_entries {f : Addr} {fd : FuncData} (F : Fun K "are_entries" "are_entries" sare_entries f fd) (B : Bt mg) (TA : mg "all" = none) (c_is_entry : CalG P w K mg base 9 "is_entry" (spP K isEnt)) : FnG P w K mg base 10 f fd ["thing"] (spP K areEnt) := by
  refine Fun.okG F sc_are_entries spP_len (fun cdv A outer s H vs Q E hg hr h => ?_)
  obtain ⟨v, mu, d, rfl, hd, ho, k⟩ := h
  refine ⟨_, (pss_one (ps_ret (pe_and (pe_callB call_isD (by rfl) B.isin bb_isin (pa_cons (pv 0) (pa_cons (pe_bltn (v := .ty "tuple") rfl B.tuple bb_tuple rfl) pa_nil))) (pe_one (pe_callB (cr_all rfl) (by rfl) TA bb_all (pa_cons (pe_lc (own := [("entry", 1)]) rfl sc_are_entries.nd (pi_tup (pv 0)) (blkOk_by (own := [("entry", 1)]) (N := ["thing", "entry"]) (sc := (defScope sare_entries)) (by decide +kernel)) (fun _ _ _ _ _ => (pg_name (i := 1) sc_are_entries.nd rfl (Or.inl rfl))) (fun _ _ _ _ _ => pts_nil) (fun _ _ _ _ _ => (pc c_is_entry hg hr (by decide) (by rfl) (pa_cons (pv 1) pa_nil)))) pa_nil)))))), ?_⟩
  refine ⟨_, rfl, _, "tuple", mu, d, rfl, by decide, hd, _, rfl, ?_⟩
  have k0 := k H (Same.refl H)
  refine iteB (fun ht => ?_) fun ht => ?_
  rotate_left
  · have e : areEnt d = false := by
      cases d <;> first | rfl | (simp [isT, tyName] at ht)
    rw [e] at k0
    exact k0
  obtain ⟨ds, rfl⟩ := (isTup d).mp ht
  obtain ⟨a, xs, rfl, hS, hA⟩ := hd.tupAt
  have hl := hA.length
  have hw := len_wt ds
  have hw2 : PyData.weightAll ds ≤ 27000 := ho.wt
  have sl := sizeLine_eq
  refine ⟨_, rfl, a, rfl, ⟨xs, hS⟩, fun D nD => lc_it (walk_tup (K := K) (xs := xs) (a := a)) (fun i H' => Same H H' ∧ H' D = some (.lst (((ds.take i).map isEnt).map V.bl))) ?_ (fun i H' _ h => h.1.seqT hS) ?_ ?_⟩
  · exact ⟨same_upd nD, by rw [upd_same]; rfl⟩
  · rintro i x H1 H2 hi ⟨sm, hD⟩ ⟨rfl, hx⟩
    obtain ⟨e, he, hxe⟩ := hA.get hx
    refine ⟨rfl, _, rfl, x, mu, e, rfl, hxe.fut (.of_same sm), ho.inT (List.mem_of_getElem? he), fun H3 s3 => ?_⟩
    refine ⟨_, s3 _ _ hD, ?_, fun b o z => ?_, ?_⟩
    · rw [List.length_map, List.length_map, List.length_take]
      omega
    · rw [upd_ne (ne_of_none z nD)]
      exact s3 _ _ (sm b o z)
    · rw [upd_same, List.take_add_one, he, List.map_append, List.map_append]
      rfl
  · rintro H1 ⟨sm, hD⟩
    rw [List.take_of_length_le (by omega)] at hD
    refine ⟨D, (ds.map isEnt), rfl, .inl (.inl hD), ?_⟩
    have k1 := k H1 sm
    rw [List.all_map, show (id ∘ isEnt) = isEnt from rfl]
    exact k1
end
end K16
namespace K16
open PySem PySem.Spec PyProof.Rows L2 Sw StX RZ
section
variable {P : Program} {w : World} {K : PySem.W.Frag} {mg : Str → Option Value} {base : Heap}
abbrev s_law_is_above : Stmt := topS 34
theorem sc__law_is_above : FnScope ["thing"] ["thing"] (defScope s_law_is_above) := ⟨rfl, rfl, rfl, by decide +kernel, rfl, by decide +kernel, by decide +kernel⟩
theorem ok__law_is_above {f : Addr} {fd : FuncData} (F : Fun K "_law_is_above" "_law_is_above" s_law_is_above f fd) (B : Bt mg) (c__law_is_int : CalG P w K mg base 1 "_law_is_int" (spP K isInt)) (c__law_common : CalG P w K mg base 1 "_law_common" spCommon) : FnG P w K mg base 2 f fd ["thing"] (spP K isAb) := by
  refine Fun.okG F sc__law_is_above spP_len (fun cdv A outer s H vs Q E hg hr h => ?_)
  obtain ⟨v, mu, d, rfl, hd, ho, k⟩ := h
  refine ⟨_, (pss_cons (ps_if (PW.pt (pw_or (pt_not (pt_val (pe_callB call_isD (by rfl) B.isin bb_isin (pa_cons (pv 0) (pa_cons (pe_bltn (v := .ty "tuple") rfl B.tuple bb_tuple rfl) pa_nil))))) (pw_or (pt_cmpR op_ne (pe_callB call_lenA (by rfl) B.len boot_len (pa_cons (pv 0) pa_nil)) pe_int (nomark _)) (pw_or (pt_not (pt_val (pc c__law_is_int hg hr (by decide) (by rfl) (pa_cons (pe_ix ix_tup (pv 0) pe_int (fun _ _ => rfl)) pa_nil)))) (pw_or1 (pt_not (pt_val (pc c__law_is_int hg hr (by decide) (by rfl) (pa_cons (pe_ix ix_tup (pv 0) pe_int (fun _ _ => rfl)) pa_nil)))))))))
      (pss_one (ps_ret pe_bl))
      pss_nil)
    (pss_one (ps_ret (pe_and (pe_cmpR op_gt (pe_ix ix_tup (pv 0) pe_int (fun _ _ => rfl)) pe_int (nomark _)) (pe_and (pe_cmpR op_gt (pe_ix ix_tup (pv 0) pe_int (fun _ _ => rfl)) pe_int (nomark _)) (pe_one (pe_cmpR op_eq (pc c__law_common hg hr (by decide) (by rfl) (pa_cons (pe_ix ix_tup (pv 0) pe_int (fun _ _ => rfl)) (pa_cons (pe_ix ix_tup (pv 0) pe_int (fun _ _ => rfl)) pa_nil))) pe_int (nomark _)))))))), ?_⟩
  refine ⟨_, rfl, _, "tuple", mu, d, rfl, by decide, hd, _, rfl, ?_⟩
  have k0 := k H (Same.refl H)
  refine iteN (fun ht => ?_) fun ht => ?_
  · have e : isAb d = false := by
      cases d <;> first | rfl | (simp [isT, tyName] at ht)
    rw [e] at k0
    exact k0
  · obtain ⟨ds, rfl⟩ := (isTup d).mp ht
    obtain ⟨a, xs, rfl, hS, hA⟩ := hd.tupAt
    have el := hA.length
    refine ⟨_, rfl, _, xs.length, rfl, .inr ⟨_, hS, rfl⟩, rfl, _, rfl, iteNe (fun hn => ?_) fun hn => ?_⟩
    · have e : isAb (.tuple ds) = false := by
        unfold isAb
        split
        · rename_i z
          injection z with z
          rw [z] at el
          simp at el
          omega
        · rfl
      rw [e] at k0
      exact k0
    · obtain ⟨x, y, d1, d2, rfl, rfl, r1, r2⟩ := hA.two (by omega)
      have o1 : Ok d1 := ho.inT (by simp)
      have o2 : Ok d2 := ho.inT (by simp)
      have no : (∀ n m, d1 = .int n → d2 = .int m → False) → isAb (.tuple [d1, d2]) = false := fun z => by
        unfold isAb
        split
        · rename_i q
          injection q with q
          injection q with q1 q
          injection q with q2 _
          exact (z _ _ q1 q2).elim
        · rfl
      refine ⟨_, rfl, a, _, 0, x, rfl, rfl, hS, atI_nat (j := 0) rfl, x, mu, d1, rfl, r1, o1, fun H1 s1 => ⟨_, rfl, iteN (fun h1 => ?_) fun h1 => ?_⟩⟩
      · have kk := k H1 s1
        rw [no fun n m e1 e2 => by rw [e1] at h1; cases h1] at kk
        exact kk
      · have hS1 : SqT K H1 a [x, y] := s1.seqT hS
        refine ⟨_, rfl, a, _, 1, y, rfl, rfl, hS1, atI_nat (j := 1) rfl, y, mu, d2, rfl, r2.fut (.of_same s1), o2, fun H2 s2 => ⟨_, rfl, iteN (fun h2 => ?_) fun h2 => ?_⟩⟩
        · have kk := k H2 (s1.trans s2)
          rw [no fun n m e1 e2 => by rw [e2] at h2; cases h2] at kk
          exact kk
        · obtain ⟨n, rfl⟩ := (isIntD d1).mp h1
          obtain ⟨m, rfl⟩ := (isIntD d2).mp h2
          cases r1
          cases r2
          have hS2 := s2.seqT hS1
          have kk := k H2 (s1.trans s2)
          have eA : isAb (.tuple [.int n, .int m]) = ((decide (1 ≤ m) && decide (gI n m = 1)) && decide (0 < n)) := rfl
          rw [eA] at kk
          refine ⟨_, rfl, a, _, 0, .int n, rfl, rfl, hS2, atI_nat (j := 0) rfl, _, _, rfl, rfl, _, rfl, iteP (fun h3 => ?_) fun h3 => ?_⟩
          · rw [decide_eq_true (show 0 < n by omega), Bool.and_true] at kk
            refine ⟨_, rfl, a, _, 1, .int m, rfl, rfl, hS2, atI_nat (j := 1) rfl, _, _, rfl, rfl, _, rfl, iteP (fun h4 => ?_) fun h4 => ?_⟩
            · rw [decide_eq_true (show 1 ≤ m by omega), Bool.true_and] at kk
              refine ⟨_, rfl, a, _, 0, .int n, rfl, rfl, hS2, atI_nat (j := 0) rfl, _, rfl, a, _, 1, .int m, rfl, rfl, hS2, atI_nat (j := 1) rfl, n, m, rfl, rfl, ?_⟩
              show Q (.bl (decide (V.int (gI n m) = V.int 1))) H2
              rw [Sw.dec_int]
              exact kk
            · rw [decide_eq_false (show ¬ 1 ≤ m by omega), Bool.false_and] at kk
              exact kk
          · rw [decide_eq_false (show ¬ 0 < n by omega), Bool.and_false] at kk
            exact kk
theorem depth_mem {d : PyData} : ∀ {ds : List PyData}, d ∈ ds → d.depth ≤ PyData.depthAll ds
  | x :: ds, h => by
    simp only [PyData.depthAll]
    rcases List.mem_cons.mp h with rfl | h
    · exact Nat.le_max_left _ _
    · exact Nat.le_trans (depth_mem h) (Nat.le_max_right _ _)
theorem clmA_all (r : Int) : ∀ cs : List PyData, clmA r cs = cs.all (clm r)
  | [] => rfl
  | c :: cs => by simp [clmA, clmA_all r cs]
/-- a claim of six ranks, not too deep -/
def spClmL (K : PySem.W.Frag) (n : Nat) : Sp := fun vs H Q _ => ∃ (v : V) (mu : Addr → Prop) (d : PyData), vs = [v] ∧ Dt K mu H v d ∧ Ok d ∧ d.depth ≤ n ∧ ∀ H', Same H H' → Q (.bl (clm 6 d)) H'
abbrev s_law_is_claim : Stmt := topS 36
theorem sc__law_is_claim : FnScope ["thing", "word", "many", "one"] ["thing"] (defScope s_law_is_claim) := ⟨rfl, rfl, rfl, by decide +kernel, rfl, by decide +kernel, by decide +kernel⟩
theorem ok__law_is_claim {f : Addr} {fd : FuncData} {j N : Nat} {sp : Sp} (hj : 3 ≤ j) (hsp : N = 0 ∨ ∃ m, N = m + 1 ∧ sp = spClmL K m) (F : Fun K "_law_is_claim" "_law_is_claim" s_law_is_claim f fd) (B : Bt mg) (c__law_is_int : CalG P w K mg base 1 "_law_is_int" (spP K isInt)) (c__law_is_above : CalG P w K mg base 2 "_law_is_above" (spP K isAb))
    (c__law_is_claim : CalG P w K mg base j "_law_is_claim" sp) : FnG P w K mg base (j + 1) f fd ["thing"] (spClmL K N) := by
  refine Fun.okG F sc__law_is_claim (fun vs H Q E h => ?_) (fun cdv A outer s H vs Q E hg hr h => ?_)
  · obtain ⟨_, _, _, rfl, _⟩ := h
    rfl
  obtain ⟨v, mu, d, rfl, hd, ho, hdp, k⟩ := h
  have hu := Room.u64 hr
  refine ⟨_, (pss_cons (ps_if (PW.pt (pw_or (pt_not (pt_val (pe_callB call_isD (by rfl) B.isin bb_isin (pa_cons (pv 0) (pa_cons (pe_bltn (v := .ty "tuple") rfl B.tuple bb_tuple rfl) pa_nil))))) (pw_or (pt_cmpR (op_eqNilT (K := K) rfl hu) (pv 0) (pe_tup pa_nil) (nomark _)) (pw_or1 (pt_not (pt_val (pe_callB call_isD (by rfl) B.isin bb_isin (pa_cons (pe_ix ix_tup (pv 0) pe_int (fun _ _ => rfl)) (pa_cons (pe_bltn (v := .ty "str") rfl B.str bb_str rfl) pa_nil)))))))))
      (pss_one (ps_ret pe_bl))
      pss_nil)
    (pss_cons (ps_par (i := 1) (j := 2) rfl sc__law_is_claim.nd rfl rfl (by decide) rfl rfl (pa_cons (pe_ix ix_tup (pv 0) pe_int (fun _ _ => rfl)) (pa_cons (pe_callB call_lenA (by rfl) B.len boot_len (pa_cons (pv 0) pa_nil)) pa_nil)) (by rfl))
    (pss_cons (ps_if (pt_cmpR op_eq (pv 1) pe_str (nomark _))
      (pss_one (ps_ret (pe_cmpR op_eq (pv 2) pe_int (nomark _))))
      pss_nil)
    (pss_cons (ps_if (pt_cmpR op_eq (pv 1) pe_str (nomark _))
      (pss_one (ps_ret (pe_and (pe_cmpR op_eq (pv 2) pe_int (nomark _)) (pe_and (pc c__law_is_int hg hr (by omega) (by rfl) (pa_cons (pe_ix ix_tup (pv 0) pe_int (fun _ _ => rfl)) pa_nil)) (pe_and (pe_chain op_le op_lt pe_int (pe_ix ix_tup (pv 0) pe_int (fun _ _ => rfl)) pe_int) (pe_one (pc c__law_is_above hg hr (by omega) (by rfl) (pa_cons (pe_ix ix_tup (pv 0) pe_int (fun _ _ => rfl)) pa_nil))))))))
      pss_nil)
    (pss_cons (ps_if (pt_cmpR op_eq (pv 1) pe_str (nomark _))
      (pss_one (ps_ret (pe_and (pe_cmpR op_eq (pv 2) pe_int (nomark _)) (pe_one (pc c__law_is_above hg hr (by omega) (by rfl) (pa_cons (pe_ix ix_tup (pv 0) pe_int (fun _ _ => rfl)) pa_nil))))))
      pss_nil)
    (pss_cons (ps_if (pt_cmpR op_eq (pv 1) pe_str (nomark _))
      (pss_one (ps_ret (pe_and (pe_cmpR op_eq (pv 2) pe_int (nomark _)) (pe_and (pc c__law_is_above hg hr (by omega) (by rfl) (pa_cons (pe_ix ix_tup (pv 0) pe_int (fun _ _ => rfl)) pa_nil)) (pe_one (pc c__law_is_above hg hr (by omega) (by rfl) (pa_cons (pe_ix ix_tup (pv 0) pe_int (fun _ _ => rfl)) pa_nil)))))))
      pss_nil)
    (pss_cons (ps_if (pt_cmpR op_eq (pv 1) pe_str (nomark _))
      (pss_one (ps_ret (pe_and (pe_cmpR op_eq (pv 2) pe_int (nomark _)) (pe_and (pc c__law_is_claim hg hr (by omega) (by rfl) (pa_cons (pe_ix ix_tup (pv 0) pe_int (fun _ _ => rfl)) pa_nil)) (pe_one (pc c__law_is_above hg hr (by omega) (by rfl) (pa_cons (pe_ix ix_tup (pv 0) pe_int (fun _ _ => rfl)) pa_nil)))))))
      pss_nil)
    (pss_cons (ps_if (PW.pt (pw_or (pt_cmpR op_ne (pv 1) pe_str (nomark _)) (pw_or (pt_cmpR op_ne (pv 2) pe_int (nomark _)) (pw_or (pt_not (pt_val (pe_callB call_isD (by rfl) B.isin bb_isin (pa_cons (pe_ix ix_tup (pv 0) pe_int (fun _ _ => rfl)) (pa_cons (pe_bltn (v := .ty "tuple") rfl B.tuple bb_tuple rfl) pa_nil))))) (pw_or1 (pt_cmpR op_lt (pe_callB call_lenA (by rfl) B.len boot_len (pa_cons (pe_ix ix_tup (pv 0) pe_int (fun _ _ => rfl)) pa_nil)) pe_int (nomark _)))))))
      (pss_one (ps_ret pe_bl))
      pss_nil)
    (pss_one (ps_ret (pe_cmpR (op_eqNil (K := K) rfl hu) (pe_lc (own := [("one", 3)]) rfl sc__law_is_claim.nd (pi_tup (pe_ix ix_tup (pv 0) pe_int (fun _ _ => rfl))) (blkOk_by (own := [("one", 3)]) (N := ["thing", "word", "many", "one"]) (sc := (defScope s_law_is_claim)) (by decide +kernel)) (fun _ _ _ _ _ => (pg_name (i := 3) sc__law_is_claim.nd rfl (Or.inl rfl))) (fun _ _ _ _ _ => (pts_one (pt_not (pt_val (pc c__law_is_claim hg hr (by omega) (by rfl) (pa_cons (pv 3) pa_nil)))))) (fun _ _ _ _ _ => (pv 3))) (pe_lst pa_nil) (nomark _)))))))))))), ?_⟩
  refine ⟨_, rfl, _, "tuple", mu, d, rfl, by decide, hd, _, rfl, ?_⟩
  have k0 := k H (Same.refl H)
  refine iteN (fun ht => ?_) fun ht => ?_
  · have e : clm 6 d = false := by
      cases d <;> first | (simp [clm]; done) | (simp [isT, tyName] at ht)
    rw [e] at k0
    exact k0
  obtain ⟨ds, rfl⟩ := (isTup d).mp ht
  obtain ⟨a, xs, rfl, hS, hA⟩ := hd.tupAt
  have hl := hA.length
  have ddp0 : PyData.depthAll ds + 1 ≤ N := by
    have e : (PyData.tuple ds).depth = PyData.depthAll ds + 1 := by simp [PyData.depth]
    omega
  obtain ⟨n, rfl, rfl⟩ : ∃ n, N = n + 1 ∧ sp = spClmL K n := by
    rcases hsp with z | z
    · omega
    · exact z
  have ddp : PyData.depthAll ds + 1 ≤ n + 1 := ddp0
  refine ⟨_, rfl, Nat.zero_le _, fun q nq => ?_⟩
  have s0 := same_upd (o := .tup []) nq
  have hS0 := s0.seqT hS
  have hA0 := hA.fut (.of_same (mu := mu) s0)
  have k1 := fun H2 s2 => k H2 (s0.trans s2)
  have hq0 : SqT K (upd H q (.tup [])) q [] := .of upd_same
  revert hS0 hA0 k1 hq0
  generalize upd H q (.tup []) = H0
  intro hS0 hA0 k1 hq0
  refine ⟨a, q, xs, rfl, rfl, hS0, hq0, _, rfl, iteP (fun hn => ?_) fun hn => ?_⟩
  · subst hn
    cases hA
    have kk := k1 H0 (.refl H0)
    rw [show clm 6 (.tuple []) = false by simp [clm]] at kk
    exact kk
  cases hA0 with
  | nil => exact absurd rfl hn
  | @cons x xs' dw ps hx hxs =>
  clear hA hS k k0
  refine ⟨_, rfl, a, _, 0, x, rfl, rfl, hS0, atI_nat (j := 0) rfl, _, "str", mu, dw, rfl, by decide, hx, _, rfl, iteN (fun hs => ?_) fun hs => ?_⟩
  · have kk := k1 H0 (.refl H0)
    have e : clm 6 (.tuple (dw :: ps)) = false := by
      cases dw <;> first | (simp [clm]; done) | (simp [isT, tyName] at hs)
    rw [e] at kk
    exact kk
  obtain ⟨w0, rfl⟩ := (isStr dw).mp hs
  cases hx
  have hl' := hxs.length
  have eC : clm 6 (.tuple (.str w0 :: ps)) = (locW 6 w0 ps && clmA 6 (sub (.tuple (.str w0 :: ps)))) := by rw [clm_loc, loc_str]
  rw [eC] at k1
  have nilA : clmA 6 [] = true := rfl
  have kk := k1 H0 (.refl H0)
  have i2 : ∀ (m : Nat), ((V.str w0 :: xs').length : Int) = (m : Int) + 1 ↔ ps.length = m := fun m => by
    rw [List.length_cons]
    omega
  refine ⟨_, rfl, a, _, 0, _, rfl, rfl, hS0, atI_nat (j := 0) rfl, _, rfl, _, (V.str w0 :: xs').length, rfl, .inr ⟨_, hS0, rfl⟩, _, _, rfl, ?_⟩
  refine ⟨_, rfl, rfl, _, rfl, iteP (fun e => ?_) fun e1 => ?_⟩
  · cases e
    rw [locW_none, sub_other (by decide +kernel) (by decide +kernel), nilA, Bool.and_true] at kk
    refine ⟨_, rfl, rfl, ?_⟩
    have e : decide (V.int ((V.str "none" :: xs').length : Int) = V.int 1) = decide (ps = []) := by
      rw [Bool.eq_iff_iff, decide_eq_true_eq, decide_eq_true_eq, ← List.length_eq_zero_iff]
      refine ⟨fun z => ?_, fun z => ?_⟩
      · have := V.int.inj z
        exact (i2 0).mp this
      · exact congrArg V.int ((i2 0).mpr z)
    rw [← e] at kk
    exact kk
  have n1 : w0 ≠ "none" := fun z => e1 (by rw [z])
  refine ⟨_, rfl, rfl, _, rfl, iteP (fun e => ?_) fun e2 => ?_⟩
  · cases e
    rw [sub_other (by decide +kernel) (by decide +kernel), nilA] at kk k1
    refine ⟨_, rfl, rfl, _, rfl, iteEq (fun hm => ?_) fun hm => ?_⟩
    rotate_left
    · rw [locW_two (by decide +kernel) (by decide +kernel) (by decide +kernel) (fun z => hm ((i2 2).mpr z)), Bool.false_and] at kk
      exact kk
    obtain ⟨y, z, d1, d2, rfl, rfl, r1, r2⟩ := hxs.two ((i2 2).mp hm)
    rw [locW_due, Bool.and_true] at k1
    refine ⟨_, rfl, a, _, 1, y, rfl, rfl, hS0, atI_nat (j := 1) rfl, y, mu, d1, rfl, r1, ho.inT (by simp), fun H2 s2 => ⟨_, rfl, iteB (fun h1 => ?_) fun h1 => ?_⟩⟩
    · obtain ⟨i, rfl⟩ := (isIntD d1).mp h1
      cases r1
      have hS2 := s2.seqT hS0
      have e : isIn 0 (6 - 1) (.int i) = decide (0 ≤ i ∧ i ≤ 6 - 1) := rfl
      rw [e] at k1
      refine ⟨_, rfl, a, _, 1, .int i, rfl, rfl, hS2, atI_nat (j := 1) rfl, _, _, rfl, rfl, _, rfl, iteP (fun h3 => ⟨_, _, rfl, rfl, _, rfl, iteP (fun h4 => ?_) fun h4 => ?_⟩) fun h3 => ⟨_, rfl, ?_⟩⟩
      · rw [decide_eq_true (show 0 ≤ i ∧ i ≤ 6 - 1 by omega), Bool.and_true] at k1
        exact ⟨_, rfl, a, _, 2, z, rfl, rfl, hS2, atI_nat (j := 2) rfl, z, mu, d2, rfl, r2.fut (.of_same s2), ho.inT (by simp), fun H3 s3 => k1 H3 (s2.trans s3)⟩
      · have kk := k1 H2 s2
        rw [decide_eq_false (show ¬ (0 ≤ i ∧ i ≤ 6 - 1) by omega), Bool.and_false] at kk
        exact kk
      · have kk := k1 H2 s2
        rw [decide_eq_false (show ¬ (0 ≤ i ∧ i ≤ 6 - 1) by omega), Bool.and_false] at kk
        exact iteF kk
    · have kk := k1 H2 s2
      have e : isIn 0 (6 - 1) d1 = false := by
        cases d1 <;> first | rfl | (simp [isInt, isT, tyName] at h1)
      rw [e, Bool.and_false] at kk
      exact kk
  refine ⟨_, rfl, rfl, _, rfl, iteP (fun e => ?_) fun e3 => ?_⟩
  · cases e
    rw [sub_other (by decide +kernel) (by decide +kernel), nilA] at kk k1
    refine ⟨_, rfl, rfl, _, rfl, iteEq (fun hm => ?_) fun hm => ?_⟩
    rotate_left
    · rw [locW_one (.inl rfl) (fun z => hm ((i2 1).mpr z)), Bool.false_and] at kk
      exact kk
    obtain ⟨y, d1, rfl, rfl, r1⟩ := hxs.one ((i2 1).mp hm)
    rw [locW_shares, Bool.and_true] at k1
    exact ⟨_, rfl, a, _, 1, y, rfl, rfl, hS0, atI_nat (j := 1) rfl, y, mu, d1, rfl, r1, ho.inT (by simp), k1⟩
  have n3 : w0 ≠ "shares" := fun z => e3 (by rw [z])
  refine ⟨_, rfl, rfl, _, rfl, iteP (fun e => ?_) fun e4 => ?_⟩
  · cases e
    rw [sub_other (by decide +kernel) (by decide +kernel), nilA] at kk k1
    refine ⟨_, rfl, rfl, _, rfl, iteEq (fun hm => ?_) fun hm => ?_⟩
    rotate_left
    · rw [locW_two (by decide +kernel) (by decide +kernel) (by decide +kernel) (fun z => hm ((i2 2).mpr z)), Bool.false_and] at kk
      exact kk
    obtain ⟨y, z, d1, d2, rfl, rfl, r1, r2⟩ := hxs.two ((i2 2).mp hm)
    rw [locW_option, Bool.and_true] at k1
    refine ⟨_, rfl, a, _, 1, y, rfl, rfl, hS0, atI_nat (j := 1) rfl, y, mu, d1, rfl, r1, ho.inT (by simp), fun H2 s2 => ⟨_, rfl, iteB (fun h1 => ?_) fun h1 => ?_⟩⟩
    · rw [h1, Bool.and_true] at k1
      exact ⟨_, rfl, a, _, 2, z, rfl, rfl, s2.seqT hS0, atI_nat (j := 2) rfl, z, mu, d2, rfl, r2.fut (.of_same s2), ho.inT (by simp), fun H3 s3 => k1 H3 (s2.trans s3)⟩
    · have kk := k1 H2 s2
      rw [h1, Bool.and_false] at kk
      exact kk
  refine ⟨_, rfl, rfl, _, rfl, iteP (fun e => ?_) fun e5 => ?_⟩
  · cases e
    refine ⟨_, rfl, rfl, _, rfl, iteEq (fun hm => ?_) fun hm => ?_⟩
    rotate_left
    · rw [locW_two (by decide +kernel) (by decide +kernel) (by decide +kernel) (fun z => hm ((i2 2).mpr z)), Bool.false_and] at kk
      exact kk
    obtain ⟨y, z, d1, d2, rfl, rfl, r1, r2⟩ := hxs.two ((i2 2).mp hm)
    rw [locW_capped, sub_capped, show clmA 6 [d1] = clm 6 d1 by simp [clmA]] at k1
    have dd : d1.depth ≤ n := by
      have := depth_mem (d := d1) (ds := [PyData.str "capped", d1, d2]) (by simp)
      omega
    refine ⟨_, rfl, a, _, 1, y, rfl, rfl, hS0, atI_nat (j := 1) rfl, y, mu, d1, rfl, r1, ho.inT (by simp), dd, fun H2 s2 => ⟨_, rfl, iteB (fun h1 => ?_) fun h1 => ?_⟩⟩
    · rw [h1, Bool.and_true] at k1
      exact ⟨_, rfl, a, _, 2, z, rfl, rfl, s2.seqT hS0, atI_nat (j := 2) rfl, z, mu, d2, rfl, r2.fut (.of_same s2), ho.inT (by simp), fun H3 s3 => k1 H3 (s2.trans s3)⟩
    · have kk := k1 H2 s2
      rw [h1, Bool.and_false] at kk
      exact kk
  refine ⟨_, rfl, rfl, _, rfl, iteN (fun he => ?_) fun he => ?_⟩
  · have n6 : w0 ≠ "sum" := fun z => of_decide_eq_false he (by rw [z])
    have e : locW 6 w0 ps = false := locW_other n1 n3 n6 (by
      simp only [List.mem_cons, List.not_mem_nil, or_false, not_or]
      exact ⟨fun z => e2 (by rw [z]), fun z => e4 (by rw [z]), fun z => e5 (by rw [z])⟩) ps
    rw [e, Bool.false_and] at kk
    exact kk
  have e : w0 = "sum" := V.str.inj (of_decide_eq_true he)
  cases e
  refine ⟨_, rfl, rfl, _, rfl, iteNe (fun hm => ?_) fun hm => ?_⟩
  · rw [locW_one (.inr rfl) (fun z => hm ((i2 1).mpr z)), Bool.false_and] at kk
    exact kk
  obtain ⟨y, d1, rfl, rfl, r1⟩ := hxs.one ((i2 1).mp hm)
  rw [locW_sum] at k1 kk
  refine ⟨_, rfl, a, _, 1, y, rfl, rfl, hS0, atI_nat (j := 1) rfl, _, "tuple", mu, d1, rfl, by decide, r1, _, rfl, iteN (fun ht1 => ?_) fun ht1 => ?_⟩
  · have e : tup2 d1 = false := by
      cases d1 <;> first | rfl | (simp [isT, tyName] at ht1)
    rw [e, Bool.false_and] at kk
    exact kk
  obtain ⟨cs, rfl⟩ := (isTup d1).mp ht1
  obtain ⟨a2, ys, rfl, hS2, hA2⟩ := r1.tupAt
  have hl2 := hA2.length
  have eT : tup2 (.tuple cs) = decide (2 ≤ cs.length) := rfl
  rw [eT, sub_sum] at k1 kk
  refine ⟨_, rfl, a, _, 1, _, rfl, rfl, hS0, atI_nat (j := 1) rfl, _, ys.length, rfl, .inr ⟨_, hS2, rfl⟩, _, _, rfl, rfl, _, rfl, iteP (fun h2 => ?_) fun h2 => ?_⟩
  · rw [decide_eq_false (by omega), Bool.false_and] at kk
    exact kk
  rw [decide_eq_true (by omega), Bool.true_and, clmA_all] at k1
  have oc : Ok (.tuple cs) := ho.inT (by simp)
  have cdp : PyData.depthAll cs + 1 ≤ n := by
    have := depth_mem (d := PyData.tuple cs) (ds := [PyData.str "sum", PyData.tuple cs]) (by simp)
    have e : (PyData.tuple cs).depth = PyData.depthAll cs + 1 := by simp [PyData.depth]
    omega
  have hw := len_wt cs
  have hw2 : PyData.weightAll cs ≤ 27000 := oc.wt
  have sl := sizeLine_eq
  refine ⟨_, rfl, a, _, 1, _, rfl, rfl, hS0, atI_nat (j := 1) rfl, a2, rfl, ⟨ys, hS2⟩, fun D nD => lc_it (walk_tup (K := K) (xs := ys) (a := a2)) (fun i H' => Same H0 H' ∧ ∃ ws, H' D = some (.lst ws) ∧ ws.length ≤ i ∧ (ws = [] ↔ (cs.take i).all (clm 6) = true)) ?_ (fun i H' _ h => h.1.seqT hS2) ?_ ?_⟩
  · exact ⟨same_upd nD, [], upd_same, Nat.le_refl _, by simp⟩
  · rintro i x H2 H3 hi ⟨sm, ws, hD, hwl, hall⟩ ⟨rfl, hx2⟩
    obtain ⟨e, he2, hxe⟩ := hA2.get hx2
    have ed : e.depth ≤ n := by
      have := depth_mem (List.mem_of_getElem? he2)
      omega
    have ht : cs.take (i + 1) = cs.take i ++ [e] := by
      rw [List.take_add_one, he2]
      rfl
    refine ⟨rfl, _, rfl, x, mu, e, rfl, hxe.fut (.of_same sm), oc.inT (List.mem_of_getElem? he2), ed, fun H4 s4 => ⟨_, rfl, iteN (fun hc => ?_) fun hc => ?_⟩⟩
    · refine ⟨_, rfl, ws, s4 _ _ hD, by omega, fun b o z => ?_, ws ++ [x], upd_same, by rw [List.length_append]; show ws.length + 1 ≤ i + 1; omega, ?_⟩
      · rw [upd_ne (ne_of_none z nD)]
        exact s4 _ _ (sm b o z)
      · rw [ht, List.all_append, List.all_cons, hc]
        constructor
        · intro q
          simp at q
        · intro q
          simp at q
    · refine ⟨sm.trans s4, ws, s4 _ _ hD, by omega, ?_⟩
      rw [ht, List.all_append, List.all_cons, hc, List.all_nil, Bool.and_true, Bool.and_true]
      exact hall
  · rintro H2 ⟨sm, ws, hD, hwl, hall⟩
    rw [List.take_of_length_le (by omega)] at hall
    refine ⟨Nat.zero_le _, fun q2 nq2 => ?_⟩
    have s2 := same_upd (o := .lst []) nq2
    refine ⟨D, q2, ws, rfl, rfl, .inl (.inl (s2 _ _ hD)), .inl (.inl upd_same), ?_⟩
    have kk := k1 _ (sm.trans s2)
    rw [show decide (ws = []) = cs.all (clm 6) by
      rw [Bool.eq_iff_iff, decide_eq_true_eq]
      exact hall]
    exact kk
end
end K16
namespace K16
open PySem PySem.Spec PyProof.Rows L2 Sw StX RZ
section
variable {P : Program} {w : World} {K : PySem.W.Frag} {mg : Str → Option Value} {base : Heap}
abbrev s_law_is_name : Stmt := topS 35
theorem sc__law_is_name : FnScope ["thing", "sign"] ["thing"] (defScope s_law_is_name) := ⟨rfl, rfl, rfl, by decide +kernel, rfl, by decide +kernel, by decide +kernel⟩
theorem ok__law_is_name {f : Addr} {fd : FuncData} (F : Fun K "_law_is_name" "_law_is_name" s_law_is_name f fd) (B : Bt mg) : FnG P w K mg base 1 f fd ["thing"] (spP K isNm) := by
  refine Fun.okG F sc__law_is_name spP_len (fun cdv A outer s H vs Q E hg hr h => ?_)
  have hu := Room.u64 hr
  obtain ⟨v, mu, d, rfl, hd, ho, k⟩ := h
  refine ⟨_, (pss_cons (ps_if (PW.pt (pw_or (pt_not (pt_val (pe_callB call_isD (by rfl) B.isin bb_isin (pa_cons (pv 0) (pa_cons (pe_bltn (v := .ty "str") rfl B.str bb_str rfl) pa_nil))))) (pw_or (pt_cmpR op_eq (pe_callB call_lenA (by rfl) B.len boot_len (pa_cons (pv 0) pa_nil)) pe_int (nomark _)) (pw_or1 (pt_cmpR op_gt (pe_callB call_lenA (by rfl) B.len boot_len (pa_cons (pv 0) pa_nil)) pe_int (nomark _))))))
      (pss_one (ps_ret pe_bl))
      pss_nil)
    (pss_one (ps_ret (pe_cmpR (op_eqNil (K := K) rfl hu) (pe_lc (own := [("sign", 1)]) rfl sc__law_is_name.nd (pi_str (pv 0)) (blkOk_by (own := [("sign", 1)]) (N := ["thing", "sign"]) (sc := (defScope s_law_is_name)) (by decide +kernel)) (fun _ _ _ _ _ => (pg_name (i := 1) sc__law_is_name.nd rfl (Or.inl rfl))) (fun _ _ _ _ _ => (pts_one (pt_cmpR op_notIn_sign (pv 1) pe_str (by rfl)))) (fun _ _ _ _ _ => (pv 1))) (pe_lst pa_nil) (nomark _))))), ?_⟩
  refine ⟨_, rfl, _, "str", mu, d, rfl, by decide, hd, _, rfl, ?_⟩
  have k0 := k H (Same.refl H)
  refine iteN (fun ht => ?_) fun ht => ?_
  · have e : isNm d = false := by
      cases d <;> first | rfl | (simp [isT, tyName] at ht)
    rw [e] at k0
    exact k0
  · obtain ⟨x, rfl⟩ := (isStr d).mp ht
    have hl := ho.strLen
    cases hd
    have e0 : isNm (.str x) = nameS x := rfl
    unfold nameS at e0
    have hlx := Nat.le_trans hl (show 27000 ≤ sizeLine by decide)
    refine ⟨_, rfl, .str x, x.length, rfl, ⟨hlx, rfl⟩, rfl, _, rfl, iteEq (fun h1 => ?_) fun h1 => ?_⟩
    · rw [e0, decide_eq_false (show ¬ 1 ≤ x.length by omega), Bool.false_and, Bool.false_and] at k0
      exact k0
    · refine ⟨_, rfl, .str x, x.length, rfl, ⟨hlx, rfl⟩, _, _, rfl, rfl, _, rfl, iteP (fun h2 => ?_) fun h2 => ?_⟩
      · rw [e0, decide_eq_false (show ¬ x.length ≤ 12 by omega), Bool.and_false, Bool.false_and] at k0
        exact k0
      · have z : x.length ≤ 12 := by omega
        have z1 : 1 ≤ x.length := by omega
        rw [e0, decide_eq_true z, decide_eq_true z1, Bool.true_and, Bool.true_and] at k
        -- [sign for sign in thing if sign not in ..]
        refine ⟨_, rfl, x, rfl, fun D hD => lc_it walk_str (fun i H1 => Same H H1 ∧ ∃ acc : List Str, H1 D = some (.lst (acc.map V.str)) ∧ acc.length ≤ i ∧ (∀ z ∈ acc, PyData.strOk z = true) ∧ (acc = [] ↔ (x.cps.toList.take i).all low = true)) ?_ (fun _ _ _ _ => trivial) ?_ ?_⟩
        · exact ⟨fun b o e => by rw [upd_ne (ne_of_none e hD)]; exact e, [], upd_same, Nat.le_refl _, by simp, by simp⟩
        · rintro i y H1 H2 hi ⟨sm, acc, hDa, hacc, hso, hall⟩ ⟨rfl, c, hc, rfl⟩
          refine ⟨rfl, _, rfl, c, az, rfl, rfl, _, rfl, ?_⟩
          have ht : x.cps.toList.take (i + 1) = x.cps.toList.take i ++ [c] := by
            rw [List.take_add_one]
            rw [Array.getElem?_toList, hc]
            rfl
          have hc2 : c < 0x110000 := by
            have z2 : PyData.strOk x = true := by simpa only [okD] using ho.ok
            have z3 := Array.all_eq_true_iff_forall_mem.mp z2 c (Array.mem_of_getElem? hc)
            simpa using z3
          rw [az_mem]
          refine iteN (fun h3 => ?_) fun h3 => ?_
          · refine ⟨_, rfl, acc.map V.str, hDa, ?_, fun b o e => by rw [upd_ne (ne_of_none e hD)]; exact sm b o e, acc ++ [⟨#[c]⟩], ?_, ?_, ?_, ?_⟩
            · rw [List.length_map]
              have : i < x.length := hi
              exact small1000 (by omega)
            · rw [upd_same, List.map_append]
              rfl
            · rw [List.length_append]
              show acc.length + 1 ≤ i + 1
              omega
            · intro z hz
              rcases List.mem_append.mp hz with hz | hz
              · exact hso z hz
              · rw [List.mem_singleton.mp hz]
                show (#[c].all fun x => decide (x < 1114112)) = true
                simpa using hc2
            · rw [ht, List.all_append]
              constructor
              · intro q
                simp at q
              · intro q
                rw [List.all_cons, h3] at q
                simp at q
          · refine ⟨sm, acc, hDa, by omega, hso, ?_⟩
            rw [ht, List.all_append, List.all_cons, h3, List.all_nil, Bool.and_true, Bool.and_true]
            exact hall
        · rintro H1 ⟨sm, acc, hDa, hacc, hso, hall⟩
          have hx : (x.cps.toList.take x.cps.size) = x.cps.toList := List.take_of_length_le (by simp)
          rw [hx] at hall
          refine ⟨Nat.zero_le _, fun q hq => ?_⟩
          have nDq : D ≠ q := ne_of_none hDa hq
          have sm2 : Same H (upd H1 q (.lst [])) := fun b o e => by
            rw [upd_ne (ne_of_none (sm b o e) hq)]
            exact sm b o e
          refine ⟨D, q, acc.map V.str, rfl, rfl, .inl (.inl (by rw [upd_ne nDq]; exact hDa)), .inl (.inl upd_same), ?_⟩
          have kk := k _ sm2
          rw [show decide (acc.map V.str = []) = x.cps.toList.all low by
            rw [Bool.eq_iff_iff, decide_eq_true_eq, List.map_eq_nil_iff]
            exact hall]
          exact kk
end
end K16
namespace K16
open PySem PySem.Spec PyProof.Rows L2 Sw StX RZ
def kindOf (s : Str) : Str := if s = "n" then "name" else if s = "f" then "count" else if s = "o" then "options" else if s = "r" then "ranks" else if s = "i" then "index" else if s = "e" then "every" else "times"
def spPartL (K : PySem.W.Frag) : Sp := fun vs H Q _ => ∃ (s : Str) (v : V) (mu : Addr → Prop) (d : PyData), vs = [.str s, v] ∧ s ∈ (["n", "f", "o", "r", "e", "t", "i"] : List Str) ∧ Dt K mu H v d ∧ Ok d ∧ ∀ H', Same H H' → Q (.bl (partD (kindOf s) d)) H'
def signT : List (Str × Str) := [("firm", "nr"), ("sort", "nno"), ("give", "nnnf"), ("hand", "nnnnf"), ("back", "nnnf"), ("split", "nnf"), ("grant", "nnnfet"), ("leave", "nn"), ("strike", "i")]
def signK : List (Key × V) := signT.map fun p => (.inr p.1, .str p.2)
def spSigns : Sp := fun vs H Q _ => vs = [] ∧ ∀ p H', Same H H' → H' p = some (.dK signK) → Q (.ref p) H'
section
variable {P : Program} {w : World} {K : PySem.W.Frag} {mg : Str → Option Value} {base : Heap}
abbrev s_law_signs : Stmt := topS 38
theorem sc__law_signs : FnScope ["found"] [] (defScope s_law_signs) := ⟨rfl, rfl, rfl, by decide +kernel, rfl, by decide +kernel, by decide +kernel⟩
theorem ok__law_signs {f : Addr} {fd : FuncData} (F : Fun K "_law_signs" "_law_signs" s_law_signs f fd) (B : Bt mg) : FnG P w K mg base 1 f fd [] spSigns := by
  refine Fun.okG F sc__law_signs (fun vs H Q E h => by
    obtain ⟨rfl, _⟩ := h
    rfl) (fun cdv A outer s H vs Q E hg hr h => ?_)
  obtain ⟨rfl, k⟩ := h
  have hu := Room.u64 hr
  refine ⟨_, (pss_cons (ps_set (i := 0) sc__law_signs.nd rfl (Or.inl rfl) (pe_disp (pps_cons pe_str pe_str (pps_cons pe_str pe_str (pps_cons pe_str pe_str (pps_cons pe_str pe_str (pps_cons pe_str pe_str (pps_cons pe_str pe_str pps_nil)))))) rfl rfl (fun z => nomatch z) (by decide)))
    (pss_cons (ps_expr (pe_bm PySem.F.plainAttrs_dict PySem.F.slot_dict_update PySem.F.type_dict_update mt_update (pv 0) (pa_cons (pe_disp (pps_cons pe_str pe_str (pps_cons pe_str pe_str (pps_cons pe_str pe_str pps_nil))) rfl rfl (fun z => nomatch z) (by decide)) pa_nil)))
    (pss_one (ps_ret (pv 0))))), ?_⟩
  refine fun p np => ⟨upd_same, [(.inr "firm", .str "nr"), (.inr "sort", .str "nno"), (.inr "give", .str "nnnf"), (.inr "hand", .str "nnnnf"), (.inr "back", .str "nnnf"), (.inr "split", .str "nnf")], rfl, by decide, ?_⟩
  have s1 := same_upd (o := .dK []) np
  have s2 : Same H (upd (upd H p (.dK [])) p (.dK (mergeK [] [(.inr "firm", .str "nr"), (.inr "sort", .str "nno"), (.inr "give", .str "nnnf"), (.inr "hand", .str "nnnnf"), (.inr "back", .str "nnnf"), (.inr "split", .str "nnf")]))) := fun a o e => by
    rw [upd_ne (ne_of_none e np)]
    exact s1 _ _ e
  have e1 : mergeK [] [(.inr "firm", .str "nr"), (.inr "sort", .str "nno"), (.inr "give", .str "nnnf"), (.inr "hand", .str "nnnnf"), (.inr "back", .str "nnnf"), (.inr "split", .str "nnf")] = signK.take 6 := by decide +kernel
  rw [e1] at s2 ⊢
  have h2 : (upd (upd H p (.dK [])) p (.dK (signK.take 6))) p = some (.dK (signK.take 6)) := upd_same
  revert s2 h2
  generalize upd (upd H p (.dK [])) p (.dK (signK.take 6)) = H2
  intro s2 h2
  refine ⟨_, rfl, .inr (.inr (.inl ⟨rfl, .inl ⟨_, h2⟩⟩)), fun q nq => ⟨upd_same, [(.inr "grant", .str "nnnfet"), (.inr "leave", .str "nn"), (.inr "strike", .str "i")], rfl, by decide, ?_⟩⟩
  have e2 : mergeK [] [(.inr "grant", .str "nnnfet"), (.inr "leave", .str "nn"), (.inr "strike", .str "i")] = signK.drop 6 := by decide +kernel
  rw [e2]
  have npq : p ≠ q := fun e => by
    rw [← e, h2] at nq
    cases nq
  have s3 : Same H2 (upd (upd H2 q (.dK [])) q (.dK (signK.drop 6))) := fun a o e => by
    rw [upd_ne (ne_of_none e nq), upd_ne (ne_of_none e nq)]
    exact e
  have h4 : (upd (upd H2 q (.dK [])) q (.dK (signK.drop 6))) q = some (.dK (signK.drop 6)) := upd_same
  revert s3 h4
  generalize upd (upd H2 q (.dK [])) q (.dK (signK.drop 6)) = H4
  intro s3 h4
  refine ⟨p, q, _, _, rfl, rfl, s3 _ _ h2, h4, npq, by decide, _, rfl, k p _ (fun a o e => ?_) ?_⟩
  · rw [upd_ne (ne_of_none e np)]
    exact s3 _ _ (s2 _ _ e)
  · rw [upd_same]
    have e : mergeK (signK.take 6) (signK.drop 6) = signK := by decide +kernel
    rw [e]
theorem tab4 (a b c d : V) : valV [((.inr "r" : Key), a), (.inr "e", b), (.inr "t", c), (.inr "i", d)] (.inr "r") = some a ∧ valV [((.inr "r" : Key), a), (.inr "e", b), (.inr "t", c), (.inr "i", d)] (.inr "e") = some b ∧ valV [((.inr "r" : Key), a), (.inr "e", b), (.inr "t", c), (.inr "i", d)] (.inr "t") = some c ∧ valV [((.inr "r" : Key), a), (.inr "e", b), (.inr "t", c), (.inr "i", d)] (.inr "i") = some d :=
  ⟨valV_pos rfl, (valV_neg (by show ¬ (Sum.inr ("r" : Str) : Key) = Sum.inr ("e" : Str); decide +kernel)).trans (valV_pos rfl), (valV_neg (by show ¬ (Sum.inr ("r" : Str) : Key) = Sum.inr ("t" : Str); decide +kernel)).trans ((valV_neg (by show ¬ (Sum.inr ("e" : Str) : Key) = Sum.inr ("t" : Str); decide +kernel)).trans (valV_pos rfl)), (valV_neg (by show ¬ (Sum.inr ("r" : Str) : Key) = Sum.inr ("i" : Str); decide +kernel)).trans ((valV_neg (by show ¬ (Sum.inr ("e" : Str) : Key) = Sum.inr ("i" : Str); decide +kernel)).trans ((valV_neg (by show ¬ (Sum.inr ("t" : Str) : Key) = Sum.inr ("i" : Str); decide +kernel)).trans (valV_pos rfl)))⟩
theorem k_n (d : PyData) : partD (kindOf "n") d = isNm d := by
  rw [show kindOf "n" = "name" by decide +kernel]
  exact if_pos rfl
theorem k_f (d : PyData) : partD (kindOf "f") d = isAb d := by
  rw [show kindOf "f" = "count" by decide +kernel]
  unfold partD
  rw [if_neg (by decide +kernel), if_pos rfl]
theorem k_o (d : PyData) : partD (kindOf "o") d = optD 6 d := by
  rw [show kindOf "o" = "options" by decide +kernel]
  unfold partD
  rw [if_neg (by decide +kernel), if_neg (by decide +kernel), if_neg (by decide +kernel), if_pos rfl]
theorem k_r (d : PyData) : partD (kindOf "r") d = isIn 0 6 d := by
  rw [show kindOf "r" = "ranks" by decide +kernel]
  unfold partD
  rw [if_neg (by decide +kernel), if_neg (by decide +kernel), if_pos rfl]
theorem k_i (d : PyData) : partD (kindOf "i") d = isGe 0 d := by
  rw [show kindOf "i" = "index" by decide +kernel]
  unfold partD
  rw [if_neg (by decide +kernel), if_neg (by decide +kernel), if_neg (by decide +kernel), if_neg (by decide +kernel), if_pos rfl]
theorem k_e (d : PyData) : partD (kindOf "e") d = isIn 1 3000 d := by
  rw [show kindOf "e" = "every" by decide +kernel]
  unfold partD
  rw [if_neg (by decide +kernel), if_neg (by decide +kernel), if_neg (by decide +kernel), if_neg (by decide +kernel), if_neg (by decide +kernel), if_pos rfl]
theorem k_t (d : PyData) : partD (kindOf "t") d = isIn 1 60 d := by
  rw [show kindOf "t" = "times" by decide +kernel]
  unfold partD
  rw [if_neg (by decide +kernel), if_neg (by decide +kernel), if_neg (by decide +kernel), if_neg (by decide +kernel), if_neg (by decide +kernel), if_neg (by decide +kernel)]
abbrev s_law_is_part : Stmt := topS 37
theorem sc__law_is_part : FnScope ["sign", "thing", "one", "least", "most"] ["sign", "thing"] (defScope s_law_is_part) := ⟨rfl, rfl, rfl, by decide +kernel, rfl, by decide +kernel, by decide +kernel⟩
theorem ok__law_is_part {f : Addr} {fd : FuncData} (F : Fun K "_law_is_part" "_law_is_part" s_law_is_part f fd) (B : Bt mg) (c__law_is_name : CalG P w K mg base 1 "_law_is_name" (spP K isNm)) (c__law_is_above : CalG P w K mg base 2 "_law_is_above" (spP K isAb))
    (c__law_is_claim : CalG P w K mg base 54 "_law_is_claim" (spClmL K 50)) (c__law_is_int : CalG P w K mg base 1 "_law_is_int" (spP K isInt)) : FnG P w K mg base 55 f fd ["sign", "thing"] (spPartL K) := by
  refine Fun.okG F sc__law_is_part (fun vs H Q E h => ?_) (fun cdv A outer s H vs Q E hg hr h => ?_)
  · obtain ⟨_, _, _, _, rfl, _⟩ := h
    rfl
  obtain ⟨sg, v, mu, d, rfl, hsg, hd, ho, k⟩ := h
  have hu := Room.u64 hr
  have hu1 : (A.deeper (envOfC "_law_is_part" (defScope s_law_is_part) s.heap.objs.size f cdv)).units + 1 < cLine := by omega
  refine ⟨_, (pss_cons (ps_if (pt_cmpR op_eq (pv 0) pe_str (nomark _))
      (pss_one (ps_ret (pc c__law_is_name hg hr (by decide) (by rfl) (pa_cons (pv 1) pa_nil))))
      pss_nil)
    (pss_cons (ps_if (pt_cmpR op_eq (pv 0) pe_str (nomark _))
      (pss_one (ps_ret (pc c__law_is_above hg hr (by decide) (by rfl) (pa_cons (pv 1) pa_nil))))
      pss_nil)
    (pss_cons (ps_if (pt_cmpR op_eq (pv 0) pe_str (nomark _))
      (pss_cons (ps_if (PW.pt (pw_or (pt_not (pt_val (pe_callB call_isD (by rfl) B.isin bb_isin (pa_cons (pv 1) (pa_cons (pe_bltn (v := .ty "tuple") rfl B.tuple bb_tuple rfl) pa_nil))))) (pw_or1 (pt_not (pt_chain op_le op_le pe_int (pe_callB call_lenA (by rfl) B.len boot_len (pa_cons (pv 1) pa_nil)) pe_int)))))
        (pss_one (ps_ret pe_bl))
        pss_nil)
      (pss_one (ps_ret (pe_cmpR (op_eqNil (K := K) rfl hu) (pe_lc (own := [("one", 2)]) rfl sc__law_is_part.nd (pi_tup (pv 1)) (blkOk_by (own := [("one", 2)]) (N := ["sign", "thing", "one", "least", "most"]) (sc := (defScope s_law_is_part)) (by decide +kernel)) (fun _ _ _ _ _ => (pg_name (i := 2) sc__law_is_part.nd rfl (Or.inl rfl))) (fun _ _ _ _ _ => (pts_one (pt_not (pt_val (pc c__law_is_claim hg hr (by decide) (by rfl) (pa_cons (pv 2) pa_nil)))))) (fun _ _ _ _ _ => (pv 2))) (pe_lst pa_nil) (nomark _)))))
      pss_nil)
    (pss_cons (ps_asg (pe_dget hu1 (pe_disp (pps_cons pe_str (pe_tup (pa_cons pe_int (pa_cons pe_int pa_nil))) (pps_cons pe_str (pe_tup (pa_cons pe_int (pa_cons pe_int pa_nil))) (pps_cons pe_str (pe_tup (pa_cons pe_int (pa_cons pe_int pa_nil))) (pps_cons pe_str (pe_tup (pa_cons pe_int (pa_cons pe_non pa_nil))) pps_nil)))) rfl rfl (fun z => nomatch z) (by decide)) (pv 0) (fun _ _ => rfl)) (pg_tup (n := 2) rfl (pgs_cons (pg_name (i := 3) sc__law_is_part.nd rfl (Or.inl rfl)) (pgs_cons (pg_name (i := 4) sc__law_is_part.nd rfl (Or.inl rfl)) pgs_nil))))
    (pss_one (ps_ret (pe_and (pc c__law_is_int hg hr (by decide) (by rfl) (pa_cons (pv 1) pa_nil)) (pe_and (pe_cmpR op_ge (pv 1) (pv 3) (nomark _)) (pe_one (pe_or (pe_cmpR op_isN (pv 4) pe_non (nomark _)) (pe_one (pe_cmpR op_le (pv 1) (pv 4) (nomark _))))))))))))), ?_⟩
  refine ⟨_, rfl, rfl, _, rfl, iteP (fun e => ?_) fun e1 => ?_⟩
  · cases e
    refine ⟨_, rfl, v, mu, d, rfl, hd, ho, fun H' s' => ?_⟩
    have kk := k H' s'
    rw [k_n] at kk
    exact kk
  refine ⟨_, rfl, rfl, _, rfl, iteP (fun e => ?_) fun e2 => ?_⟩
  · cases e
    refine ⟨_, rfl, v, mu, d, rfl, hd, ho, fun H' s' => ?_⟩
    have kk := k H' s'
    rw [k_f] at kk
    exact kk
  refine ⟨_, rfl, rfl, _, rfl, iteP (fun e => ?_) fun e3 => ?_⟩
  · cases e
    have k : ∀ H', Same H H' → Q (.bl (optD 6 d)) H' := fun H' s' => by
      have kk := k H' s'
      rw [k_o] at kk
      exact kk
    have k0 := k H (.refl H)
    refine ⟨_, rfl, _, "tuple", mu, d, rfl, by decide, hd, _, rfl, iteN (fun ht => ?_) fun ht => ?_⟩
    · have e : optD 6 d = false := by
        cases d <;> first | rfl | (simp [isT, tyName] at ht)
      rw [e] at k0
      exact k0
    obtain ⟨ds, rfl⟩ := (isTup d).mp ht
    obtain ⟨a, xs, rfl, hS, hA⟩ := hd.tupAt
    have hl := hA.length
    have eD : optD 6 (.tuple ds) = (decide (1 ≤ ds.length ∧ ds.length ≤ 4) && clmA 6 ds) := rfl
    refine ⟨_, rfl, _, xs.length, rfl, .inr ⟨_, hS, rfl⟩, _, _, rfl, rfl, _, rfl, iteP (fun h1 => ⟨_, _, rfl, rfl, _, rfl, iteN (fun h2 => ?_) fun h2 => ?_⟩) fun h1 => ⟨_, rfl, iteT ?_⟩⟩
    · have h2 := of_decide_eq_false h2
      rw [eD, decide_eq_false (by omega), Bool.false_and] at k0
      exact k0
    · have h2 := of_decide_eq_true h2
      have d1 : decide (1 ≤ ds.length ∧ ds.length ≤ 4) = true := decide_eq_true (by omega)
      refine ⟨_, rfl, a, rfl, ⟨xs, hS⟩, fun D nD => lc_it (walk_tup (K := K) (xs := xs) (a := a)) (fun i H' => Same H H' ∧ ∃ ws, H' D = some (.lst ws) ∧ ws.length ≤ i ∧ (ws = [] ↔ (ds.take i).all (clm 6) = true)) ?_ (fun i H' _ h => h.1.seqT hS) ?_ ?_⟩
      · exact ⟨same_upd nD, [], upd_same, Nat.le_refl _, by simp⟩
      · rintro i x H2 H3 hi ⟨sm, ws, hD, hwl, hall⟩ ⟨rfl, hx2⟩
        obtain ⟨e, he2, hxe⟩ := hA.get hx2
        have oe : Ok e := ho.inT (List.mem_of_getElem? he2)
        have ht : ds.take (i + 1) = ds.take i ++ [e] := by
          rw [List.take_add_one, he2]
          rfl
        refine ⟨rfl, _, rfl, x, mu, e, rfl, hxe.fut (.of_same sm), oe, oe.dp, fun H4 s4 => ⟨_, rfl, iteN (fun hc => ?_) fun hc => ?_⟩⟩
        · refine ⟨_, rfl, ws, s4 _ _ hD, small1000 (by omega), fun b o z => ?_, ws ++ [x], upd_same, by rw [List.length_append]; show ws.length + 1 ≤ i + 1; omega, ?_⟩
          · rw [upd_ne (ne_of_none z nD)]
            exact s4 _ _ (sm b o z)
          · rw [ht, List.all_append, List.all_cons, hc]
            constructor
            · intro q
              simp at q
            · intro q
              simp at q
        · refine ⟨sm.trans s4, ws, s4 _ _ hD, by omega, ?_⟩
          rw [ht, List.all_append, List.all_cons, hc, List.all_nil, Bool.and_true, Bool.and_true]
          exact hall
      · rintro H2 ⟨sm, ws, hD, hwl, hall⟩
        rw [List.take_of_length_le (by omega)] at hall
        refine ⟨Nat.zero_le _, fun q2 nq2 => ?_⟩
        have s2 := same_upd (o := .lst []) nq2
        refine ⟨D, q2, ws, rfl, rfl, .inl (.inl (s2 _ _ hD)), .inl (.inl upd_same), ?_⟩
        have kk := k _ (sm.trans s2)
        rw [eD, d1, Bool.true_and, clmA_all] at kk
        rw [show decide (ws = []) = ds.all (clm 6) by
          rw [Bool.eq_iff_iff, decide_eq_true_eq]
          exact hall]
        exact kk
    · rw [eD, decide_eq_false (by omega), Bool.false_and] at k0
      exact k0
  -- the bounds
  refine fun p np => ⟨by show 2 ≤ sizeLine; decide, fun t1 n1 => ⟨by show 2 ≤ sizeLine; decide, fun t2 n2 => ⟨by show 2 ≤ sizeLine; decide, fun t3 n3 => ⟨by show 2 ≤ sizeLine; decide, fun t4 n4 => ?_⟩⟩⟩⟩
  have ne1 : p ≠ t1 := fun e => by
    rw [← e, upd_same] at n1
    cases n1
  have ne2 : p ≠ t2 := fun e => by
    rw [← e, upd_ne ne1, upd_same] at n2
    cases n2
  have ne3 : p ≠ t3 := fun e => by
    rw [← e, upd_ne ne2, upd_ne ne1, upd_same] at n3
    cases n3
  have ne4 : p ≠ t4 := fun e => by
    rw [← e, upd_ne ne3, upd_ne ne2, upd_ne ne1, upd_same] at n4
    cases n4
  have s0 := same_upd (o := .dK []) np
  have u1 := same_upd (o := .tup [.int 0, .int 6]) n1
  have u2 := same_upd (o := .tup [.int 1, .int 3000]) n2
  have u3 := same_upd (o := .tup [.int 1, .int 60]) n3
  have u4 := same_upd (o := .tup [.int 0, .non]) n4
  have hp4 : (upd (upd (upd (upd (upd H p (.dK [])) t1 (.tup [.int 0, .int 6])) t2 (.tup [.int 1, .int 3000])) t3 (.tup [.int 1, .int 60])) t4 (.tup [.int 0, .non])) p = some (.dK []) := by
    rw [upd_ne ne4, upd_ne ne3, upd_ne ne2, upd_ne ne1, upd_same]
  have ht1 := u4 _ _ (u3 _ _ (u2 _ _ (upd_same (H := upd H p (.dK [])) (a := t1) (o := .tup [.int 0, .int 6]))))
  have ht2 := u4 _ _ (u3 _ _ (upd_same (H := upd (upd H p (.dK [])) t1 (.tup [.int 0, .int 6])) (a := t2) (o := .tup [.int 1, .int 3000])))
  have ht3 := u4 _ _ (upd_same (H := upd (upd (upd H p (.dK [])) t1 (.tup [.int 0, .int 6])) t2 (.tup [.int 1, .int 3000])) (a := t3) (o := .tup [.int 1, .int 60]))
  have ht4 : (upd (upd (upd (upd (upd H p (.dK [])) t1 (.tup [.int 0, .int 6])) t2 (.tup [.int 1, .int 3000])) t3 (.tup [.int 1, .int 60])) t4 (.tup [.int 0, .non])) t4 = _ := upd_same
  have s4 := (((s0.trans u1).trans u2).trans u3).trans u4
  clear u1 u2 u3 u4 s0 n1 n2 n3 n4
  revert hp4 ht1 ht2 ht3 ht4 s4
  generalize upd (upd (upd (upd (upd H p (.dK [])) t1 (.tup [.int 0, .int 6])) t2 (.tup [.int 1, .int 3000])) t3 (.tup [.int 1, .int 60])) t4 (.tup [.int 0, .non]) = H4
  intro hp4 ht1 ht2 ht3 ht4 s4
  refine ⟨hp4, [(.inr "r", .ref t1), (.inr "e", .ref t2), (.inr "t", .ref t3), (.inr "i", .ref t4)], rfl, (show 4 ≤ 15 by decide), _, rfl, p, ?_⟩
  rw [show mergeK [] [(.inr "r", .ref t1), (.inr "e", .ref t2), (.inr "t", .ref t3), (.inr "i", .ref t4)] = ([(.inr "r", .ref t1), (.inr "e", .ref t2), (.inr "t", .ref t3), (.inr "i", .ref t4)] : List (Key × V)) from rfl]
  have s5 : Same H (upd H4 p (.dK [(.inr "r", .ref t1), (.inr "e", .ref t2), (.inr "t", .ref t3), (.inr "i", .ref t4)])) := fun a o e => by
    rw [upd_ne (ne_of_none e np)]
    exact s4 _ _ e
  have hp5 : (upd H4 p (.dK [(.inr "r", .ref t1), (.inr "e", .ref t2), (.inr "t", .ref t3), (.inr "i", .ref t4)])) p = some (.dK [(.inr "r", .ref t1), (.inr "e", .ref t2), (.inr "t", .ref t3), (.inr "i", .ref t4)]) := upd_same
  have ht1 := (upd_ne (o := .dK [(.inr "r", .ref t1), (.inr "e", .ref t2), (.inr "t", .ref t3), (.inr "i", .ref t4)]) ne1.symm).trans ht1
  have ht2 := (upd_ne (o := .dK [(.inr "r", .ref t1), (.inr "e", .ref t2), (.inr "t", .ref t3), (.inr "i", .ref t4)]) ne2.symm).trans ht2
  have ht3 := (upd_ne (o := .dK [(.inr "r", .ref t1), (.inr "e", .ref t2), (.inr "t", .ref t3), (.inr "i", .ref t4)]) ne3.symm).trans ht3
  have ht4 := (upd_ne (o := .dK [(.inr "r", .ref t1), (.inr "e", .ref t2), (.inr "t", .ref t3), (.inr "i", .ref t4)]) ne4.symm).trans ht4
  revert s5 hp5 ht1 ht2 ht3 ht4
  generalize upd H4 p (.dK [(.inr "r", .ref t1), (.inr "e", .ref t2), (.inr "t", .ref t3), (.inr "i", .ref t4)]) = H5
  intro s5 hp5 ht1 ht2 ht3 ht4
  have hsg2 : sg = "r" ∨ sg = "e" ∨ sg = "t" ∨ sg = "i" := by
    simp only [List.mem_cons, List.not_mem_nil, or_false] at hsg
    rcases hsg with z | z | z | z | z | z | z
    · exact absurd (by rw [z]) e1
    · exact absurd (by rw [z]) e2
    · exact absurd (by rw [z]) e3
    · exact .inl z
    · exact .inr (.inl z)
    · exact .inr (.inr (.inl z))
    · exact .inr (.inr (.inr z))
  rcases hsg2 with rfl | rfl | rfl | rfl
  · refine ⟨.ref t1, rfl, .inl ⟨_, .inr "r", .inl hp5, rfl, (tab4 _ _ _ _).1.symm⟩, ?_⟩
    refine ⟨t1, _, rfl, .inl (.inl ht1), rfl, _, _, rfl, _, _, rfl, rfl, ?_⟩
    refine ⟨_, rfl, v, mu, d, rfl, hd.fut (.of_same s5), ho, fun H6 s56 => ⟨_, rfl, iteB (fun hi => ?_) fun hi => ?_⟩⟩
    all_goals have s6 := s5.trans s56
    · obtain ⟨i, rfl⟩ := (isIntD d).mp hi
      cases hd
      refine ⟨_, rfl, _, rfl, _, _, rfl, rfl, _, rfl, iteP (fun hlo => ?_) fun hlo => ?_⟩
      · refine ⟨_, rfl, rfl, _, rfl, iteF ⟨_, rfl, _, rfl, _, _, rfl, rfl, ?_⟩⟩
        have kk := k H6 s6
        rw [k_r, show isIn 0 6 (.int i) = decide (i ≤ 6) by
          show decide (0 ≤ i ∧ i ≤ 6) = _
          rw [Bool.eq_iff_iff, decide_eq_true_eq, decide_eq_true_eq]
          omega] at kk
        exact kk
      · have kk := k H6 s6
        rw [k_r, show isIn 0 6 (.int i) = false from decide_eq_false (by omega)] at kk
        exact kk
    · have kk := k H6 s6
      have e : isIn 0 6 d = false := by
        cases d <;> first | rfl | (simp [isInt, isT, tyName] at hi)
      rw [k_r, e] at kk
      exact kk
  · refine ⟨.ref t2, rfl, .inl ⟨_, .inr "e", .inl hp5, rfl, (tab4 _ _ _ _).2.1.symm⟩, ?_⟩
    refine ⟨t2, _, rfl, .inl (.inl ht2), rfl, _, _, rfl, _, _, rfl, rfl, ?_⟩
    refine ⟨_, rfl, v, mu, d, rfl, hd.fut (.of_same s5), ho, fun H6 s56 => ⟨_, rfl, iteB (fun hi => ?_) fun hi => ?_⟩⟩
    all_goals have s6 := s5.trans s56
    · obtain ⟨i, rfl⟩ := (isIntD d).mp hi
      cases hd
      refine ⟨_, rfl, _, rfl, _, _, rfl, rfl, _, rfl, iteP (fun hlo => ?_) fun hlo => ?_⟩
      · refine ⟨_, rfl, rfl, _, rfl, iteF ⟨_, rfl, _, rfl, _, _, rfl, rfl, ?_⟩⟩
        have kk := k H6 s6
        rw [k_e, show isIn 1 3000 (.int i) = decide (i ≤ 3000) by
          show decide (1 ≤ i ∧ i ≤ 3000) = _
          rw [Bool.eq_iff_iff, decide_eq_true_eq, decide_eq_true_eq]
          omega] at kk
        exact kk
      · have kk := k H6 s6
        rw [k_e, show isIn 1 3000 (.int i) = false from decide_eq_false (by omega)] at kk
        exact kk
    · have kk := k H6 s6
      have e : isIn 1 3000 d = false := by
        cases d <;> first | rfl | (simp [isInt, isT, tyName] at hi)
      rw [k_e, e] at kk
      exact kk
  · refine ⟨.ref t3, rfl, .inl ⟨_, .inr "t", .inl hp5, rfl, (tab4 _ _ _ _).2.2.1.symm⟩, ?_⟩
    refine ⟨t3, _, rfl, .inl (.inl ht3), rfl, _, _, rfl, _, _, rfl, rfl, ?_⟩
    refine ⟨_, rfl, v, mu, d, rfl, hd.fut (.of_same s5), ho, fun H6 s56 => ⟨_, rfl, iteB (fun hi => ?_) fun hi => ?_⟩⟩
    all_goals have s6 := s5.trans s56
    · obtain ⟨i, rfl⟩ := (isIntD d).mp hi
      cases hd
      refine ⟨_, rfl, _, rfl, _, _, rfl, rfl, _, rfl, iteP (fun hlo => ?_) fun hlo => ?_⟩
      · refine ⟨_, rfl, rfl, _, rfl, iteF ⟨_, rfl, _, rfl, _, _, rfl, rfl, ?_⟩⟩
        have kk := k H6 s6
        rw [k_t, show isIn 1 60 (.int i) = decide (i ≤ 60) by
          show decide (1 ≤ i ∧ i ≤ 60) = _
          rw [Bool.eq_iff_iff, decide_eq_true_eq, decide_eq_true_eq]
          omega] at kk
        exact kk
      · have kk := k H6 s6
        rw [k_t, show isIn 1 60 (.int i) = false from decide_eq_false (by omega)] at kk
        exact kk
    · have kk := k H6 s6
      have e : isIn 1 60 d = false := by
        cases d <;> first | rfl | (simp [isInt, isT, tyName] at hi)
      rw [k_t, e] at kk
      exact kk
  · refine ⟨.ref t4, rfl, .inl ⟨_, .inr "i", .inl hp5, rfl, (tab4 _ _ _ _).2.2.2.symm⟩, ?_⟩
    refine ⟨t4, _, rfl, .inl (.inl ht4), rfl, _, _, rfl, _, _, rfl, rfl, ?_⟩
    refine ⟨_, rfl, v, mu, d, rfl, hd.fut (.of_same s5), ho, fun H6 s56 => ⟨_, rfl, iteB (fun hi => ?_) fun hi => ?_⟩⟩
    all_goals have s6 := s5.trans s56
    · obtain ⟨i, rfl⟩ := (isIntD d).mp hi
      cases hd
      refine ⟨_, rfl, _, rfl, _, _, rfl, rfl, _, rfl, iteP (fun hlo => ?_) fun hlo => ?_⟩
      · have kk := k H6 s6
        rw [k_i, show isGe 0 (.int i) = decide (0 ≤ i) from rfl, decide_eq_true (show 0 ≤ i by omega)] at kk
        exact ⟨_, rfl, rfl, _, rfl, iteT kk⟩
      · have kk := k H6 s6
        rw [k_i, show isGe 0 (.int i) = decide (0 ≤ i) from rfl, decide_eq_false (show ¬ 0 ≤ i by omega)] at kk
        exact kk
    · have kk := k H6 s6
      have e : isGe 0 d = false := by
        cases d <;> first | rfl | (simp [isInt, isT, tyName] at hi)
      rw [k_i, e] at kk
      exact kk
end
end K16
namespace K16
open PySem PySem.Spec PyProof.Rows L2 Sw StX RZ
def trips : List (Str × Str × List Str) := [("firm", "nr", ["name", "ranks"]), ("sort", "nno", ["name", "name", "options"]), ("give", "nnnf", ["name", "name", "name", "count"]), ("hand", "nnnnf", ["name", "name", "name", "name", "count"]), ("back", "nnnf", ["name", "name", "name", "count"]), ("split", "nnf", ["name", "name", "count"]), ("grant", "nnnfet", ["name", "name", "name", "count", "every", "times"]), ("leave", "nn", ["name", "name"]), ("strike", "i", ["index"])]
theorem trip_look (z : Str) : ∀ l : List (Str × Str × List Str), ((l.map fun p => (p.1, p.2.1)).lookup z = none ∧ (l.map fun p => (p.1, p.2.2)).lookup z = none) ∨
    ∃ p ∈ l, z = p.1 ∧ (l.map fun p => (p.1, p.2.1)).lookup z = some p.2.1 ∧ (l.map fun p => (p.1, p.2.2)).lookup z = some p.2.2
  | [] => .inl ⟨rfl, rfl⟩
  | p :: l => by
    rw [List.map_cons, List.map_cons, List.lookup_cons, List.lookup_cons]
    by_cases h : z = p.1
    · refine .inr ⟨p, List.mem_cons_self, h, ?_, ?_⟩
      · rw [show (z == p.1) = true by rw [beq_iff_eq]; exact h]
      · rw [show (z == p.1) = true by rw [beq_iff_eq]; exact h]
    · have e : (z == p.1) = false := by rw [beq_eq_false_iff_ne]; exact h
      rw [e]
      dsimp only
      rcases trip_look z l with h | ⟨q, hq, h1, h2, h3⟩
      · exact .inl h
      · exact .inr ⟨q, List.mem_cons_of_mem _ hq, h1, h2, h3⟩
theorem trip_ok : ∀ p ∈ trips, (p.2.1.cps.toList.map fun c => kindOf ⟨#[c]⟩) = p.2.2 ∧ (∀ c ∈ p.2.1.cps.toList, (⟨#[c]⟩ : Str) ∈ (["n", "f", "o", "r", "e", "t", "i"] : List Str)) ∧ p.2.1.length ≤ 6 := by decide +kernel
theorem sign_val (z : Str) : ∀ l : List (Str × Str), valV (l.map fun p => ((.inr p.1 : Key), V.str p.2)) (.inr z) = (l.lookup z).map V.str
  | [] => rfl
  | p :: l => by
    rw [List.map_cons, List.lookup_cons]
    by_cases h : z = p.1
    · rw [show (z == p.1) = true by rw [beq_iff_eq]; exact h]
      exact valV_pos (by rw [h])
    · rw [show (z == p.1) = false by rw [beq_eq_false_iff_ne]; exact h]
      exact (valV_neg (fun e => h (Sum.inr.inj e).symm)).trans (sign_val z l)
theorem deed_sign (z : Str) : (valV signK (.inr z) = none ∧ deedK z = none) ∨ ∃ s ks, valV signK (.inr z) = some (.str s) ∧ deedK z = some ks ∧ (s.cps.toList.map fun c => kindOf ⟨#[c]⟩) = ks ∧ (∀ c ∈ s.cps.toList, (⟨#[c]⟩ : Str) ∈ (["n", "f", "o", "r", "e", "t", "i"] : List Str)) ∧ s.length ≤ 6 := by
  have e1 : signT = trips.map fun p => (p.1, p.2.1) := rfl
  have e2 : deedT = trips.map fun p => (p.1, p.2.2) := rfl
  have ev : valV signK (.inr z) = (signT.lookup z).map V.str := sign_val z signT
  unfold deedK
  rw [ev, e1, e2]
  rcases trip_look z trips with ⟨h1, h2⟩ | ⟨p, hp, _, h2, h3⟩
  · rw [h1, h2]
    exact .inl ⟨rfl, rfl⟩
  · obtain ⟨a, b, c⟩ := trip_ok p hp
    rw [h2, h3]
    exact .inr ⟨_, _, rfl, rfl, a, b, c⟩
section
variable {P : Program} {w : World} {K : PySem.W.Frag} {mg : Str → Option Value} {base : Heap}
abbrev s_law_is_deed : Stmt := topS 39
theorem sc__law_is_deed : FnScope ["thing", "signs", "sign", "one"] ["thing"] (defScope s_law_is_deed) := ⟨rfl, rfl, rfl, by decide +kernel, rfl, by decide +kernel, by decide +kernel⟩
theorem ok__law_is_deed {f : Addr} {fd : FuncData} (F : Fun K "_law_is_deed" "_law_is_deed" s_law_is_deed f fd) (B : Bt mg) (c__law_signs : CalG P w K mg base 1 "_law_signs" spSigns) (c__law_is_part : CalG P w K mg base 55 "_law_is_part" (spPartL K)) : FnG P w K mg base 56 f fd ["thing"] (spP K isDeed) := by
  refine Fun.okG F sc__law_is_deed spP_len (fun cdv A outer s H vs Q E hg hr h => ?_)
  obtain ⟨v, mu, d, rfl, hd, ho, k⟩ := h
  have hu := Room.u64 hr
  have hu1 : (A.deeper (envOfC "_law_is_deed" (defScope s_law_is_deed) s.heap.objs.size f cdv)).units + 1 < cLine := by omega
  refine ⟨_, (pss_cons (ps_if (PW.pt (pw_or (pt_not (pt_val (pe_callB call_isD (by rfl) B.isin bb_isin (pa_cons (pv 0) (pa_cons (pe_bltn (v := .ty "tuple") rfl B.tuple bb_tuple rfl) pa_nil))))) (pw_or (pt_cmpR (op_eqNilT (K := K) rfl hu) (pv 0) (pe_tup pa_nil) (nomark _)) (pw_or (pt_not (pt_val (pe_callB call_isD (by rfl) B.isin bb_isin (pa_cons (pe_ix ix_tup (pv 0) pe_int (fun _ _ => rfl)) (pa_cons (pe_bltn (v := .ty "str") rfl B.str bb_str rfl) pa_nil))))) (pw_or1 (pt_cmp (pc_dnotin hu1 (pe_ix ix_tup (pv 0) pe_int (fun _ _ => rfl)) (pc0 c__law_signs hg hr (by decide) (by rfl)))))))))
      (pss_one (ps_ret pe_bl))
      pss_nil)
    (pss_cons (ps_set (i := 1) sc__law_is_deed.nd rfl (Or.inl rfl) (pe_dget hu1 (pc0 c__law_signs hg hr (by decide) (by rfl)) (pe_ix ix_tup (pv 0) pe_int (fun _ _ => rfl)) (fun _ _ => rfl)))
    (pss_cons (ps_if (pt_cmpR op_ne (pe_callB call_lenA (by rfl) B.len boot_len (pa_cons (pv 0) pa_nil)) (pe_op op_add (pe_callB call_lenA (by rfl) B.len boot_len (pa_cons (pv 1) pa_nil)) pe_int) (nomark _))
      (pss_one (ps_ret pe_bl))
      pss_nil)
    (pss_one (ps_ret (pe_cmpR (op_eqNil (K := K) rfl hu) (pe_lc (own := [("sign", 2), ("one", 3)]) rfl sc__law_is_deed.nd (pi_zipST (by rfl) B.zip (pa_cons (pv 1) (pa_cons (pe_slice sl_tupA (pv 0) (po_some pe_int) po_none) pa_nil))) (blkOk_by (own := [("sign", 2), ("one", 3)]) (N := ["thing", "signs", "sign", "one"]) (sc := (defScope s_law_is_deed)) (by decide +kernel)) (fun _ _ _ _ _ => (pg_tupK (K := K) (hK := rfl) (n := 2) rfl (pgs_cons (pg_name (i := 2) sc__law_is_deed.nd rfl (Or.inl rfl)) (pgs_cons (pg_name (i := 3) sc__law_is_deed.nd rfl (Or.inl rfl)) pgs_nil)))) (fun _ _ _ _ _ => (pts_one (pt_not (pt_val (pc c__law_is_part hg hr (by decide) (by rfl) (pa_cons (pv 2) (pa_cons (pv 3) pa_nil))))))) (fun _ _ _ _ _ => pe_int)) (pe_lst pa_nil) (nomark _))))))), ?_⟩
  refine ⟨_, rfl, _, "tuple", mu, d, rfl, by decide, hd, _, rfl, ?_⟩
  have k0 := k H (Same.refl H)
  refine iteN (fun ht => ?_) fun ht => ?_
  · have e : isDeed d = false := by
      cases d <;> first | rfl | (simp [isT, tyName] at ht)
    rw [e] at k0
    exact k0
  obtain ⟨ds, rfl⟩ := (isTup d).mp ht
  obtain ⟨a, xs, rfl, hS, hA⟩ := hd.tupAt
  refine ⟨_, rfl, Nat.zero_le _, fun q nq => ?_⟩
  have s0 := same_upd (o := .tup []) nq
  have hS0 := s0.seqT hS
  have hA0 := hA.fut (.of_same (mu := mu) s0)
  have k1 := fun H2 s2 => k H2 (s0.trans s2)
  have hq0 : SqT K (upd H q (.tup [])) q [] := .of upd_same
  revert hS0 hA0 k1 hq0
  generalize upd H q (.tup []) = H0
  intro hS0 hA0 k1 hq0
  refine ⟨a, q, xs, rfl, rfl, hS0, hq0, _, rfl, iteP (fun hn => ?_) fun hn => ?_⟩
  · subst hn
    cases hA
    exact k1 H0 (.refl H0)
  cases hA0 with
  | nil => exact absurd rfl hn
  | @cons x xs' dw ps hx hxs =>
  clear hA hS k k0
  refine ⟨_, rfl, a, _, 0, x, rfl, rfl, hS0, atI_nat (j := 0) rfl, _, "str", mu, dw, rfl, by decide, hx, _, rfl, iteN (fun hs => ?_) fun hs => ?_⟩
  · have kk := k1 H0 (.refl H0)
    have e : isDeed (.tuple (dw :: ps)) = false := by
      cases dw <;> first | rfl | (simp [isT, tyName] at hs)
    rw [e] at kk
    exact kk
  obtain ⟨z, rfl⟩ := (isStr dw).mp hs
  cases hx
  rw [isDeed_str] at k1
  have hl' := hxs.length
  refine ⟨_, rfl, a, _, 0, _, rfl, rfl, hS0, atI_nat (j := 0) rfl, ?_⟩
  refine ⟨rfl, fun p1 H1 s1 h1 => ?_⟩
  rcases deed_sign z with ⟨e, e2⟩ | ⟨sg, ks, e, e2, eks, hcs, hl6⟩
  · refine ⟨p1, none, rfl, .inl ⟨_, .inr z, .inl h1, rfl, e.symm⟩, _, rfl, iteT ?_⟩
    have kk := k1 H1 s1
    rw [e2] at kk
    exact kk
  refine ⟨p1, some (.str sg), rfl, .inl ⟨_, .inr z, .inl h1, rfl, e.symm⟩, _, rfl, iteF ?_⟩
  rw [e2] at k1
  dsimp only at k1
  refine ⟨rfl, fun p2 H2 s2 h2 => ?_⟩
  have s12 := s1.trans s2
  have hS2 := s12.seqT hS0
  have hxs2 := hxs.fut (.of_same (mu := mu) s12)
  refine ⟨_, rfl, a, _, 0, _, rfl, rfl, hS2, atI_nat (j := 0) rfl, p2, .str sg, rfl, .inl ⟨_, .inr z, .inl h2, rfl, e.symm⟩, ?_⟩
  have lks : ks.length = sg.length := by
    rw [← eks, List.length_map]
    show sg.cps.toList.length = sg.cps.size
    simp
  have sl := sizeLine_eq
  refine ⟨_, rfl, _, (V.str z :: xs').length, rfl, .inr ⟨_, hS2, rfl⟩, _, rfl, .str sg, sg.length, rfl, ⟨by omega, rfl⟩, _, _, rfl, rfl, rfl, _, rfl, iteNe (fun hm => ?_) fun hm => ?_⟩
  · have kk := k1 H2 s12
    rw [decide_eq_false (fun z => hm (by rw [List.length_cons]; omega)), Bool.false_and] at kk
    exact kk
  have hlen : ps.length = ks.length := by
    rw [List.length_cons] at hm
    omega
  rw [decide_eq_true hlen, Bool.true_and] at k1
  refine ⟨_, rfl, _, rfl, 1, rfl, ?_⟩
  dsimp only [tNoPart]
  refine slA_use hS2 fun p3 H3 s3 h3 => ?_
  rw [show (1 : Int) = ((1 : Nat) : Int) from rfl, cutV_from] at h3
  have h3 : SqT K H3 p3 xs' := h3
  have hxs3 := hxs2.fut (.of_same (mu := mu) s3)
  have s13 := s12.trans s3
  have lz : (ks.zip ps).length = ks.length := by rw [List.length_zip, hlen, Nat.min_self]
  refine ⟨sg, p3, xs', rfl, h3, fun D nD => lc_it (walk_zipST (K := K) (x := sg) (b := p3) (ys := xs') (n := ks.length) lks (by omega)) (fun i H' => Same H3 H' ∧ ∃ ws, H' D = some (.lst ws) ∧ ws.length ≤ i ∧ (ws = [] ↔ ((ks.zip ps).take i).all (fun q => partD q.1 q.2) = true)) ?_ (fun i H' _ h => h.1.seqT h3) ?_ ?_⟩
  · exact ⟨same_upd nD, [], upd_same, Nat.le_refl _, by simp⟩
  · rintro i x' H4 H5 hi ⟨sm, ws, hD, hwl, hall⟩ ⟨T2, x2, y2, rfl, nT, rfl, hx2, hy2⟩
    have hx2 : (sg.cps[i]?).map (fun c => V.str ⟨#[c]⟩) = some x2 := hx2
    have hy2 : xs'[i]? = some y2 := hy2
    obtain ⟨e3, he2, hye⟩ := hxs3.get hy2
    obtain ⟨c, hc, rfl⟩ := Option.map_eq_some_iff.mp hx2
    have hcl : sg.cps.toList[i]? = some c := by rw [Array.getElem?_toList]; exact hc
    have hki : ks[i]? = some (kindOf ⟨#[c]⟩) := by rw [← eks, List.getElem?_map, hcl]; rfl
    have hmem := hcs c (List.mem_of_getElem? hcl)
    have TD : T2 ≠ D := fun e => by
      rw [e, hD] at nT
      cases nT
    have sT := same_upd (o := .tup [.str ⟨#[c]⟩, y2]) nT
    refine ⟨T2, _, rfl, .inl (.inl upd_same), rfl, _, _, rfl, _, _, rfl, rfl, rfl, ?_⟩
    have hD2 := sT _ _ hD
    have sm2 := sm.trans sT
    revert hD2 sm2
    generalize upd H4 T2 (.tup [.str ⟨#[c]⟩, y2]) = H5
    intro hD2 sm2
    have hz2 : (ks.zip ps)[i]? = some (kindOf ⟨#[c]⟩, e3) := List.getElem?_zip_eq_some.mpr ⟨hki, he2⟩
    have ht : (ks.zip ps).take (i + 1) = (ks.zip ps).take i ++ [(kindOf ⟨#[c]⟩, e3)] := by
      rw [List.take_add_one, hz2]
      rfl
    refine ⟨_, rfl, _, rfl, ⟨#[c]⟩, y2, mu, e3, rfl, hmem, hye.fut (.of_same sm2), ho.inT (List.mem_cons_of_mem _ (List.mem_of_getElem? he2)), fun H6 s6 => ⟨_, rfl, iteN (fun hp => ?_) fun hp => ?_⟩⟩
    · refine ⟨ws, s6 _ _ hD2, small1000 (by omega), fun b o q => ?_, ws ++ [.int 1], upd_same, by rw [List.length_append]; show ws.length + 1 ≤ i + 1; omega, ?_⟩
      · rw [upd_ne (ne_of_none q nD)]
        exact s6 _ _ (sm2 b o q)
      · rw [ht, List.all_append, List.all_cons, hp]
        constructor
        · intro q
          simp at q
        · intro q
          simp at q
    · refine ⟨sm2.trans s6, ws, s6 _ _ hD2, by omega, ?_⟩
      rw [ht, List.all_append, List.all_cons, hp, List.all_nil, Bool.and_true, Bool.and_true]
      exact hall
  · rintro H4 ⟨sm, ws, hD, hwl, hall⟩
    rw [List.take_of_length_le (by omega)] at hall
    refine ⟨Nat.zero_le _, fun q2 nq2 => ?_⟩
    have s5 := same_upd (o := .lst []) nq2
    refine ⟨D, q2, ws, rfl, rfl, .inl (.inl (s5 _ _ hD)), .inl (.inl upd_same), ?_⟩
    have kk := k1 _ ((s13.trans sm).trans s5)
    have e : ∀ (ks : List Str) (ps : List PyData), (ks.zip ps).all (fun q => partD q.1 q.2) = ptsD ks ps := by
      intro ks
      induction ks with
      | nil =>
        intro ps
        cases ps <;> rfl
      | cons a l ih =>
        intro ps
        cases ps with
        | nil => rfl
        | cons b r =>
          rw [List.zip_cons_cons, List.all_cons, ih r]
          rfl
    rw [show decide (ws = []) = ptsD ks ps by
      rw [← e, Bool.eq_iff_iff, decide_eq_true_eq]
      exact hall]
    exact kk
abbrev s_law_are_entries : Stmt := topS 40
theorem sc__law_are_entries : FnScope ["thing", "one"] ["thing"] (defScope s_law_are_entries) := ⟨rfl, rfl, rfl, by decide +kernel, rfl, by decide +kernel, by decide +kernel⟩
theorem ok__law_are_entries {f : Addr} {fd : FuncData} (F : Fun K "_law_are_entries" "_law_are_entries" s_law_are_entries f fd) (B : Bt mg) (c__law_is_int : CalG P w K mg base 1 "_law_is_int" (spP K isInt)) (c__law_is_deed : CalG P w K mg base 56 "_law_is_deed" (spP K isDeed)) : FnG P w K mg base 57 f fd ["thing"] (spP K areEnt) := by
  refine Fun.okG F sc__law_are_entries spP_len (fun cdv A outer s H vs Q E hg hr h => ?_)
  obtain ⟨v, mu, d, rfl, hd, ho, k⟩ := h
  refine ⟨_, (pss_cons (ps_if (pt_not (pt_val (pe_callB call_isD (by rfl) B.isin bb_isin (pa_cons (pv 0) (pa_cons (pe_bltn (v := .ty "tuple") rfl B.tuple bb_tuple rfl) pa_nil)))))
      (pss_one (ps_ret pe_bl))
      pss_nil)
    (pss_cons (ps_for PassesOwn.never rfl (pi_tup (pv 0)) (pg_name (i := 1) sc__law_are_entries.nd rfl (Or.inl rfl))
      (pss_one (ps_if (PW.pt (pw_or (pt_not (pt_val (pe_callB call_isD (by rfl) B.isin bb_isin (pa_cons (pv 1) (pa_cons (pe_bltn (v := .ty "tuple") rfl B.tuple bb_tuple rfl) pa_nil))))) (pw_or (pt_cmpR op_ne (pe_callB call_lenA (by rfl) B.len boot_len (pa_cons (pv 1) pa_nil)) pe_int (nomark _)) (pw_or (pt_not (pt_val (pc c__law_is_int hg hr (by decide) (by rfl) (pa_cons (pe_ix ix_tup (pv 1) pe_int (fun _ _ => rfl)) pa_nil)))) (pw_or1 (pt_not (pt_val (pc c__law_is_deed hg hr (by decide) (by rfl) (pa_cons (pe_ix ix_tup (pv 1) pe_int (fun _ _ => rfl)) pa_nil)))))))))
        (pss_one (ps_ret pe_bl))
        pss_nil)))
    (pss_one (ps_ret pe_bl)))), ?_⟩
  refine ⟨_, rfl, _, "tuple", mu, d, rfl, by decide, hd, _, rfl, ?_⟩
  have k0 := k H (Same.refl H)
  refine iteN (fun ht => ?_) fun ht => ?_
  · have e : areEnt d = false := by
      cases d <;> first | rfl | (simp [isT, tyName] at ht)
    rw [e] at k0
    exact k0
  obtain ⟨ds, rfl⟩ := (isTup d).mp ht
  obtain ⟨a, xs, rfl, hS, hA⟩ := hd.tupAt
  have hl := hA.length
  have eA : areEnt (.tuple ds) = ds.all isEnt := rfl
  refine ⟨_, rfl, a, rfl, ⟨xs, hS⟩, for_it (walk_tup (K := K) (xs := xs) (a := a)) (fun i σ H' => Same H H' ∧ (∃ o, σ = [some (.ref a), o]) ∧ (ds.take i).all isEnt = true) ⟨.refl H, ⟨_, rfl⟩, by simp⟩ (fun i σ H' _ h => h.1.seqT hS) (fun i x σ H1 H2 hi h y => ?_) fun σ H1 h => ?_⟩
  · obtain ⟨sm, ⟨o, rfl⟩, hall⟩ := h
    obtain ⟨rfl, hx⟩ := y
    obtain ⟨e, he, hxe⟩ := hA.get hx
    have hxe := hxe.fut (.of_same (mu := mu) sm)
    have oe : Ok e := ho.inT (List.mem_of_getElem? he)
    have ht : ds.take (i + 1) = ds.take i ++ [e] := by
      rw [List.take_add_one, he]
      rfl
    have bad : isEnt e = false → ∀ H', Same H2 H' → Q (.bl false) H' := fun hb H' s' => by
      have kk := k H' (sm.trans s')
      rw [eA, List.all_eq_false.mpr ⟨e, List.mem_of_getElem? he, by rw [hb]; exact Bool.false_ne_true⟩] at kk
      exact kk
    have good : isEnt e = true → (ds.take (i + 1)).all isEnt = true := fun hg => by
      rw [ht, List.all_append, hall, List.all_cons, hg]
      rfl
    have s2 : ∀ H', Same H2 H' → Same H H' := fun H' s' => sm.trans s'
    refine ⟨_, rfl, _, "tuple", mu, e, rfl, by decide, hxe, _, rfl, iteN (fun ht1 => ?_) fun ht1 => ?_⟩
    · exact bad (by cases e <;> first | rfl | (simp [isT, tyName] at ht1)) _ (.refl _)
    obtain ⟨es, rfl⟩ := (isTup e).mp ht1
    obtain ⟨a2, ys, rfl, hS2, hA2⟩ := hxe.tupAt
    have hl2 := hA2.length
    refine ⟨_, rfl, _, ys.length, rfl, .inr ⟨_, hS2, rfl⟩, rfl, _, rfl, iteNe (fun hn => ?_) fun hn => ?_⟩
    · refine bad ?_ _ (.refl _)
      match es, hl2 with
      | [], _ => rfl
      | [_], _ => rfl
      | [_, _], hl => exact absurd (by rw [hl]; rfl) hn
      | _ :: _ :: _ :: _, _ => rfl
    obtain ⟨x1, y1, d1, d2, rfl, rfl, r1, r2⟩ := hA2.two (by omega)
    have eE : isEnt (.tuple [d1, d2]) = (isInt d1 && isDeed d2) := rfl
    rw [eE] at bad good
    refine ⟨_, rfl, a2, _, 0, x1, rfl, rfl, hS2, atI_nat (j := 0) rfl, x1, mu, d1, rfl, r1, oe.inT (by simp), fun H3 s3 => ⟨_, rfl, iteN (fun h1 => ?_) fun h1 => ?_⟩⟩
    · exact bad (by rw [h1]; rfl) _ s3
    refine ⟨_, rfl, a2, _, 1, y1, rfl, rfl, s3.seqT hS2, atI_nat (j := 1) rfl, y1, mu, d2, rfl, r2.fut (.of_same s3), oe.inT (by simp), fun H4 s4 => ⟨_, rfl, iteN (fun h2 => ?_) fun h2 => ?_⟩⟩
    · exact bad (by rw [h1, h2]; rfl) _ (s3.trans s4)
    · exact ⟨s2 _ (s3.trans s4), ⟨_, rfl⟩, good (by rw [h1, h2]; rfl)⟩
  · obtain ⟨sm, ⟨o, rfl⟩, hall⟩ := h
    have kk := k H1 sm
    rw [List.take_of_length_le (by omega)] at hall
    rw [eA, hall] at kk
    exact kk
end
end K16
namespace K16
open PySem PySem.Spec PyProof.Rows L2 Sw StX RZ
mutual
/-- small integers, short texts -/
def smD : PyData → Bool
  | .none | .bool _ => true
  | .int i => decide (i.natAbs < 10 ^ 40)
  | .str x => PyData.strOk x && decide (1 ≤ x.length ∧ x.length ≤ 13) && x.cps.all (fun c => decide (97 ≤ c ∧ c ≤ 122))
  | .list xs | .tuple xs => smA xs
  | .dict _ => false
def smA : List PyData → Bool
  | [] => true
  | x :: xs => smD x && smA xs
end
mutual
theorem sm_ok : ∀ {d : PyData}, smD d = true → okD d = true
  | .none, _ | .bool _, _ => rfl
  | .int i, h => by
    simp only [smD, decide_eq_true_eq] at h
    simp only [okD, decide_eq_true_eq]
    exact Nat.lt_trans h (by decide +kernel)
  | .str x, h => by
    simp only [smD, Bool.and_eq_true] at h
    simp only [okD]
    exact h.1.1
  | .list xs, h => by
    simp only [smD] at h
    simp only [okD]
    exact smA_ok h
  | .tuple xs, h => by
    simp only [smD] at h
    simp only [okD]
    exact smA_ok h
  | .dict _, h => by simp [smD] at h
theorem smA_ok : ∀ {ds : List PyData}, smA ds = true → okA ds = true
  | [], _ => rfl
  | d :: ds, h => by
    simp only [smA, Bool.and_eq_true] at h
    simp only [okA, sm_ok h.1, smA_ok h.2, Bool.and_self]
end
theorem smA_mem {d : PyData} : ∀ {ds : List PyData}, smA ds = true → d ∈ ds → smD d = true
  | x :: xs, h, hm => by
    simp only [smA, Bool.and_eq_true] at h
    rcases List.mem_cons.mp hm with rfl | hm
    · exact h.1
    · exact smA_mem h.2 hm
/-- a datum of a size, without dicts -/
structure Sd (p w : Nat) (d : PyData) : Prop where
  ok : smD d = true
  nd : d.hasDict = false
  dp : d.depth ≤ p
  wt : d.weight ≤ w
theorem Sd.mono {p w p' w' : Nat} {d : PyData} (h : Sd p w d) (hp : p ≤ p') (hw : w ≤ w') : Sd p' w' d := ⟨h.ok, h.nd, Nat.le_trans h.dp hp, Nat.le_trans h.wt hw⟩
/-- items: together at most w heavy -/
structure SdA (p w : Nat) (ds : List PyData) : Prop where
  ok : smA ds = true
  nd : PyData.hasDictAll ds = false
  dp : PyData.depthAll ds ≤ p
  wt : PyData.weightAll ds ≤ w
theorem SdA.nil {p w : Nat} : SdA p w [] := ⟨rfl, rfl, Nat.zero_le _, Nat.zero_le _⟩
theorem SdA.cons {p w1 w2 w : Nat} {d : PyData} {ds : List PyData} (h : Sd p w1 d) (t : SdA p w2 ds) (hw : w1 + 1 + w2 ≤ w) : SdA p w (d :: ds) := by
  refine ⟨by simp only [smA, h.ok, t.ok, Bool.and_self], by simp only [PyData.hasDictAll, h.nd, t.nd, Bool.or_self], ?_, ?_⟩
  · have a := h.dp
    have b := t.dp
    simp only [PyData.depthAll]
    omega
  · have a := h.wt
    have b := t.wt
    simp only [PyData.weightAll]
    omega
theorem SdA.tup {p w : Nat} {ds : List PyData} (h : SdA p w ds) : Sd (p + 1) w (.tuple ds) :=
  ⟨by simp only [smD]; exact h.ok, by simp only [PyData.hasDict]; exact h.nd, by simp only [PyData.depth]; have := h.dp; omega, by simp only [PyData.weight]; exact h.wt⟩
theorem SdA.all {p w1 m : Nat} : ∀ {ds : List PyData}, (∀ d ∈ ds, Sd p w1 d) → ds.length ≤ m → SdA p ((w1 + 1) * m) ds
  | [], _, _ => .nil
  | d :: ds, h, hl => by
    cases m with
    | zero => simp at hl
    | succ m =>
      rw [Nat.mul_succ]
      exact .cons (h d List.mem_cons_self) (SdA.all (m := m) (fun x hx => h x (List.mem_cons_of_mem _ hx)) (by simpa using hl)) (by omega)
theorem sd_str {x : Str} {w p : Nat} (h : smD (.str x) = true) (hl : x.length ≤ w) : Sd p w (.str x) := ⟨h, by simp [PyData.hasDict], by simp [PyData.depth], by simp only [PyData.weight]; exact hl⟩
theorem sd_int {i : Int} {p k : Nat} (h : i.natAbs < 2 ^ k) (hk : k ≤ 130) : Sd p k (.int i) := by
  refine ⟨?_, by simp [PyData.hasDict], by simp [PyData.depth], ?_⟩
  · simp only [smD, decide_eq_true_eq]
    exact Nat.lt_of_lt_of_le h (Nat.le_trans (Nat.pow_le_pow_right (by decide) hk) (by decide +kernel))
  · simp only [PyData.weight]
    by_cases hz : i = 0
    · rw [hz]
      exact Nat.zero_le _
    · have hz2 : i.natAbs ≠ 0 := by omega
      have e : i.natAbs.log2 < k := (Nat.log2_lt hz2).mpr h
      split <;> omega
theorem sd_num {d : PyData} (h : NumD d) : Sd 1 82 d ∧ isAb d = true := by
  obtain ⟨n, m, rfl, h1, h2, h3, h4, h5⟩ := h
  refine ⟨(SdA.cons (w1 := 40) (w2 := 41) (sd_int (by omega) (by decide)) (.cons (w1 := 40) (w2 := 0) (sd_int (by omega) (by decide)) .nil (by decide)) (by decide)).tup, ?_⟩
  show ((decide (1 ≤ m) && decide (gI n m = 1)) && decide (0 < n)) = true
  rw [decide_eq_true h3, decide_eq_true h5, decide_eq_true (show 0 < n by omega)]
  rfl
/-- a drawn claim, n deep -/
structure Cl (n : Nat) (d : PyData) : Prop where
  sd : Sd (2 + 2 * n) (175 + 360 * n) d
  clm : clm 6 d = true
  tup : ∃ ds, d = .tuple ds
theorem clm_due {i : Int} {q : PyData} (h0 : 0 ≤ i) (h1 : i < 6) (hq : isAb q = true) : clm 6 (.tuple [.str "due", .int i, q]) = true := by
  rw [clm_loc, loc_str, locW_due, sub_other (by decide +kernel) (by decide +kernel), hq]
  show (true && decide (0 ≤ i ∧ i ≤ 6 - 1)) && true = true
  rw [decide_eq_true (by omega)]
  rfl
theorem clm_shares {q : PyData} (hq : isAb q = true) : clm 6 (.tuple [.str "shares", q]) = true := by
  rw [clm_loc, loc_str, locW_shares, sub_other (by decide +kernel) (by decide +kernel), hq]
  rfl
theorem clm_option {p q : PyData} (hp : isAb p = true) (hq : isAb q = true) : clm 6 (.tuple [.str "option", p, q]) = true := by
  rw [clm_loc, loc_str, locW_option, sub_other (by decide +kernel) (by decide +kernel), hp, hq]
  rfl
theorem clm_none : clm 6 (.tuple [.str "none"]) = true := by
  rw [clm_loc, loc_str, locW_none, sub_other (by decide +kernel) (by decide +kernel)]
  rfl
theorem clm_capped {p q : PyData} (hp : clm 6 p = true) (hq : isAb q = true) : clm 6 (.tuple [.str "capped", p, q]) = true := by
  rw [clm_loc, loc_str, locW_capped, sub_capped, hq]
  simp [clmA, hp]
theorem clm_sum {cs : List PyData} (hl : 2 ≤ cs.length) (hc : ∀ c ∈ cs, clm 6 c = true) : clm 6 (.tuple [.str "sum", .tuple cs]) = true := by
  rw [clm_loc, loc_str, locW_sum, sub_sum, clmA_all, List.all_eq_true.mpr hc]
  show (decide (2 ≤ cs.length) && true) = true
  rw [decide_eq_true hl]
  rfl
def spClaim (K : PySem.W.Frag) (n : Nat) : Sp := fun vs H Q _ => ∃ (b : Addr) (mu : Addr → Prop), vs = [.ref b, .int 6, .int n, .bl true] ∧ mu b ∧ BagAt H b ∧ MuOk mu H ∧ ∀ v H' d, Cl n d → Rel b H H' → Dt K mu H' v d → Q v H'
section
variable {P : Program} {w : World} {K : PySem.W.Frag} {mg : Str → Option Value} {base : Heap}
abbrev s_law_claim : Stmt := topS 31
theorem sc__law_claim : FnScope ["bag", "ranks", "deep", "may_due", "way", "many", "turn"] ["bag", "ranks", "deep", "may_due"] (defScope s_law_claim) := ⟨rfl, rfl, rfl, by decide +kernel, rfl, by decide +kernel, by decide +kernel⟩
theorem ok__law_claim {f : Addr} {fd : FuncData} {j n : Nat} {sp : Sp} (hj : 3 ≤ j) (hn1 : n ≤ 1) (hsp : n = 0 ∨ ∃ m, n = m + 1 ∧ sp = spClaim K m) (F : Fun K "_law_claim" "_law_claim" s_law_claim f fd) (B : Bt mg) (c__law_take : CalG P w K mg base 1 "_law_take" spTake) (c__law_number : CalG P w K mg base 3 "_law_number" (spNum K))
    (c__law_claim : CalG P w K mg base j "_law_claim" sp) : FnG P w K mg base (j + 1) f fd ["bag", "ranks", "deep", "may_due"] (spClaim K n) := by
  refine Fun.okG F sc__law_claim (fun vs H Q E h => ?_) (fun cdv A outer s H vs Q E hg hr h => ?_)
  · obtain ⟨_, _, rfl, _⟩ := h
    rfl
  obtain ⟨b, mu, rfl, hmu, hb, hM, k⟩ := h
  refine ⟨_, (pss_cons (ps_set (i := 4) sc__law_claim.nd rfl (Or.inl rfl) (pc c__law_take hg hr (by omega) (by rfl) (pa_cons (pv 0) (pa_cons (pe_ifExp (pt_cmpR op_gt (pv 2) pe_int (nomark _)) pe_int pe_int) pa_nil))))
    (pss_cons (ps_if (PW.pt (pw_and (pt_cmpR op_lt (pv 4) pe_int (nomark _)) (pw_and (pt_val (pv 3)) (pw_and1 (pt_cmpR op_gt (pv 1) pe_int (nomark _))))))
      (pss_one (ps_ret (pe_tup (pa_cons pe_str (pa_cons (pc c__law_take hg hr (by omega) (by rfl) (pa_cons (pv 0) (pa_cons (pv 1) pa_nil))) (pa_cons (pc c__law_number hg hr (by omega) (by rfl) (pa_cons (pv 0) (pa_cons pe_int pa_nil))) pa_nil))))))
      pss_nil)
    (pss_cons (ps_if (pt_cmpR op_lt (pv 4) pe_int (nomark _))
      (pss_one (ps_ret (pe_tup (pa_cons pe_str (pa_cons (pc c__law_number hg hr (by omega) (by rfl) (pa_cons (pv 0) (pa_cons pe_int pa_nil))) pa_nil)))))
      pss_nil)
    (pss_cons (ps_if (pt_cmpR op_eq (pv 4) pe_int (nomark _))
      (pss_one (ps_ret (pe_tup (pa_cons pe_str (pa_cons (pc c__law_number hg hr (by omega) (by rfl) (pa_cons (pv 0) (pa_cons pe_int pa_nil))) (pa_cons (pc c__law_number hg hr (by omega) (by rfl) (pa_cons (pv 0) (pa_cons pe_int pa_nil))) pa_nil))))))
      pss_nil)
    (pss_cons (ps_if (pt_cmpR op_eq (pv 4) pe_int (nomark _))
      (pss_one (ps_ret (pe_ifExp (pt_cmpR op_eq (pc c__law_take hg hr (by omega) (by rfl) (pa_cons (pv 0) (pa_cons pe_int pa_nil))) pe_int (nomark _)) (pe_tup (pa_cons pe_str pa_nil)) (pe_tup (pa_cons pe_str (pa_cons (pe_tup (pa_cons (pe_op op_add pe_int (pc c__law_take hg hr (by omega) (by rfl) (pa_cons (pv 0) (pa_cons pe_int pa_nil)))) (pa_cons pe_int pa_nil))) pa_nil))))))
      pss_nil)
    (pss_cons (ps_if (pt_cmpR op_eq (pv 4) pe_int (nomark _))
      (pss_one (ps_ret (pe_tup (pa_cons pe_str (pa_cons (pc c__law_claim hg hr (by omega) (by rfl) (pa_cons (pv 0) (pa_cons (pv 1) (pa_cons (pe_op op_sub (pv 2) pe_int) (pa_cons (pv 3) pa_nil))))) (pa_cons (pc c__law_number hg hr (by omega) (by rfl) (pa_cons (pv 0) (pa_cons pe_int pa_nil))) pa_nil))))))
      pss_nil)
    (pss_cons (ps_set (i := 5) sc__law_claim.nd rfl (Or.inl rfl) (pe_op op_add pe_int (pc c__law_take hg hr (by omega) (by rfl) (pa_cons (pv 0) (pa_cons pe_int pa_nil)))))
    (pss_one (ps_ret (pe_tup (pa_cons pe_str (pa_cons (pe_callTy call_tuple_of (by rfl) B.tuple bb_tuple (pa_cons (pe_lc (own := [("turn", 6)]) rfl sc__law_claim.nd (pi_range1 (by rfl) B.range (pa_cons (pv 5) pa_nil)) (blkOk_by (own := [("turn", 6)]) (N := ["bag", "ranks", "deep", "may_due", "way", "many", "turn"]) (sc := (defScope s_law_claim)) (by decide +kernel)) (fun _ _ _ _ _ => (pg_name (i := 6) sc__law_claim.nd rfl (Or.inl rfl))) (fun _ _ _ _ _ => pts_nil) (fun _ _ _ _ _ => (pc c__law_claim hg hr (by omega) (by rfl) (pa_cons (pv 0) (pa_cons (pv 1) (pa_cons (pe_op op_sub (pv 2) pe_int) (pa_cons (pv 3) pa_nil))))))) pa_nil)) pa_nil)))))))))))), ?_⟩
  have hw10 : ∃ m : Int, m = (if n = 0 then 7 else 10) := ⟨_, rfl⟩
  have fu : ∀ {G G' : Hp} {v2 : V} {d2 : PyData}, Dt K mu G v2 d2 → BagAt G b → Rel b G G' → Dt K mu G' v2 d2 := fun h hb R2 => h.fut (R2.fut hmu hb)
  have num : ∀ {G : Hp} {Q' : VK} {mo : Int}, Rel b H G → 0 < mo → mo ≤ 100000000 → (∀ v2 H2 d2, NumD d2 → Rel b G H2 → Dt K mu H2 v2 d2 → Q' v2 H2) → spNum K [.ref b, .int mo] G Q' E0 := fun R h0 h1 q =>
    ⟨_, h0, h1, b, mu, rfl, hmu, R.bag, hM.rel R, fun v2 H2 d2 hd R2 hv _ => q v2 H2 d2 hd R2 hv⟩
  have leaf : ∀ {G : Hp} {ds : List PyData} {vs : List V} {p : Addr}, Rel b H G → G p = none → DtA K mu G vs ds → SdA 1 175 ds → clm 6 (.tuple ds) = true → Q (.ref p) (upd G p (.tup vs)) := fun {G ds vs p} R np hA hs hc =>
    k (.ref p) _ (.tuple ds) ⟨hs.tup.mono (by omega) (by omega), hc, ds, rfl⟩ (R.same (same_upd np)) (.tup (.inl upd_same) (hA.fut (.of_same (same_upd np))))
  have two : ∀ {w0 : Str} {d2 : PyData}, smD (.str w0) = true → w0.length ≤ 6 → Sd 1 82 d2 → SdA 1 175 [.str w0, d2] := fun h1 h2 h3 => .cons (w1 := 6) (w2 := 83) (sd_str h1 h2) (.cons (w1 := 82) (w2 := 0) h3 .nil (by decide)) (by decide)
  have three : ∀ {w0 : Str} {d1 d2 : PyData}, smD (.str w0) = true → w0.length ≤ 6 → Sd 1 82 d1 → Sd 1 82 d2 → SdA 1 175 [.str w0, d1, d2] := fun h1 h2 h3 h4 => .cons (w1 := 6) (w2 := 166) (sd_str h1 h2) (.cons (w1 := 82) (w2 := 83) h3 (.cons (w1 := 82) (w2 := 0) h4 .nil (by decide)) (by decide)) (by decide)
  refine ⟨_, rfl, _, rfl, _, _, rfl, rfl, _, rfl, ?_⟩
  refine iteP (fun hdp => ?_) fun hdp => ?_
  all_goals
    refine ⟨b, _, rfl, hb, by decide, by decide, fun way H1 w0 w1 R1 => ?_⟩
    have hb1 := R1.bag
    refine ⟨_, rfl, _, _, rfl, rfl, _, rfl, iteP (fun hw => ?_) fun hw => ?_⟩
    · refine ⟨_, rfl, _, rfl, iteT ⟨_, rfl, _, _, rfl, rfl, _, rfl, iteT ?_⟩⟩
      refine ⟨_, rfl, _, rfl, b, 6, rfl, hb1, by decide, by decide, fun i H2 i0 i1 R2 => ?_⟩
      refine ⟨_, rfl, num (R1.trans R2) (by decide) (by decide) fun v2 H3 d2 hd R3 hv => ⟨by show 3 ≤ sizeLine; decide, fun p np => ?_⟩⟩
      exact leaf (ds := [.str "due", .int i, d2]) ((R1.trans R2).trans R3) np (.cons (.str _) (.cons (.int _) (.cons hv .nil))) (three (by decide +kernel) (by decide +kernel) ((sd_int (p := 1) (k := 3) (i := i) (by omega) (by decide)).mono (by decide) (by decide)) (sd_num hd).1) (clm_due i0 i1 (sd_num hd).2)
    refine ⟨_, rfl, _, _, rfl, rfl, _, rfl, iteP (fun hw2 => ?_) fun hw2 => ?_⟩
    · refine ⟨_, rfl, num R1 (by decide) (by decide) fun v2 H3 d2 hd R3 hv => ⟨by show 2 ≤ sizeLine; decide, fun p np => ?_⟩⟩
      exact leaf (ds := [.str "shares", d2]) (R1.trans R3) np (.cons (.str _) (.cons hv .nil)) (two (by decide +kernel) (by decide +kernel) (sd_num hd).1) (clm_shares (sd_num hd).2)
    refine ⟨_, rfl, rfl, _, rfl, iteEq (fun hw3 => ?_) fun hw3 => ?_⟩
    · refine ⟨_, rfl, num R1 (by decide) (by decide) fun v1 H2 d1 hd1 R2 hv1 => ?_⟩
      refine ⟨_, rfl, num (R1.trans R2) (by decide) (by decide) fun v2 H3 d2 hd R3 hv => ⟨by show 3 ≤ sizeLine; decide, fun p np => ?_⟩⟩
      exact leaf (ds := [.str "option", d1, d2]) ((R1.trans R2).trans R3) np (.cons (.str _) (.cons (fu hv1 R2.bag R3) (.cons hv .nil))) (three (by decide +kernel) (by decide +kernel) (sd_num hd1).1 (sd_num hd).1) (clm_option (sd_num hd1).2 (sd_num hd).2)
    refine ⟨_, rfl, rfl, _, rfl, iteEq (fun hw4 => ?_) fun hw4 => ?_⟩
    · refine ⟨_, rfl, b, 3, rfl, hb1, by decide, by decide, fun i H2 i0 i1 R2 => ⟨rfl, _, rfl, iteEq (fun _ => ?_) fun _ => ?_⟩⟩
      · refine ⟨by show 1 ≤ sizeLine; decide, fun p np => ?_⟩
        exact leaf (ds := [.str "none"]) (R1.trans R2) np (.cons (.str _) .nil) (.cons (w1 := 4) (w2 := 0) (sd_str (by decide +kernel) (by decide +kernel)) .nil (by decide)) clm_none
      · refine ⟨_, rfl, b, 2, rfl, R2.bag, by decide, by decide, fun i2 H3 i3 i4 R3 => ⟨_, _, rfl, rfl, by show 2 ≤ sizeLine; decide, fun q nq => ⟨by show 2 ≤ sizeLine; decide, fun p np => ?_⟩⟩⟩
        have hn : NumD (.tuple [.int (1 + i2), .int 1]) := ⟨_, _, rfl, by omega, by omega, by decide, by decide, by unfold gI; simp⟩
        have sq := same_upd (o := .tup [.int (1 + i2), .int 1]) nq
        exact leaf (ds := [.str "shares", .tuple [.int (1 + i2), .int 1]]) (((R1.trans R2).trans R3).same sq) np (.cons (.str _) (.cons (.tup (.inl upd_same) (.cons (.int _) (.cons (.int _) .nil))) .nil)) (two (by decide +kernel) (by decide +kernel) (sd_num hn).1) (clm_shares (sd_num hn).2)
  · -- deeper
    obtain ⟨m, rfl, rfl⟩ : ∃ m, n = m + 1 ∧ sp = spClaim K m := by
      rcases hsp with h | h
      · omega
      · exact h
    have em : ((m + 1 : Nat) : Int) - 1 = (m : Nat) := by omega
    have m0 : m = 0 := by omega
    refine ⟨_, rfl, rfl, _, rfl, iteEq (fun hw5 => ?_) fun hw5 => ?_⟩
    · refine ⟨_, rfl, _, rfl, _, rfl, _, _, rfl, rfl, _, rfl, b, mu, congrArg (fun z => [V.ref b, V.int 6, V.int z, V.bl true]) em, hmu, hb1, hM.rel R1, fun v1 H2 d1 hd1 R2 hv1 => ?_⟩
      refine ⟨_, rfl, num (R1.trans R2) (by decide) (by decide) fun v2 H3 d2 hd R3 hv => ⟨by show 3 ≤ sizeLine; decide, fun p np => ?_⟩⟩
      have sp2 := same_upd (o := .tup [.str "capped", v1, v2]) np
      refine k (.ref p) _ (.tuple [.str "capped", d1, d2]) ⟨?_, clm_capped hd1.clm (sd_num hd).2, _, rfl⟩ (((R1.trans R2).trans R3).same sp2) (.tup (.inl upd_same) (.cons (.str _) (.cons ((fu hv1 R2.bag R3).fut (.of_same sp2)) (.cons (hv.fut (.of_same sp2)) .nil))))
      subst m0
      exact (SdA.cons (p := 2) (w1 := 6) (w2 := 259) (w := 266) (sd_str (by decide +kernel) (by decide +kernel)) (.cons (w1 := 175) (w2 := 83) hd1.sd (.cons (w1 := 82) (w2 := 0) ((sd_num hd).1.mono (by decide) (Nat.le_refl _)) .nil (by decide)) (by decide)) (by decide)).tup.mono (by decide) (by decide)
    · refine ⟨_, rfl, b, 2, rfl, hb1, by decide, by decide, fun i H2 i0 i1 R2 => ⟨_, _, rfl, rfl, ?_⟩⟩
      have R12 := R1.trans R2
      refine ⟨_, rfl, 2 + i, rfl, by omega, by omega, fun D nD => lc_it (walk_range (lo := 0) (n := (2 + i).toNat)) (fun i' H' => ∃ xs ds, H' D = some (.lst xs) ∧ DtA K (fun a => mu a ∨ a = D) H' xs ds ∧ ds.length = i' ∧ (∀ d ∈ ds, Cl m d) ∧ Rel b H2 H') ⟨[], [], upd_same, .nil, rfl, (fun d h => nomatch h), Rel.of_same R2.bag (same_upd nD)⟩ (fun _ _ _ _ => True.intro) ?_ ?_⟩
      · rintro i' x' H3 H4 hi' ⟨xs, ds, hD, hA, hlen, hcl, R3⟩ ⟨rfl, hx'⟩
        have nDb : D ≠ b := fun z => by
          obtain ⟨_, _, _, _, _, q, _⟩ := R2.bag
          rw [z, q] at nD
          cases nD
        have mo : MuOk (fun a => mu a ∨ a = D) H4 := fun a h => by
          rcases h with h | rfl
          · exact (hM.rel (R12.trans R3)) a h
          · exact .inl (by rw [hD]; exact fun z => nomatch z)
        refine ⟨rfl, _, rfl, _, rfl, _, rfl, _, _, rfl, rfl, _, rfl, b, (fun a => mu a ∨ a = D), congrArg (fun z => [V.ref b, V.int 6, V.int z, V.bl true]) em, .inl hmu, R3.bag, mo, fun v4 H5 d4 hd4 R4 hv4 => ?_⟩
        have hD5 := R4.keep _ _ nDb hD
        have f1 : Fut (fun a => mu a ∨ a = D) H4 H5 := R4.fut (.inl hmu) R3.bag
        have f2 : Fut (fun a => mu a ∨ a = D) H5 (upd H5 D (.lst (xs ++ [v4]))) := (fut_at hD5).mono fun a z => .inr z
        refine ⟨_, hD5, small1000 (by rw [hA.length]; omega), xs ++ [v4], ds ++ [d4], upd_same, ((hA.fut f1).fut f2).append (.cons (hv4.fut f2) .nil), by rw [List.length_append, hlen]; rfl, fun d hd => ?_, (R3.trans R4).at R2.bag nD⟩
        rcases List.mem_append.mp hd with hd | hd
        · exact hcl d hd
        · rw [List.mem_singleton.mp hd]
          exact hd4
      · rintro H3 ⟨xs, ds, hD, hA, hlen, hcl, R3⟩
        refine ⟨D, xs, rfl, .inl ⟨.inl (.inl hD), fun l nl => ⟨by show 2 ≤ sizeLine; decide, fun p np => ?_⟩⟩⟩
        have hA3 := hA.less (mv := mu) fun a z => .inl z
        have sl := same_upd (o := .tup xs) nl
        have sp2 := same_upd (o := .tup [.str "sum", .ref l]) np
        have hl2 : 2 ≤ ds.length := by omega
        have hl3 : ds.length ≤ 3 := by omega
        refine k (.ref p) _ (.tuple [.str "sum", .tuple ds]) ⟨?_, clm_sum hl2 (fun c hc => (hcl c hc).clm), _, rfl⟩ ((((R12.trans R3).same sl).same sp2)) (.tup (.inl upd_same) (.cons (.str _) (.cons (.tup (.inl (sp2 _ _ upd_same)) ((hA3.fut (.of_same sl)).fut (.of_same sp2))) .nil)))
        subst m0
        have hs := (SdA.all (p := 2) (w1 := 175) (m := 3) (fun d hd => (hcl d hd).sd) hl3).tup
        exact (SdA.cons (p := 3) (w1 := 3) (w2 := 529) (w := 533) (sd_str (by decide +kernel) (by decide +kernel)) (.cons (w1 := 528) (w2 := 0) hs .nil (by decide)) (by decide)).tup.mono (by decide) (by decide)
  · refine ⟨_, rfl, rfl, _, rfl, iteEq (fun hw5 => ?_) fun hw5 => ?_⟩
    · omega
    · omega
end
end K16
namespace K16
open PySem PySem.Spec PyProof.Rows L2 Sw StX RZ
def spClaimA (K : PySem.W.Frag) : Sp := fun vs H Q E => ∃ n, n ≤ 1 ∧ spClaim K n vs H Q E
theorem claim_any {P : Program} {w : World} {K : PySem.W.Frag} {mg : Str → Option Value} {base : Heap} {k : Nat} {f : Addr} {fd : FuncData} {ps : List Str} (h : ∀ n, n ≤ 1 → FnG P w K mg base k f fd ps (spClaim K n)) : FnG P w K mg base k f fd ps (spClaimA K) :=
  ⟨fun vs H Q E ⟨n, hn, z⟩ => (h n hn).len vs H Q E z, fun g hr e0 hb hv ⟨n, hn, z⟩ => (h n hn).go g hr e0 hb hv z⟩
structure OptD (d : PyData) : Prop where
  op : optD 6 d = true
  sd : Sd 5 2144 d
  tup : ∃ ds, d = .tuple ds
def spOpts (K : PySem.W.Frag) : Sp := fun vs H Q _ => ∃ (b : Addr) (mu : Addr → Prop), vs = [.ref b, .int 6] ∧ mu b ∧ BagAt H b ∧ MuOk mu H ∧ ∀ v H' d, OptD d → Rel b H H' → Dt K mu H' v d → Q v H'
structure DeedD (d : PyData) : Prop where
  dd : isDeed d = true
  sd : Sd 6 2300 d
  tup : ∃ ds, d = .tuple ds
def spDeed (K : PySem.W.Frag) : Sp := fun vs H Q _ => ∃ (b : Addr) (mu : Addr → Prop), vs = [.ref b] ∧ mu b ∧ BagAt H b ∧ MuOk mu H ∧ ∀ v H' d, DeedD d → Rel b H H' → Dt K mu H' v d → Q v H'
theorem p_name (d : PyData) : partD "name" d = isNm d := if_pos rfl
theorem p_count (d : PyData) : partD "count" d = isAb d := by
  have := k_f d
  rw [show kindOf "f" = "count" by decide +kernel] at this
  exact this
theorem p_options (d : PyData) : partD "options" d = optD 6 d := by
  have := k_o d
  rw [show kindOf "o" = "options" by decide +kernel] at this
  exact this
theorem p_ranks (d : PyData) : partD "ranks" d = isIn 0 6 d := by
  have := k_r d
  rw [show kindOf "r" = "ranks" by decide +kernel] at this
  exact this
theorem p_index (d : PyData) : partD "index" d = isGe 0 d := by
  have := k_i d
  rw [show kindOf "i" = "index" by decide +kernel] at this
  exact this
theorem p_every (d : PyData) : partD "every" d = isIn 1 3000 d := by
  have := k_e d
  rw [show kindOf "e" = "every" by decide +kernel] at this
  exact this
theorem p_times (d : PyData) : partD "times" d = isIn 1 60 d := by
  have := k_t d
  rw [show kindOf "t" = "times" by decide +kernel] at this
  exact this
theorem deed_ok {w0 : Str} {ks : List Str} {ps : List PyData} (h : deedK w0 = some ks) (hl : ps.length = ks.length) (hp : ptsD ks ps = true) : isDeed (.tuple (.str w0 :: ps)) = true := by
  rw [isDeed_str, h]
  show (decide (ps.length = ks.length) && ptsD ks ps) = true
  rw [decide_eq_true hl, hp]
  rfl
theorem SdA.consE {p w1 w2 : Nat} {d : PyData} {ds : List PyData} (h : Sd p w1 d) (t : SdA p w2 ds) : SdA p (w1 + 1 + w2) (d :: ds) := .cons h t (Nat.le_refl _)
theorem Sd.one {p w : Nat} {d : PyData} (h : Sd p w d) : SdA p (w + 1 + 0) [d] := .consE h .nil
theorem Sd.consE' {p p2 w1 w2 : Nat} {d : PyData} {ds : List PyData} (h : Sd p w1 d) (t : SdA p2 w2 ds) : SdA (max p p2) (w1 + 1 + w2) (d :: ds) :=
  .consE (h.mono (Nat.le_max_left _ _) (Nat.le_refl _)) ⟨t.ok, t.nd, Nat.le_trans t.dp (Nat.le_max_right _ _), t.wt⟩
def names6 : List Str := ["a", "b", "co", "abcdefghijkl", "or", "due"]
theorem nm_ok : ∀ x ∈ names6, nameS x = true ∧ smD (.str x) = true ∧ x.length ≤ 12 := by decide +kernel
theorem sd_nm {x : Str} {p : Nat} (h : x ∈ names6) : Sd p 12 (.str x) := sd_str (nm_ok x h).2.1 (nm_ok x h).2.2
theorem is_nm {x : Str} (h : x ∈ names6) : partD "name" (.str x) = true := by
  rw [p_name]
  exact (nm_ok x h).1
theorem sd_w {x : Str} {p : Nat} (h : x ∈ (["firm", "sort", "give", "hand", "back", "split", "grant", "leave", "strike"] : List Str)) : Sd p 6 (.str x) := by
  have : ∀ x ∈ (["firm", "sort", "give", "hand", "back", "split", "grant", "leave", "strike"] : List Str), smD (.str x) = true ∧ x.length ≤ 6 := by decide +kernel
  exact sd_str (this x h).1 (this x h).2
section
variable {P : Program} {w : World} {K : PySem.W.Frag} {mg : Str → Option Value} {base : Heap}
abbrev s_law_units : Stmt := topS 32
theorem sc__law_units : FnScope ["bag"] ["bag"] (defScope s_law_units) := ⟨rfl, rfl, rfl, by decide +kernel, rfl, by decide +kernel, by decide +kernel⟩
theorem ok__law_units {f : Addr} {fd : FuncData} (F : Fun K "_law_units" "_law_units" s_law_units f fd) (B : Bt mg) (c__law_some : CalG P w K mg base 2 "_law_some" spSome) (c__law_number : CalG P w K mg base 3 "_law_number" (spNum K)) : FnG P w K mg base 4 f fd ["bag"] (spG K [] NumD) := by
  refine Fun.okG F sc__law_units (fun vs H Q E h => ?_) (fun cdv A outer s H vs Q E hg hr h => ?_)
  · obtain ⟨b, mu, rfl, _⟩ := h
    rfl
  obtain ⟨b, mu, rfl, hmu, hb, hM, k⟩ := h
  refine ⟨_, (pss_one (ps_ret (pc c__law_some hg hr (by decide) (by rfl) (pa_cons (pv 0) (pa_cons (pe_lst (pa_cons (pe_tup (pa_cons pe_int (pa_cons pe_int pa_nil))) (pa_cons (pe_tup (pa_cons pe_int (pa_cons pe_int pa_nil))) (pa_cons (pe_tup (pa_cons pe_int (pa_cons pe_int pa_nil))) (pa_cons (pe_tup (pa_cons pe_int (pa_cons pe_int pa_nil))) (pa_cons (pe_tup (pa_cons pe_int (pa_cons pe_int pa_nil))) (pa_cons (pe_tup (pa_cons pe_int (pa_cons pe_int pa_nil))) (pa_cons (pc c__law_number hg hr (by decide) (by rfl) (pa_cons (pv 0) (pa_cons pe_int pa_nil))) pa_nil)))))))) pa_nil))))), ?_⟩
  have g : ∀ {σ : L2.St} {H0 : Hp} {n m : Int}, NumP n m → Gv K b mu σ H0 (tTup (tCons (tC (.int n)) (tCons (tC (.int m)) tNil))) NumD := fun {σ H0 n m} h => (ge_tup hmu (geA_cons hmu ge_int (geA_cons hmu ge_int geA_nil)) (show 2 ≤ 1000 by decide)).gv (numD h)
  refine gv_some (K := K) (mu := mu) (D := NumD) (n := 7) hmu rfl (gvA_cons hmu (g ⟨by decide, by decide, by decide, by decide, by decide⟩) (gvA_cons hmu (g ⟨by decide, by decide, by decide, by decide, by decide⟩) (gvA_cons hmu (g ⟨by decide, by decide, by decide, by decide, by decide⟩) (gvA_cons hmu (g ⟨by decide, by decide, by decide, by decide, by decide⟩) (gvA_cons hmu (g ⟨by decide, by decide, by decide, by decide, by decide⟩) (gvA_cons hmu (g ⟨by decide, by decide, by decide, by decide, by decide⟩)
    (gvA_cons hmu (ge_num hmu rfl (by decide) (by decide)) gvA_nil))))))) (by decide) (by decide) H (.refl hb) hM _ fun v H3 d hd R3 hv _ => ?_
  exact k v H3 d hd R3 hv hd.not
abbrev s_law_sort_options : Stmt := topS 33
theorem sc__law_sort_options : FnScope ["bag", "ranks", "turn"] ["bag", "ranks"] (defScope s_law_sort_options) := ⟨rfl, rfl, rfl, by decide +kernel, rfl, by decide +kernel, by decide +kernel⟩
theorem ok__law_sort_options {f : Addr} {fd : FuncData} (F : Fun K "_law_sort_options" "_law_sort_options" s_law_sort_options f fd) (B : Bt mg) (c__law_some : CalG P w K mg base 2 "_law_some" spSome) (c__law_take : CalG P w K mg base 1 "_law_take" spTake) (c__law_claim : CalG P w K mg base 5 "_law_claim" (spClaimA K)) : FnG P w K mg base 6 f fd ["bag", "ranks"] (spOpts K) := by
  refine Fun.okG F sc__law_sort_options (fun vs H Q E h => ?_) (fun cdv A outer s H vs Q E hg hr h => ?_)
  · obtain ⟨b, mu, rfl, _⟩ := h
    rfl
  obtain ⟨b, mu, rfl, hmu, hb, hM, k⟩ := h
  refine ⟨_, (pss_one (ps_ret (pe_callTy call_tuple_of (by rfl) B.tuple bb_tuple (pa_cons (pe_lc (own := [("turn", 2)]) rfl sc__law_sort_options.nd (pi_range1 (by rfl) B.range (pa_cons (pc c__law_some hg hr (by decide) (by rfl) (pa_cons (pv 0) (pa_cons (pe_lst (pa_cons pe_int (pa_cons pe_int (pa_cons pe_int (pa_cons pe_int (pa_cons pe_int pa_nil)))))) pa_nil))) pa_nil)) (blkOk_by (own := [("turn", 2)]) (N := ["bag", "ranks", "turn"]) (sc := (defScope s_law_sort_options)) (by decide +kernel)) (fun _ _ _ _ _ => (pg_name (i := 2) sc__law_sort_options.nd rfl (Or.inl rfl))) (fun _ _ _ _ _ => pts_nil) (fun _ _ _ _ _ => (pc c__law_claim hg hr (by decide) (by rfl) (pa_cons (pv 0) (pa_cons (pv 1) (pa_cons (pc c__law_take hg hr (by decide) (by rfl) (pa_cons (pv 0) (pa_cons pe_int pa_nil))) (pa_cons pe_bl pa_nil))))))) pa_nil)))), ?_⟩
  refine gv_some (K := K) (mu := mu) (D := fun d => ∃ j : Int, d = .int j ∧ 1 ≤ j ∧ j ≤ 4) (n := 5) hmu rfl (gvA_cons hmu (ge_int.gv ⟨1, rfl, by decide, by decide⟩) (gvA_cons hmu (ge_int.gv ⟨2, rfl, by decide, by decide⟩) (gvA_cons hmu (ge_int.gv ⟨1, rfl, by decide, by decide⟩) (gvA_cons hmu (ge_int.gv ⟨3, rfl, by decide, by decide⟩) (gvA_cons hmu (ge_int.gv ⟨4, rfl, by decide, by decide⟩) gvA_nil))))) (by decide) (by decide) H (.refl hb) hM _ fun vj H2 dj hdj R2 hvj _ => ?_
  obtain ⟨i, rfl, i0, i1⟩ := hdj
  cases hvj
  refine ⟨i, rfl, by omega, by omega, fun D nD => lc_it (walk_range (lo := 0) (n := i.toNat)) (fun i' H' => ∃ xs ds, H' D = some (.lst xs) ∧ DtA K (fun a => mu a ∨ a = D) H' xs ds ∧ ds.length = i' ∧ (∀ d ∈ ds, Cl 1 d) ∧ Rel b H2 H') ⟨[], [], upd_same, .nil, rfl, (fun d h => nomatch h), Rel.of_same R2.bag (same_upd nD)⟩ (fun _ _ _ _ => True.intro) ?_ ?_⟩
  · rintro i' x' H3 H4 hi' ⟨xs, ds, hD, hA, hlen, hcl, R3⟩ ⟨rfl, hx'⟩
    have nDb : D ≠ b := fun z => by
      obtain ⟨_, _, _, _, _, q, _⟩ := R2.bag
      rw [z, q] at nD
      cases nD
    refine ⟨rfl, _, rfl, _, rfl, _, rfl, b, 2, rfl, R3.bag, by decide, by decide, fun dp H5 d0 d1 R5 => ?_⟩
    have hD5 := R5.keep _ _ nDb hD
    have R35 := R3.trans R5
    have mo : MuOk (fun a => mu a ∨ a = D) H5 := fun a h => by
      rcases h with h | rfl
      · exact (hM.rel (R2.trans R35)) a h
      · exact .inl (by rw [hD5]; exact fun z => nomatch z)
    obtain ⟨m, rfl⟩ : ∃ m : Nat, dp = m := ⟨dp.toNat, by omega⟩
    refine ⟨m, by omega, b, (fun a => mu a ∨ a = D), rfl, .inl hmu, R5.bag, mo, fun v4 H6 d4 hd4 R4 hv4 => ?_⟩
    have hd4 : Cl 1 d4 := ⟨hd4.sd.mono (by omega) (by omega), hd4.clm, hd4.tup⟩
    have hD6 := R4.keep _ _ nDb hD5
    have f1 : Fut (fun a => mu a ∨ a = D) H4 H6 := (R5.trans R4).fut (.inl hmu) R3.bag
    have f2 : Fut (fun a => mu a ∨ a = D) H6 (upd H6 D (.lst (xs ++ [v4]))) := (fut_at hD6).mono fun a z => .inr z
    refine ⟨_, hD6, small1000 (by rw [hA.length]; omega), xs ++ [v4], ds ++ [d4], upd_same, ((hA.fut f1).fut f2).append (.cons (hv4.fut f2) .nil), by rw [List.length_append, hlen]; rfl, fun d hd => ?_, (R35.trans R4).at R2.bag nD⟩
    rcases List.mem_append.mp hd with hd | hd
    · exact hcl d hd
    · rw [List.mem_singleton.mp hd]
      exact hd4
  · rintro H3 ⟨xs, ds, hD, hA, hlen, hcl, R3⟩
    refine ⟨D, xs, rfl, .inl ⟨.inl (.inl hD), fun l nl => ?_⟩⟩
    have hA3 := hA.less (mv := mu) fun a z => .inl z
    have sl := same_upd (o := .tup xs) nl
    refine k (.ref l) _ (.tuple ds) ⟨?_, ?_, _, rfl⟩ ((R2.trans R3).same sl) (.tup (.inl upd_same) (hA3.fut (.of_same sl)))
    · show (decide (1 ≤ ds.length ∧ ds.length ≤ 4) && clmA 6 ds) = true
      rw [decide_eq_true (by omega), clmA_all, List.all_eq_true.mpr (fun c hc => (hcl c hc).clm)]
      rfl
    · exact (SdA.all (p := 4) (w1 := 535) (m := 4) (fun d hd => (hcl d hd).sd) (by omega)).tup
abbrev s_law_any_deed : Stmt := topS 45
theorem sc__law_any_deed : FnScope ["bag", "names", "units", "one", "two", "three", "four", "k", "some", "every", "times"] ["bag"] (defScope s_law_any_deed) := ⟨rfl, rfl, rfl, by decide +kernel, rfl, by decide +kernel, by decide +kernel⟩
theorem ok__law_any_deed {f : Addr} {fd : FuncData} (F : Fun K "_law_any_deed" "_law_any_deed" s_law_any_deed f fd) (B : Bt mg) (c__law_some : CalG P w K mg base 2 "_law_some" spSome) (c__law_units : CalG P w K mg base 4 "_law_units" (spG K [] NumD)) (c__law_sort_options : CalG P w K mg base 6 "_law_sort_options" (spOpts K)) : FnG P w K mg base 7 f fd ["bag"] (spDeed K) := by
  refine Fun.okG F sc__law_any_deed (fun vs H Q E h => ?_) (fun cdv A outer s H vs Q E hg hr h => ?_)
  · obtain ⟨b, mu, rfl, _⟩ := h
    rfl
  obtain ⟨b, mu, rfl, hmu, hb, hM, k⟩ := h
  refine ⟨_, (pss_cons (ps_asg (pe_tup (pa_cons (pe_lst (pa_cons pe_str (pa_cons pe_str (pa_cons pe_str (pa_cons pe_str (pa_cons pe_str (pa_cons pe_str pa_nil))))))) (pa_cons (pc c__law_units hg hr (by decide) (by rfl) (pa_cons (pv 0) pa_nil)) pa_nil))) (pg_tup (n := 2) rfl (pgs_cons (pg_name (i := 1) sc__law_any_deed.nd rfl (Or.inr rfl)) (pgs_cons (pg_name (i := 2) sc__law_any_deed.nd rfl (Or.inl rfl)) pgs_nil))))
    (pss_cons (ps_asg (pe_lc (own := [("k", 7)]) rfl sc__law_any_deed.nd (pi_range1 (by rfl) B.range (pa_cons pe_int pa_nil)) (blkOk_by (own := [("k", 7)]) (N := ["bag", "names", "units", "one", "two", "three", "four", "k", "some", "every", "times"]) (sc := (defScope s_law_any_deed)) (by decide +kernel)) (fun _ _ _ _ _ => (pg_name (i := 7) sc__law_any_deed.nd rfl (Or.inl rfl))) (fun _ _ _ _ _ => pts_nil) (fun _ _ _ _ _ => (pc c__law_some hg hr (by decide) (by rfl) (pa_cons (pv 0) (pa_cons (pv 1) pa_nil))))) (pg_unl (n := 4) rfl (pgs_cons (pg_name (i := 3) sc__law_any_deed.nd rfl (Or.inl rfl)) (pgs_cons (pg_name (i := 4) sc__law_any_deed.nd rfl (Or.inl rfl)) (pgs_cons (pg_name (i := 5) sc__law_any_deed.nd rfl (Or.inl rfl)) (pgs_cons (pg_name (i := 6) sc__law_any_deed.nd rfl (Or.inl rfl)) pgs_nil))))))
    (pss_cons (ps_set (i := 8) sc__law_any_deed.nd rfl (Or.inl rfl) (pe_lst (pa_cons (pe_tup (pa_cons pe_str (pa_cons (pv 3) (pa_cons (pc c__law_some hg hr (by decide) (by rfl) (pa_cons (pv 0) (pa_cons (pe_lst (pa_cons pe_int (pa_cons pe_int (pa_cons pe_int pa_nil)))) pa_nil))) pa_nil)))) (pa_cons (pe_tup (pa_cons pe_str (pa_cons (pv 3) (pa_cons (pv 4) (pa_cons (pc c__law_sort_options hg hr (by decide) (by rfl) (pa_cons (pv 0) (pa_cons pe_int pa_nil))) pa_nil))))) pa_nil))))
    (pss_cons (ps_expr (pe_bm PySem.F.plainAttrs_list PySem.F.slot_list_extend PySem.F.type_list_extend mt_extend (pv 8) (pa_cons (pe_lst (pa_cons (pe_tup (pa_cons pe_str (pa_cons (pv 3) (pa_cons (pv 4) (pa_cons (pv 5) (pa_cons (pv 2) pa_nil)))))) (pa_cons (pe_tup (pa_cons pe_str (pa_cons (pv 3) (pa_cons (pv 4) (pa_cons (pv 5) (pa_cons (pv 6) (pa_cons (pv 2) pa_nil))))))) pa_nil))) pa_nil)))
    (pss_cons (ps_expr (pe_bm PySem.F.plainAttrs_list PySem.F.slot_list_append PySem.F.type_list_append mt_append (pv 8) (pa_cons (pe_tup (pa_cons pe_str (pa_cons (pv 3) (pa_cons (pv 4) (pa_cons (pv 5) (pa_cons (pv 2) pa_nil)))))) pa_nil)))
    (pss_cons (ps_par (i := 9) (j := 10) rfl sc__law_any_deed.nd rfl rfl (by decide) rfl rfl (pa_cons (pc c__law_some hg hr (by decide) (by rfl) (pa_cons (pv 0) (pa_cons (pe_lst (pa_cons pe_int (pa_cons pe_int (pa_cons pe_int pa_nil)))) pa_nil))) (pa_cons (pc c__law_some hg hr (by decide) (by rfl) (pa_cons (pv 0) (pa_cons (pe_lst (pa_cons pe_int (pa_cons pe_int (pa_cons pe_int pa_nil)))) pa_nil))) pa_nil)) (by rfl))
    (pss_cons (ps_expr (pe_bm PySem.F.plainAttrs_list PySem.F.slot_list_extend PySem.F.type_list_extend mt_extend (pv 8) (pa_cons (pe_lst (pa_cons (pe_tup (pa_cons pe_str (pa_cons (pv 3) (pa_cons (pv 4) (pa_cons (pv 2) pa_nil))))) (pa_cons (pe_tup (pa_cons pe_str (pa_cons (pv 3) (pa_cons (pv 4) (pa_cons (pv 5) (pa_cons (pv 2) (pa_cons (pv 9) (pa_cons (pv 10) pa_nil)))))))) (pa_cons (pe_tup (pa_cons pe_str (pa_cons (pv 3) (pa_cons (pv 4) pa_nil)))) pa_nil)))) pa_nil)))
    (pss_one (ps_ret (pc c__law_some hg hr (by decide) (by rfl) (pa_cons (pv 0) (pa_cons (pe_op op_cat (pv 8) (pe_lst (pa_cons (pe_ix ix_list (pv 8) pe_int (fun _ _ => rfl)) (pa_cons (pe_tup (pa_cons pe_str (pa_cons (pc c__law_some hg hr (by decide) (by rfl) (pa_cons (pv 0) (pa_cons (pe_lst (pa_cons pe_int (pa_cons pe_int (pa_cons (pe_op op_pow pe_int pe_int) pa_nil)))) pa_nil))) pa_nil))) pa_nil)))) pa_nil)))))))))))), ?_⟩
  refine ⟨by show 6 ≤ sizeLine; decide, fun N nN => ?_⟩
  have sN := same_upd (o := .lst (names6.map V.str)) nN
  have RN := Rel.of_same hb sN
  have hN0 : (upd H N (.lst (names6.map V.str))) N = some (.lst (names6.map V.str)) := upd_same
  have eN : ([V.str "a", V.str "b", V.str "co", V.str "abcdefghijkl", V.str "or", V.str "due"] : List V) = names6.map V.str := rfl
  have nNb : N ≠ b := fun z => by
    obtain ⟨_, _, _, _, _, q, _⟩ := hb
    rw [z, q] at nN
    cases nN
  refine ⟨_, rfl, b, mu, rfl, hmu, RN.bag, hM.rel RN, fun vu H2 du hdu R2 hvu _ => ⟨by show 2 ≤ sizeLine; decide, fun T nT => ?_⟩⟩
  have sT := same_upd (o := .tup [.ref N, vu]) nT
  have R3 := (RN.trans R2).same sT
  have hN3 := sT _ _ (R2.keep _ _ nNb hN0)
  have hvu3 := hvu.fut (.of_same (mu := mu) sT)
  refine ⟨T, _, rfl, .inl (.inl upd_same), rfl, _, _, rfl, _, _, rfl, rfl, ?_⟩
  revert R3 hN3 hvu3
  generalize upd H2 T (.tup [.ref N, vu]) = H3
  intro R3 hN3 hvu3
  -- the names
  refine ⟨4, rfl, by decide, by decide, fun D nD => lc_it (walk_range (lo := 0) (n := 4)) (fun i H' => ∃ xs : List Str, H' D = some (.lst (xs.map V.str)) ∧ xs.length = i ∧ (∀ x ∈ xs, x ∈ names6) ∧ Rel b H3 H') ⟨[], upd_same, rfl, (fun d h => nomatch h), Rel.of_same R3.bag (same_upd nD)⟩ (fun _ _ _ _ => True.intro) ?_ ?_⟩
  · rintro i x H4 H5 hi ⟨xs, hD, hl, hx, R4⟩ ⟨rfl, hx'⟩
    have nDb : D ≠ b := fun z => by
      obtain ⟨_, _, _, _, _, q, _⟩ := R3.bag
      rw [z, q] at nD
      cases nD
    refine ⟨rfl, _, rfl, _, rfl, b, N, names6.map V.str, rfl, R4.bag, nNb, R4.keep _ _ nNb hN3, by decide, by decide, fun j v H6 hv R5 => ?_⟩
    have hD5 := R5.keep _ _ nDb hD
    rw [List.getElem?_map] at hv
    obtain ⟨y, hy, rfl⟩ := Option.map_eq_some_iff.mp hv
    refine ⟨_, hD5, small1000 (by rw [List.length_map]; omega), xs ++ [y], by rw [upd_same, List.map_append]; rfl, by rw [List.length_append, hl]; rfl, fun z hz => ?_, (R4.trans R5).at R3.bag nD⟩
    rcases List.mem_append.mp hz with hz | hz
    · exact hx z hz
    · rw [List.mem_singleton.mp hz]
      exact List.mem_of_getElem? hy
  rintro H4 ⟨xs, hD, hl, hx, R4⟩
  obtain ⟨x1, x2, x3, x4, rfl⟩ : ∃ a b c d, xs = [a, b, c, d] := by
    match xs, hl with
    | [a, b, c, d], _ => exact ⟨a, b, c, d, rfl⟩
  have m1 : x1 ∈ names6 := hx _ (by simp)
  have m2 : x2 ∈ names6 := hx _ (by simp)
  have m3 : x3 ∈ names6 := hx _ (by simp)
  have m4 : x4 ∈ names6 := hx _ (by simp)
  have i1 := is_nm m1
  have i2 := is_nm m2
  have i3 := is_nm m3
  have i4 := is_nm m4
  have hvu4 := hvu3.fut (R4.fut hmu R3.bag)
  have R04 := R3.trans R4
  have su := sd_num hdu
  have iu : partD "count" du = true := by
    rw [p_count]
    exact su.2
  refine ⟨D, _, rfl, .inl (.inl hD), rfl, _, _, rfl, _, _, rfl, _, _, rfl, _, _, rfl, rfl, ?_⟩
  clear hx hl hD hN3 hvu3 R4 R3 nN nD sN hN0 RN hvu
  -- firm, sort
  refine ⟨_, rfl, ?_⟩
  refine gv_some (K := K) (mu := mu) (D := fun d => ∃ j : Int, d = .int j ∧ 0 ≤ j ∧ j ≤ 6) (n := 3) hmu rfl (gvA_cons hmu (ge_int.gv ⟨0, rfl, by decide, by decide⟩) (gvA_cons hmu (ge_int.gv ⟨1, rfl, by decide, by decide⟩) (gvA_cons hmu (ge_int.gv ⟨6, rfl, by decide, by decide⟩) gvA_nil))) (by decide) (by decide) H4 (.refl R04.bag) (hM.rel R04) _ fun vr H5 dr hdr R5 hvr _ => ?_
  obtain ⟨r, rfl, r0, r1⟩ := hdr
  cases hvr
  have R05 := R04.trans R5
  have hvu5 := hvu4.fut (R5.fut hmu R04.bag)
  refine ⟨by show 3 ≤ sizeLine; decide, fun t1 n1 => ?_⟩
  have st1 := same_upd (o := .tup [.str "firm", .str x1, .int r]) n1
  have D1 : DeedD (.tuple [.str "firm", .str x1, .int r]) := by
    refine ⟨deed_ok (ks := ["name", "ranks"]) (by decide +kernel) rfl ?_, ((sd_w (p := 0) (by simp)).consE' ((sd_nm (p := 0) m1).consE' ((sd_int (p := 0) (k := 3) (by omega) (by decide)).one))).tup.mono (by decide) (by decide), _, rfl⟩
    simp [ptsD, i1, p_ranks, isIn, r0, r1]
  have h1 : Dt K mu (upd H5 t1 (.tup [.str "firm", .str x1, .int r])) (.ref t1) (.tuple [.str "firm", .str x1, .int r]) := .tup (.inl upd_same) (.cons (.str _) (.cons (.str _) (.cons (.int _) .nil)))
  have hvu6 := hvu5.fut (.of_same (mu := mu) st1)
  have R06 := R05.same st1
  revert h1 hvu6 R06
  generalize upd H5 t1 (.tup [.str "firm", .str x1, .int r]) = H6
  intro h1 hvu6 R06
  refine ⟨_, rfl, _, rfl, _, rfl, b, mu, rfl, hmu, R06.bag, hM.rel R06, fun vo H7 dO hdo R7 hvo => ⟨by show 4 ≤ sizeLine; decide, fun t2 n2 => ?_⟩⟩
  have st2 := same_upd (o := .tup [.str "sort", .str x1, .str x2, vo]) n2
  have D2 : DeedD (.tuple [.str "sort", .str x1, .str x2, dO]) := by
    refine ⟨deed_ok (ks := ["name", "name", "options"]) (by decide +kernel) rfl ?_, ((sd_w (p := 0) (by simp)).consE' ((sd_nm (p := 0) m1).consE' ((sd_nm (p := 0) m2).consE' (hdo.sd.one)))).tup.mono (by decide) (by decide), _, rfl⟩
    simp [ptsD, i1, i2, p_options, hdo.op]
  have h2 : Dt K mu (upd H7 t2 (.tup [.str "sort", .str x1, .str x2, vo])) (.ref t2) (.tuple [.str "sort", .str x1, .str x2, dO]) := .tup (.inl upd_same) (.cons (.str _) (.cons (.str _) (.cons (.str _) (.cons (hvo.fut (.of_same st2)) .nil))))
  have h1 := (h1.fut (R7.fut hmu R06.bag)).fut (.of_same (mu := mu) st2)
  have hvu8 := (hvu6.fut (R7.fut hmu R06.bag)).fut (.of_same (mu := mu) st2)
  have R08 := (R06.trans R7).same st2
  revert h1 h2 hvu8 R08
  generalize upd H7 t2 (.tup [.str "sort", .str x1, .str x2, vo]) = H8
  intro h2 h1 hvu8 R08
  refine ⟨by show 2 ≤ sizeLine; decide, fun S nS => ?_⟩
  have hM8 := hM.rel R08
  have sS := same_upd (o := .lst [.ref t1, .ref t2]) nS
  have nSb : S ≠ b := fun z => by
    obtain ⟨_, _, _, _, _, q, _⟩ := R08.bag
    rw [z, q] at nS
    cases nS
  have hA : DtA K (fun a => mu a ∨ a = S) (upd H8 S (.lst [.ref t1, .ref t2])) [.ref t1, .ref t2] [.tuple [.str "firm", .str x1, .int r], .tuple [.str "sort", .str x1, .str x2, dO]] := .cons ((h1.more nS).fut (.of_same sS)) (.cons ((h2.more nS).fut (.of_same sS)) .nil)
  have hvu9 := (hvu8.more nS).fut (.of_same (mu := fun a => mu a ∨ a = S) sS)
  have R9 : Rel b H8 (upd H8 S (.lst [.ref t1, .ref t2])) := Rel.of_same R08.bag sS
  have hS : (upd H8 S (.lst [.ref t1, .ref t2])) S = some (.lst [.ref t1, .ref t2]) := upd_same
  revert hA hvu9 R9 hS
  generalize upd H8 S (.lst [.ref t1, .ref t2]) = H9
  intro hA hvu9 R9 hS
  clear h1 h2 hvu8 hvu6 hvu5 hvu4 hvo R5 R7 st1 st2 sS n1 n2 R05 R06 R04
  -- give, hand
  have D3 : DeedD (.tuple [.str "give", .str x1, .str x2, .str x3, du]) := by
    refine ⟨deed_ok (ks := ["name", "name", "name", "count"]) (by decide +kernel) rfl ?_, ((sd_w (p := 0) (by simp)).consE' (((sd_nm (p := 0) m1).consE' (((sd_nm (p := 0) m2).consE' (((sd_nm (p := 0) m3).consE' (su.1.one)))))))).tup.mono (by decide) (by decide), _, rfl⟩
    simp [ptsD, i1, i2, i3, iu]
  have D4 : DeedD (.tuple [.str "hand", .str x1, .str x2, .str x3, .str x4, du]) := by
    refine ⟨deed_ok (ks := ["name", "name", "name", "name", "count"]) (by decide +kernel) rfl ?_, ((sd_w (p := 0) (by simp)).consE' (((sd_nm (p := 0) m1).consE' (((sd_nm (p := 0) m2).consE' (((sd_nm (p := 0) m3).consE' (((sd_nm (p := 0) m4).consE' (su.1.one)))))))))).tup.mono (by decide) (by decide), _, rfl⟩
    simp [ptsD, i1, i2, i3, i4, iu]
  have D5 : DeedD (.tuple [.str "back", .str x1, .str x2, .str x3, du]) := by
    refine ⟨deed_ok (ks := ["name", "name", "name", "count"]) (by decide +kernel) rfl ?_, ((sd_w (p := 0) (by simp)).consE' (((sd_nm (p := 0) m1).consE' (((sd_nm (p := 0) m2).consE' (((sd_nm (p := 0) m3).consE' (su.1.one)))))))).tup.mono (by decide) (by decide), _, rfl⟩
    simp [ptsD, i1, i2, i3, iu]
  have D6 : DeedD (.tuple [.str "split", .str x1, .str x2, du]) := by
    refine ⟨deed_ok (ks := ["name", "name", "count"]) (by decide +kernel) rfl ?_, ((sd_w (p := 0) (by simp)).consE' (((sd_nm (p := 0) m1).consE' (((sd_nm (p := 0) m2).consE' (su.1.one)))))).tup.mono (by decide) (by decide), _, rfl⟩
    simp [ptsD, i1, i2, iu]
  have D8 : DeedD (.tuple [.str "leave", .str x1, .str x2]) := by
    refine ⟨deed_ok (ks := ["name", "name"]) (by decide +kernel) rfl ?_, ((sd_w (p := 0) (by simp)).consE' (((sd_nm (p := 0) m1).consE' ((sd_nm (p := 0) m2).one)))).tup.mono (by decide) (by decide), _, rfl⟩
    simp [ptsD, i1, i2]
  refine ⟨_, rfl, .inl ⟨rfl, _, .inl (.inl hS)⟩, ?_⟩
  refine ⟨_, rfl, _, rfl, _, rfl, _, rfl, ?_⟩
  refine ⟨by show 5 ≤ sizeLine; decide, fun t3 n3 => ?_⟩
  have st_t3 := same_upd (o := .tup [.str "give", .str x1, .str x2, .str x3, vu]) n3
  have hd_t3 : Dt K (fun a => mu a ∨ a = S) (upd H9 t3 (.tup [.str "give", .str x1, .str x2, .str x3, vu])) (.ref t3) (.tuple [.str "give", .str x1, .str x2, .str x3, du]) := .tup (.inl upd_same) (.cons (.str _) (.cons (.str _) (.cons (.str _) (.cons (.str _) (.cons (hvu9.fut (.of_same st_t3)) .nil)))))
  have hA := hA.fut (.of_same (mu := fun a => mu a ∨ a = S) st_t3)
  have hvu9 := hvu9.fut (.of_same (mu := fun a => mu a ∨ a = S) st_t3)
  have R9 := R9.same st_t3
  have hS := st_t3 _ _ hS
  revert hd_t3 hA hvu9 R9 hS
  generalize upd H9 t3 (.tup [.str "give", .str x1, .str x2, .str x3, vu]) = H10
  intro hd_t3 hA hvu9 R9 hS
  clear st_t3 n3
  refine ⟨_, rfl, _, rfl, _, rfl, _, rfl, _, rfl, ?_⟩
  refine ⟨by show 6 ≤ sizeLine; decide, fun t4 n4 => ?_⟩
  have st_t4 := same_upd (o := .tup [.str "hand", .str x1, .str x2, .str x3, .str x4, vu]) n4
  have hd_t4 : Dt K (fun a => mu a ∨ a = S) (upd H10 t4 (.tup [.str "hand", .str x1, .str x2, .str x3, .str x4, vu])) (.ref t4) (.tuple [.str "hand", .str x1, .str x2, .str x3, .str x4, du]) := .tup (.inl upd_same) (.cons (.str _) (.cons (.str _) (.cons (.str _) (.cons (.str _) (.cons (.str _) (.cons (hvu9.fut (.of_same st_t4)) .nil))))))
  have hA := hA.fut (.of_same (mu := fun a => mu a ∨ a = S) st_t4)
  have hvu9 := hvu9.fut (.of_same (mu := fun a => mu a ∨ a = S) st_t4)
  have hd_t3 := hd_t3.fut (.of_same (mu := fun a => mu a ∨ a = S) st_t4)
  have R9 := R9.same st_t4
  have hS := st_t4 _ _ hS
  revert hd_t4 hA hvu9 hd_t3 R9 hS
  generalize upd H10 t4 (.tup [.str "hand", .str x1, .str x2, .str x3, .str x4, vu]) = H11
  intro hd_t4 hA hvu9 hd_t3 R9 hS
  clear st_t4 n4
  refine ⟨by show 2 ≤ sizeLine; decide, fun L1 n_L1 => ?_⟩
  have sL_L1 := same_upd (o := .lst [.ref t3, .ref t4]) n_L1
  have hS' := sL_L1 _ _ hS
  refine ⟨S, L1, _, _, rfl, rfl, hS', upd_same, by show 2 + 2 ≤ sizeLine; decide, ?_⟩
  have fS : Fut (fun a => mu a ∨ a = S) (upd H11 L1 (.lst [.ref t3, .ref t4])) (upd (upd H11 L1 (.lst [.ref t3, .ref t4])) S (.lst ([.ref t1, .ref t2] ++ [.ref t3, .ref t4]))) := (fut_at hS').mono fun a z => .inr z
  have fL : Fut (fun a => mu a ∨ a = S) H11 (upd (upd H11 L1 (.lst [.ref t3, .ref t4])) S (.lst ([.ref t1, .ref t2] ++ [.ref t3, .ref t4]))) := (Fut.of_same sL_L1).trans fS
  have hA := (hA.fut fL).append (.cons (hd_t3.fut fL) (.cons (hd_t4.fut fL) .nil))
  have hvu9 := hvu9.fut fL
  have R9 := (R9.same sL_L1).at (o := .lst ([.ref t1, .ref t2] ++ [.ref t3, .ref t4])) R08.bag nS
  have hS2 : (upd (upd H11 L1 (.lst [.ref t3, .ref t4])) S (.lst ([.ref t1, .ref t2] ++ [.ref t3, .ref t4]))) S = some (.lst ([.ref t1, .ref t2] ++ [.ref t3, .ref t4])) := upd_same
  clear hS' hS
  revert hA hvu9 R9 hS2
  generalize upd (upd H11 L1 (.lst [.ref t3, .ref t4])) S (.lst ([.ref t1, .ref t2] ++ [.ref t3, .ref t4])) = H12
  intro hA hvu9 R9 hS
  clear fS fL sL_L1 n_L1 hd_t3 hd_t4
  -- back
  refine ⟨_, rfl, .inl ⟨rfl, _, .inl (.inl hS)⟩, ?_⟩
  refine ⟨_, rfl, _, rfl, _, rfl, _, rfl, ?_⟩
  refine ⟨by show 5 ≤ sizeLine; decide, fun t5 n5 => ?_⟩
  have st_t5 := same_upd (o := .tup [.str "back", .str x1, .str x2, .str x3, vu]) n5
  have hd_t5 : Dt K (fun a => mu a ∨ a = S) (upd H12 t5 (.tup [.str "back", .str x1, .str x2, .str x3, vu])) (.ref t5) (.tuple [.str "back", .str x1, .str x2, .str x3, du]) := .tup (.inl upd_same) (.cons (.str _) (.cons (.str _) (.cons (.str _) (.cons (.str _) (.cons (hvu9.fut (.of_same st_t5)) .nil)))))
  have hA := hA.fut (.of_same (mu := fun a => mu a ∨ a = S) st_t5)
  have hvu9 := hvu9.fut (.of_same (mu := fun a => mu a ∨ a = S) st_t5)
  have R9 := R9.same st_t5
  have hS := st_t5 _ _ hS
  revert hd_t5 hA hvu9 R9 hS
  generalize upd H12 t5 (.tup [.str "back", .str x1, .str x2, .str x3, vu]) = H13
  intro hd_t5 hA hvu9 R9 hS
  clear st_t5 n5
  refine ⟨S, _, _, rfl, rfl, hS, by show 4 < sizeLine; decide, ?_⟩
  have fS : Fut (fun a => mu a ∨ a = S) H13 (upd H13 S (.lst (([.ref t1, .ref t2] ++ [.ref t3, .ref t4]) ++ [.ref t5]))) := (fut_at hS).mono fun a z => .inr z
  have hA := (hA.fut fS).append (.cons (hd_t5.fut fS) .nil)
  have hvu9 := hvu9.fut fS
  have R9 := R9.at (o := .lst (([.ref t1, .ref t2] ++ [.ref t3, .ref t4]) ++ [.ref t5])) R08.bag nS
  have hS2 : (upd H13 S (.lst (([.ref t1, .ref t2] ++ [.ref t3, .ref t4]) ++ [.ref t5]))) S = some (.lst (([.ref t1, .ref t2] ++ [.ref t3, .ref t4]) ++ [.ref t5])) := upd_same
  clear hS
  revert hA hvu9 R9 hS2
  generalize upd H13 S (.lst (([.ref t1, .ref t2] ++ [.ref t3, .ref t4]) ++ [.ref t5])) = H14
  intro hA hvu9 R9 hS
  clear fS hd_t5
  have mS : ∀ {G : Hp} {ws : List V}, G S = some (.lst ws) → Rel b H G → MuOk (fun a => mu a ∨ a = S) G := fun hG R a h => by
    rcases h with h | rfl
    · exact (hM.rel R) a h
    · exact .inl (by rw [hG]; exact fun z => nomatch z)
  -- every, times
  refine gv_some (K := K) (mu := fun a => mu a ∨ a = S) (D := fun d => ∃ j : Int, d = .int j ∧ 1 ≤ j ∧ j ≤ 3000) (n := 3) (.inl hmu) rfl (gvA_cons (.inl hmu) (ge_int.gv ⟨1, rfl, by decide, by decide⟩) (gvA_cons (.inl hmu) (ge_int.gv ⟨3000, rfl, by decide, by decide⟩) (gvA_cons (.inl hmu) (ge_int.gv ⟨30, rfl, by decide, by decide⟩) gvA_nil))) (by decide) (by decide) H14 (.refl (R08.trans R9).bag) (mS hS (R08.trans R9)) _ fun v_ev H15 d_ev hd_ev R_ev hv_ev _ => ?_
  obtain ⟨ev, rfl, ev0, ev1⟩ := hd_ev
  cases hv_ev
  have f_ev : Fut (fun a => mu a ∨ a = S) H14 H15 := R_ev.fut (.inl hmu) R9.bag
  have hA := hA.fut f_ev
  have hvu9 := hvu9.fut f_ev
  have hS := R_ev.keep _ _ nSb hS
  have R9 := R9.trans R_ev
  refine gv_some (K := K) (mu := fun a => mu a ∨ a = S) (D := fun d => ∃ j : Int, d = .int j ∧ 1 ≤ j ∧ j ≤ 60) (n := 3) (.inl hmu) rfl (gvA_cons (.inl hmu) (ge_int.gv ⟨1, rfl, by decide, by decide⟩) (gvA_cons (.inl hmu) (ge_int.gv ⟨60, rfl, by decide, by decide⟩) (gvA_cons (.inl hmu) (ge_int.gv ⟨4, rfl, by decide, by decide⟩) gvA_nil))) (by decide) (by decide) H15 (.refl (R08.trans R9).bag) (mS hS (R08.trans R9)) _ fun v_ti H16 d_ti hd_ti R_ti hv_ti _ => ?_
  obtain ⟨ti, rfl, ti0, ti1⟩ := hd_ti
  cases hv_ti
  have f_ti : Fut (fun a => mu a ∨ a = S) H15 H16 := R_ti.fut (.inl hmu) R9.bag
  have hA := hA.fut f_ti
  have hvu9 := hvu9.fut f_ti
  have hS := R_ti.keep _ _ nSb hS
  have R9 := R9.trans R_ti
  refine ⟨_, _, rfl, ?_⟩
  have D7 : DeedD (.tuple [.str "grant", .str x1, .str x2, .str x3, du, .int ev, .int ti]) := by
    refine ⟨deed_ok (ks := ["name", "name", "name", "count", "every", "times"]) (by decide +kernel) rfl ?_, ((sd_w (p := 0) (by simp)).consE' (((sd_nm (p := 0) m1).consE' (((sd_nm (p := 0) m2).consE' (((sd_nm (p := 0) m3).consE' ((su.1.consE' (((sd_int (p := 0) (k := 12) (by omega) (by decide)).consE' ((sd_int (p := 0) (k := 6) (by omega) (by decide)).one)))))))))))).tup.mono (by decide) (by decide), _, rfl⟩
    simp [ptsD, i1, i2, i3, iu, p_every, p_times, isIn, ev0, ev1, ti0, ti1]
  refine ⟨_, rfl, .inl ⟨rfl, _, .inl (.inl hS)⟩, ?_⟩
  refine ⟨_, rfl, _, rfl, _, rfl, ?_⟩
  refine ⟨by show 4 ≤ sizeLine; decide, fun t6 n6 => ?_⟩
  have st_t6 := same_upd (o := .tup [.str "split", .str x1, .str x2, vu]) n6
  have hd_t6 : Dt K (fun a => mu a ∨ a = S) (upd H16 t6 (.tup [.str "split", .str x1, .str x2, vu])) (.ref t6) (.tuple [.str "split", .str x1, .str x2, du]) := .tup (.inl upd_same) (.cons (.str _) (.cons (.str _) (.cons (.str _) (.cons (hvu9.fut (.of_same st_t6)) .nil))))
  have hA := hA.fut (.of_same (mu := fun a => mu a ∨ a = S) st_t6)
  have hvu9 := hvu9.fut (.of_same (mu := fun a => mu a ∨ a = S) st_t6)
  have R9 := R9.same st_t6
  have hS := st_t6 _ _ hS
  revert hd_t6 hA hvu9 R9 hS
  generalize upd H16 t6 (.tup [.str "split", .str x1, .str x2, vu]) = H17
  intro hd_t6 hA hvu9 R9 hS
  clear st_t6 n6
  refine ⟨_, rfl, _, rfl, _, rfl, _, rfl, _, rfl, _, rfl, ?_⟩
  refine ⟨by show 7 ≤ sizeLine; decide, fun t7 n7 => ?_⟩
  have st_t7 := same_upd (o := .tup [.str "grant", .str x1, .str x2, .str x3, vu, .int ev, .int ti]) n7
  have hd_t7 : Dt K (fun a => mu a ∨ a = S) (upd H17 t7 (.tup [.str "grant", .str x1, .str x2, .str x3, vu, .int ev, .int ti])) (.ref t7) (.tuple [.str "grant", .str x1, .str x2, .str x3, du, .int ev, .int ti]) := .tup (.inl upd_same) (.cons (.str _) (.cons (.str _) (.cons (.str _) (.cons (.str _) (.cons (hvu9.fut (.of_same st_t7)) (.cons (.int _) (.cons (.int _) .nil)))))))
  have hA := hA.fut (.of_same (mu := fun a => mu a ∨ a = S) st_t7)
  have hvu9 := hvu9.fut (.of_same (mu := fun a => mu a ∨ a = S) st_t7)
  have hd_t6 := hd_t6.fut (.of_same (mu := fun a => mu a ∨ a = S) st_t7)
  have R9 := R9.same st_t7
  have hS := st_t7 _ _ hS
  revert hd_t7 hA hvu9 hd_t6 R9 hS
  generalize upd H17 t7 (.tup [.str "grant", .str x1, .str x2, .str x3, vu, .int ev, .int ti]) = H18
  intro hd_t7 hA hvu9 hd_t6 R9 hS
  clear st_t7 n7
  refine ⟨_, rfl, _, rfl, ?_⟩
  refine ⟨by show 3 ≤ sizeLine; decide, fun t8 n8 => ?_⟩
  have st_t8 := same_upd (o := .tup [.str "leave", .str x1, .str x2]) n8
  have hd_t8 : Dt K (fun a => mu a ∨ a = S) (upd H18 t8 (.tup [.str "leave", .str x1, .str x2])) (.ref t8) (.tuple [.str "leave", .str x1, .str x2]) := .tup (.inl upd_same) (.cons (.str _) (.cons (.str _) (.cons (.str _) .nil)))
  have hA := hA.fut (.of_same (mu := fun a => mu a ∨ a = S) st_t8)
  have hvu9 := hvu9.fut (.of_same (mu := fun a => mu a ∨ a = S) st_t8)
  have hd_t6 := hd_t6.fut (.of_same (mu := fun a => mu a ∨ a = S) st_t8)
  have hd_t7 := hd_t7.fut (.of_same (mu := fun a => mu a ∨ a = S) st_t8)
  have R9 := R9.same st_t8
  have hS := st_t8 _ _ hS
  revert hd_t8 hA hvu9 hd_t6 hd_t7 R9 hS
  generalize upd H18 t8 (.tup [.str "leave", .str x1, .str x2]) = H19
  intro hd_t8 hA hvu9 hd_t6 hd_t7 R9 hS
  clear st_t8 n8
  refine ⟨by show 3 ≤ sizeLine; decide, fun L2 n_L2 => ?_⟩
  have sL_L2 := same_upd (o := .lst [.ref t6, .ref t7, .ref t8]) n_L2
  have hS' := sL_L2 _ _ hS
  refine ⟨S, L2, _, _, rfl, rfl, hS', upd_same, by show 5 + 3 ≤ sizeLine; decide, ?_⟩
  have fS : Fut (fun a => mu a ∨ a = S) (upd H19 L2 (.lst [.ref t6, .ref t7, .ref t8])) (upd (upd H19 L2 (.lst [.ref t6, .ref t7, .ref t8])) S (.lst ((([.ref t1, .ref t2] ++ [.ref t3, .ref t4]) ++ [.ref t5]) ++ [.ref t6, .ref t7, .ref t8]))) := (fut_at hS').mono fun a z => .inr z
  have fL : Fut (fun a => mu a ∨ a = S) H19 (upd (upd H19 L2 (.lst [.ref t6, .ref t7, .ref t8])) S (.lst ((([.ref t1, .ref t2] ++ [.ref t3, .ref t4]) ++ [.ref t5]) ++ [.ref t6, .ref t7, .ref t8]))) := (Fut.of_same sL_L2).trans fS
  have hA := (hA.fut fL).append (.cons (hd_t6.fut fL) (.cons (hd_t7.fut fL) (.cons (hd_t8.fut fL) .nil)))
  have hvu9 := hvu9.fut fL
  have R9 := (R9.same sL_L2).at (o := .lst ((([.ref t1, .ref t2] ++ [.ref t3, .ref t4]) ++ [.ref t5]) ++ [.ref t6, .ref t7, .ref t8])) R08.bag nS
  have hS2 : (upd (upd H19 L2 (.lst [.ref t6, .ref t7, .ref t8])) S (.lst ((([.ref t1, .ref t2] ++ [.ref t3, .ref t4]) ++ [.ref t5]) ++ [.ref t6, .ref t7, .ref t8]))) S = some (.lst ((([.ref t1, .ref t2] ++ [.ref t3, .ref t4]) ++ [.ref t5]) ++ [.ref t6, .ref t7, .ref t8])) := upd_same
  clear hS' hS
  revert hA hvu9 R9 hS2
  generalize upd (upd H19 L2 (.lst [.ref t6, .ref t7, .ref t8])) S (.lst ((([.ref t1, .ref t2] ++ [.ref t3, .ref t4]) ++ [.ref t5]) ++ [.ref t6, .ref t7, .ref t8])) = H20
  intro hA hvu9 R9 hS
  clear fS fL sL_L2 n_L2 hd_t6 hd_t7 hd_t8
  refine ⟨_, rfl, _, rfl, _, rfl, S, _, 1, .ref t2, rfl, rfl, .inl (.inl hS), atI_nat (j := 1) rfl, ?_⟩
  refine gv_some (K := K) (mu := fun a => mu a ∨ a = S) (D := fun d => ∃ j : Int, d = .int j ∧ 0 ≤ j ∧ j ≤ 1000000000) (n := 3) (.inl hmu) rfl (gvA_cons (.inl hmu) (ge_int.gv ⟨0, rfl, by decide, by decide⟩) (gvA_cons (.inl hmu) (ge_int.gv ⟨7, rfl, by decide, by decide⟩)
    (gvA_cons (.inl hmu) (fun H r m Q q => ⟨_, _, rfl, rfl, ⟨by decide, by decide, by decide⟩, q _ H (.int (10 ^ 9)) ⟨_, rfl, by decide, by decide⟩ (.refl r.bag) (.int _) (own_not fun _ z => nomatch z)⟩) gvA_nil))) (by decide) (by decide) H20 (.refl (R08.trans R9).bag) (mS hS (R08.trans R9)) _ fun v_s H21 d_s hd_s R_s hv_s _ => ?_
  obtain ⟨si, rfl, si0, si1⟩ := hd_s
  cases hv_s
  have f_s : Fut (fun a => mu a ∨ a = S) H20 H21 := R_s.fut (.inl hmu) R9.bag
  have hA := hA.fut f_s
  have hS := R_s.keep _ _ nSb hS
  have R9 := R9.trans R_s
  have D9 : DeedD (.tuple [.str "strike", .int si]) := by
    refine ⟨deed_ok (ks := ["index"]) (by decide +kernel) rfl ?_, ((sd_w (p := 0) (by simp)).consE' ((sd_int (p := 0) (k := 30) (by omega) (by decide)).one)).tup.mono (by decide) (by decide), _, rfl⟩
    simp [ptsD, p_index, isGe, si0]
  refine ⟨by show 2 ≤ sizeLine; decide, fun t9 n9 => ⟨by show 2 ≤ sizeLine; decide, fun L3 nL3 => ?_⟩⟩
  have st9 := same_upd (o := .tup [.str "strike", .int si]) n9
  have sL3 := same_upd (o := .lst [.ref t2, .ref t9]) nL3
  have h9 : Dt K (fun a => mu a ∨ a = S) (upd H21 t9 (.tup [.str "strike", .int si])) (.ref t9) (.tuple [.str "strike", .int si]) := .tup (.inl upd_same) (.cons (.str _) (.cons (.int _) .nil))
  have h9 := h9.fut (.of_same (mu := fun a => mu a ∨ a = S) sL3)
  have hA := hA.fut (.of_same (mu := fun a => mu a ∨ a = S) (st9.trans sL3))
  have hS := (st9.trans sL3) _ _ hS
  have R9 := R9.same (st9.trans sL3)
  have hL3 : (upd (upd H21 t9 (.tup [.str "strike", .int si])) L3 (.lst [.ref t2, .ref t9])) L3 = some (.lst [.ref t2, .ref t9]) := upd_same
  revert h9 hA hS R9 hL3
  generalize upd (upd H21 t9 (.tup [.str "strike", .int si])) L3 (.lst [.ref t2, .ref t9]) = H22
  intro h9 hA hS R9 hL3
  refine ⟨S, L3, _, _, rfl, rfl, hS, hL3, by show 8 + 2 ≤ sizeLine; decide, fun M nM => ?_⟩
  obtain ⟨dt2, hdt2, h2b⟩ := hA.get (i := 1) (v := .ref t2) rfl
  cases hdt2
  have sM := same_upd (o := .lst (((([.ref t1, .ref t2] ++ [.ref t3, .ref t4]) ++ [.ref t5]) ++ [.ref t6, .ref t7, .ref t8]) ++ [.ref t2, .ref t9])) nM
  have nMb : M ≠ b := fun z => by
    obtain ⟨_, _, _, _, _, q, _⟩ := R9.bag
    rw [z, q] at nM
    cases nM
  have hB := (hA.append (.cons h2b (.cons h9 .nil))).less (mv := mu) fun a z => .inl z
  have R10 := (R08.trans R9).same sM
  refine ⟨b, M, _, rfl, R10.bag, nMb, upd_same, by show 0 < 10; decide, by show 10 ≤ 1000; decide, fun ix v H23 hv R23 => ?_⟩
  obtain ⟨dd, hdd, hvd⟩ := (hB.fut (.of_same (mu := mu) sM)).get hv
  refine k v H23 dd ?_ (R10.trans R23) (hvd.fut (R23.fut hmu R10.bag))
  have hm := List.mem_of_getElem? hdd
  simp only [List.mem_append, List.mem_cons, List.not_mem_nil, or_false] at hm
  rcases hm with (((((hm | hm) | hm | hm) | hm) | hm | hm | hm) | hm | hm) <;> rw [hm] <;> assumption
end
end K16
namespace K16
open PySem PySem.Spec PyProof.Rows L2 Sw StX RZ
/-- a datum of a size, without dicts -/
structure Sv (p w : Nat) (d : PyData) : Prop where
  ok : okD d = true
  nd : d.hasDict = false
  dp : d.depth ≤ p
  wt : d.weight ≤ w
theorem Sv.mono {p w p' w' : Nat} {d : PyData} (h : Sv p w d) (hp : p ≤ p') (hw : w ≤ w') : Sv p' w' d := ⟨h.ok, h.nd, Nat.le_trans h.dp hp, Nat.le_trans h.wt hw⟩
/-- items: together at most w heavy -/
structure SvA (p w : Nat) (ds : List PyData) : Prop where
  ok : okA ds = true
  nd : PyData.hasDictAll ds = false
  dp : PyData.depthAll ds ≤ p
  wt : PyData.weightAll ds ≤ w
theorem SvA.nil {p w : Nat} : SvA p w [] := ⟨rfl, rfl, Nat.zero_le _, Nat.zero_le _⟩
theorem SvA.cons {p w1 w2 w : Nat} {d : PyData} {ds : List PyData} (h : Sv p w1 d) (t : SvA p w2 ds) (hw : w1 + 1 + w2 ≤ w) : SvA p w (d :: ds) := by
  refine ⟨by simp only [okA, h.ok, t.ok, Bool.and_self], by simp only [PyData.hasDictAll, h.nd, t.nd, Bool.or_self], ?_, ?_⟩
  · have a := h.dp
    have b := t.dp
    simp only [PyData.depthAll]
    omega
  · have a := h.wt
    have b := t.wt
    simp only [PyData.weightAll]
    omega
theorem SvA.tup {p w : Nat} {ds : List PyData} (h : SvA p w ds) : Sv (p + 1) w (.tuple ds) :=
  ⟨by simp only [okD]; exact h.ok, by simp only [PyData.hasDict]; exact h.nd, by simp only [PyData.depth]; have := h.dp; omega, by simp only [PyData.weight]; exact h.wt⟩
theorem SvA.all {p w1 m : Nat} : ∀ {ds : List PyData}, (∀ d ∈ ds, Sv p w1 d) → ds.length ≤ m → SvA p ((w1 + 1) * m) ds
  | [], _, _ => .nil
  | d :: ds, h, hl => by
    cases m with
    | zero => simp at hl
    | succ m =>
      rw [Nat.mul_succ]
      exact .cons (h d List.mem_cons_self) (SvA.all (m := m) (fun x hx => h x (List.mem_cons_of_mem _ hx)) (by simpa using hl)) (by omega)
theorem call_dictPN {X : Cx} (hcalm : X.calm = true) : CallR X (.type "dict") (fun xs H Q => ∃ (a : Addr) (ps : List Addr) (kvs : List (Key × V)), xs = [.ref a] ∧ SqL X.K H a (ps.map V.ref) ∧ Paired (fun p kv => SqT X.K H p [kV kv.1, kv.2]) ps kvs ∧
    ∀ p, H p = none → p ≠ sysModules → Q (.ref p) (upd H p (.dK (mergeK [] kvs)))) := by
  intro pins s σ H xs us Q I r q
  obtain ⟨a, ps, kvs, ex, hq, hp, q⟩ := q
  refine thn (call_dictP hcalm pins s σ H xs us (fun v H' => ∃ p, v = .ref p ∧ H p = none ∧ H' = upd H p (.dK (mergeK [] kvs))) I r ⟨a, ps, kvs, ex, hq, hp, fun p np => ⟨p, rfl, np, rfl⟩⟩) fun v s1 ⟨x, H1, I1, r1, p, e1, np, e2⟩ => ?_
  subst e1 e2
  obtain ⟨_, ne, _⟩ := dk_of I1.hok (upd_same (H := H) (a := p) (o := .dK (mergeK [] kvs)))
  exact ⟨.ref p, _, I1, r1, q p np (fun z => by rw [z] at ne; simp at ne)⟩
/-- a datum of a size -/
structure Od (p w : Nat) (d : PyData) : Prop where
  ok : okD d = true
  dp : d.depth ≤ p
  wt : d.weight ≤ w
abbrev mF (b : Addr) : Addr → Prop := fun a => a = b ∨ a = sysModules
/-- a thing with no dict (and lists), or one with no list (and dicts) -/
def Vd (K : PySem.W.Frag) (b : Addr) (H : Hp) (v : V) (d : PyData) : Prop := (d.hasDict = false ∧ Dt K (fun a => a = b) H v d) ∨ Dt K (mF b) H v d
def spValue (K : PySem.W.Frag) (n : Nat) : Sp := fun vs H Q _ => ∃ (b : Addr) (mu : Addr → Prop), vs = [.ref b, .int n] ∧ mu b ∧ BagAt H b ∧ MuOk mu H ∧ (∀ v H' d, Sv 1 130 d → Rel b H H' → Dt K mu H' v d → Q v H') ∧ (n = 1 → ∀ v H' d, Od 2 402 d → Rel b H H' → Vd K b H' v d → Q v H')
theorem sd_dec (d : PyData) : Sv 1 130 d ↔ (okD d = true ∧ d.hasDict = false ∧ d.depth ≤ 1 ∧ d.weight ≤ 130) := ⟨fun h => ⟨h.ok, h.nd, h.dp, h.wt⟩, fun h => ⟨h.1, h.2.1, h.2.2.1, h.2.2.2⟩⟩
instance (d : PyData) : Decidable (Sv 1 130 d) := decidable_of_iff _ (sd_dec d).symm
theorem SvA.lst {p w : Nat} {ds : List PyData} (h : SvA p w ds) : Sv (p + 1) w (.list ds) :=
  ⟨by simp only [okD]; exact h.ok, by simp only [PyData.hasDict]; exact h.nd, by simp only [PyData.depth]; have := h.dp; omega, by simp only [PyData.weight]; exact h.wt⟩
theorem Sv.od {p w : Nat} {d : PyData} (h : Sv p w d) : Od p w d := ⟨h.ok, h.dp, h.wt⟩
theorem Od.mono {p w p' w' : Nat} {d : PyData} (h : Od p w d) (hp : p ≤ p') (hw : w ≤ w') : Od p' w' d := ⟨h.ok, Nat.le_trans h.dp hp, Nat.le_trans h.wt hw⟩
theorem dtk_map {K : PySem.W.Frag} {mu : Addr → Prop} {H : Hp} {G : PyData × PyData → Prop} {k : Key} {v : V} {d : PyData} (hv : Dt K mu H v d) (gd : G (keyD k, d)) : ∀ {kvs : List (Key × V)} {ds : List (PyData × PyData)}, DtK K mu H kvs ds → (∀ p ∈ ds, G p) → ∃ es, DtK K mu H (kvs.map fun kv => if kv.1 = k then (kv.1, v) else kv) es ∧ (∀ p ∈ es, G p) ∧ es.length = ds.length
  | _, _, .nil, _ => ⟨[], .nil, (fun _ h => nomatch h), rfl⟩
  | _, _, @DtK.cons _ _ _ k' v' kvs d' ds h t, g => by
    obtain ⟨es, h1, h2, h3⟩ := dtk_map hv gd t fun p hp => g p (List.mem_cons_of_mem _ hp)
    by_cases e : k' = k
    · subst e
      refine ⟨(keyD k', d) :: es, ?_, fun p hp => ?_, by rw [List.length_cons, List.length_cons, h3]⟩
      · rw [List.map_cons, if_pos rfl]
        exact .cons hv h1
      · rcases List.mem_cons.mp hp with rfl | hp
        · exact gd
        · exact h2 p hp
    · refine ⟨(keyD k', d') :: es, ?_, fun p hp => ?_, by rw [List.length_cons, List.length_cons, h3]⟩
      · rw [List.map_cons, if_neg e]
        exact .cons h h1
      · rcases List.mem_cons.mp hp with rfl | hp
        · exact g _ List.mem_cons_self
        · exact h2 p hp
theorem dtk_app {K : PySem.W.Frag} {mu : Addr → Prop} {H : Hp} {k : Key} {v : V} {d : PyData} (hv : Dt K mu H v d) : ∀ {kvs : List (Key × V)} {ds : List (PyData × PyData)}, DtK K mu H kvs ds → DtK K mu H (kvs ++ [(k, v)]) (ds ++ [(keyD k, d)])
  | _, _, .nil => .cons hv .nil
  | _, _, .cons h t => .cons h (dtk_app hv t)
theorem dtk_merge {K : PySem.W.Frag} {mu : Addr → Prop} {H : Hp} {G : PyData × PyData → Prop} : ∀ {more : List (Key × V)}, (∀ p ∈ more, ∃ d, Dt K mu H p.2 d ∧ G (keyD p.1, d)) → ∀ {kvs : List (Key × V)} {ds : List (PyData × PyData)}, DtK K mu H kvs ds → (∀ p ∈ ds, G p) → ∃ es, DtK K mu H (mergeK kvs more) es ∧ (∀ p ∈ es, G p) ∧ es.length ≤ ds.length + more.length
  | [], _, kvs, ds, h, g => ⟨ds, h, g, Nat.le_refl _⟩
  | m :: more, hm, kvs, ds, h, g => by
    obtain ⟨d, hv, gd⟩ := hm m List.mem_cons_self
    have step : ∃ es, DtK K mu H (putK kvs m.1 m.2) es ∧ (∀ p ∈ es, G p) ∧ es.length ≤ ds.length + 1 := by
      unfold putK
      split
      · obtain ⟨es, h1, h2, h3⟩ := dtk_map (k := m.1) hv gd h g
        exact ⟨es, h1, h2, by omega⟩
      · refine ⟨_, dtk_app hv h, fun p hp => ?_, by rw [List.length_append]; exact Nat.le_refl _⟩
        rcases List.mem_append.mp hp with hp | hp
        · exact g p hp
        · rw [List.mem_singleton.mp hp]
          exact gd
    obtain ⟨es, h1, h2, h3⟩ := step
    obtain ⟨fs, h4, h5, h6⟩ := dtk_merge (fun p hp => hm p (List.mem_cons_of_mem _ hp)) h1 h2
    exact ⟨fs, h4, h5, by rw [List.length_cons]; omega⟩
theorem od_dict {p w m : Nat} : ∀ {ds : List (PyData × PyData)}, (∀ q ∈ ds, Od p 2 q.1 ∧ Od p w q.2) → ds.length ≤ m → okK ds = true ∧ PyData.depthKv ds ≤ p ∧ PyData.weightKv ds ≤ (w + 4) * m
  | [], _, _ => ⟨rfl, Nat.zero_le _, Nat.zero_le _⟩
  | (a, c) :: ds, h, hl => by
    cases m with
    | zero => simp at hl
    | succ m =>
      obtain ⟨h1, h2⟩ := h (a, c) List.mem_cons_self
      obtain ⟨i1, i2, i3⟩ := od_dict (m := m) (fun q hq => h q (List.mem_cons_of_mem _ hq)) (by simpa using hl)
      have a1 : a.weight ≤ 2 := h1.wt
      have a2 : c.weight ≤ w := h2.wt
      have a3 : a.depth ≤ p := h1.dp
      have a4 : c.depth ≤ p := h2.dp
      refine ⟨by have e1 : okD a = true := h1.ok; have e2 : okD c = true := h2.ok; simp only [okK, e1, e2, i1, Bool.and_self], by simp only [PyData.depthKv]; omega, ?_⟩
      simp only [PyData.weightKv]
      rw [Nat.mul_succ]
      omega
theorem dtk_less {K : PySem.W.Frag} {mu mv : Addr → Prop} {H : Hp} (f : ∀ a, mv a → mu a) {kvs : List (Key × V)} {ds : List (PyData × PyData)} (h : DtK K mu H kvs ds) : DtK K mv H kvs ds := DtK.less f h
theorem seqT_futL {K : PySem.W.Frag} {mu : Addr → Prop} {H H' : Hp} {a : Addr} {xs : List V} (h : SqT K H a xs) (f : Fut mu H H') : SqT K H' a xs := by
  rcases h with (r | ⟨o, r⟩) | r
  · exact .inl (.inl (f _ _ r (.inr (.inl ⟨_, rfl⟩))))
  · exact .inl (.inr ⟨o, f _ _ r (.inr (.inr ⟨_, _, rfl⟩))⟩)
  · exact .inr r
theorem pair_snoc {α β : Type} {R R' : α → β → Prop} (hR : ∀ a b, R a b → R' a b) {x : α} {y : β} (h : R' x y) : ∀ {l : List α} {m : List β}, Paired R l m → Paired R' (l ++ [x]) (m ++ [y])
  | _, _, .nil => .cons h .nil
  | _, _, .cons a t => .cons (hR _ _ a) (pair_snoc hR h t)
theorem key_ok : ∀ i : Nat, i < 3 → PyData.strOk ("k" ++ Str.ofString (toString (i : Int))) = true ∧ ("k" ++ Str.ofString (toString (i : Int)) : Str).length ≤ 2 := by
  intro i hi
  match i, hi with
  | 0, _ => decide +kernel
  | 1, _ => decide +kernel
  | 2, _ => decide +kernel
section
variable {P : Program} {w : World} {K : PySem.W.Frag} {mg : Str → Option Value} {base : Heap}
abbrev s_law_value : Stmt := topS 41
theorem sc__law_value : FnScope ["bag", "deep", "way", "things", "k", "one"] ["bag", "deep"] (defScope s_law_value) := ⟨rfl, rfl, rfl, by decide +kernel, rfl, by decide +kernel, by decide +kernel⟩
theorem ok__law_value {f : Addr} {fd : FuncData} {j n : Nat} {sp : Sp} (hj : 3 ≤ j) (hn1 : n ≤ 1) (hsp : n = 0 ∨ sp = spValue K 0) (F : Fun K "_law_value" "_law_value" s_law_value f fd) (B : Bt mg) (c__law_take : CalG P w K mg base 1 "_law_take" spTake) (c__law_some : CalG P w K mg base 2 "_law_some" spSome) (c__law_value : CalG P w K mg base j "_law_value" sp) : FnG P w K mg base (j + 1) f fd ["bag", "deep"] (spValue K n) := by
  refine Fun.okG F sc__law_value (fun vs H Q E h => ?_) (fun cdv A outer s H vs Q E hg hr h => ?_)
  · obtain ⟨_, _, rfl, _⟩ := h
    rfl
  obtain ⟨b, mu, rfl, hmu, hb, hM, k, k2⟩ := h
  have hu := Room.u64 hr
  refine ⟨_, (pss_cons (ps_set (i := 2) sc__law_value.nd rfl (Or.inl rfl) (pc c__law_take hg hr (by omega) (by rfl) (pa_cons (pv 0) (pa_cons (pe_ifExp (pt_cmpR op_gt (pv 1) pe_int (nomark _)) pe_int pe_int) pa_nil))))
    (pss_cons (ps_if (pt_cmpR op_lt (pv 2) pe_int (nomark _))
      (pss_one (ps_ret (pc c__law_some hg hr (by omega) (by rfl) (pa_cons (pv 0) (pa_cons (pe_lst (pa_cons pe_int (pa_cons pe_int (pa_cons (pe_un un_neg pe_int) (pa_cons pe_int (pa_cons pe_int (pa_cons pe_int (pa_cons (pe_op op_pow pe_int pe_int) pa_nil)))))))) pa_nil)))))
      pss_nil)
    (pss_cons (ps_if (pt_cmpR op_lt (pv 2) pe_int (nomark _))
      (pss_one (ps_ret (pc c__law_some hg hr (by omega) (by rfl) (pa_cons (pv 0) (pa_cons (pe_lst (pa_cons pe_non (pa_cons pe_bl (pa_cons pe_str (pa_cons pe_str (pa_cons pe_str (pa_cons pe_str (pa_cons pe_str (pa_cons (pe_tup (pa_cons pe_int (pa_cons pe_int pa_nil))) (pa_cons (pe_tup (pa_cons pe_int (pa_cons pe_int pa_nil))) (pa_cons (pe_tup (pa_cons pe_int (pa_cons pe_int pa_nil))) (pa_cons (pe_tup (pa_cons pe_int (pa_cons pe_int pa_nil))) (pa_cons (pe_tup pa_nil) pa_nil))))))))))))) pa_nil)))))
      pss_nil)
    (pss_cons (ps_setLc (i := 3) (own := [("k", 4)]) rfl sc__law_value.nd rfl rfl (sw_true rfl rfl rfl (by decide +kernel)) (pi_range1 (by rfl) B.range (pa_cons (pc c__law_take hg hr (by omega) (by rfl) (pa_cons (pv 0) (pa_cons pe_int pa_nil))) pa_nil)) (blkOk_by (own := [("k", 4)]) (N := ["bag", "deep", "way", "things", "k", "one"]) (sc := (defScope s_law_value)) (by decide +kernel)) (fun _ _ _ _ _ => (pg_name (i := 4) sc__law_value.nd rfl (Or.inl rfl))) (fun _ _ _ _ _ => pts_nil) (fun _ _ _ _ _ => (pc c__law_value hg hr (by omega) (by rfl) (pa_cons (pv 0) (pa_cons (pe_op op_sub (pv 1) pe_int) pa_nil)))))
    (pss_cons (ps_if (pt_cmpR op_lt (pv 2) pe_int (nomark _))
      (pss_one (ps_ret (pe_callTy call_tuple_of (by rfl) B.tuple bb_tuple (pa_cons (pv 3) pa_nil))))
      pss_nil)
    (pss_one (ps_ret (pe_ifExp (pt_cmpR op_eq (pv 2) pe_int (nomark _)) (pv 3) (pe_callTy (call_dictPN rfl) (by rfl) B.dict bb_dict (pa_cons (pe_lc (own := [("k", 4), ("one", 5)]) rfl sc__law_value.nd (pi_enum (by rfl) B.enum (pa_cons (pv 3) pa_nil)) (blkOk_by (own := [("k", 4), ("one", 5)]) (N := ["bag", "deep", "way", "things", "k", "one"]) (sc := (defScope s_law_value)) (by decide +kernel)) (fun _ _ _ _ _ => (pg_tupK (K := K) (hK := rfl) (n := 2) rfl (pgs_cons (pg_name (i := 4) sc__law_value.nd rfl (Or.inl rfl)) (pgs_cons (pg_name (i := 5) sc__law_value.nd rfl (Or.inl rfl)) pgs_nil)))) (fun _ _ _ _ _ => pts_nil) (fun _ _ _ _ _ => (pe_tup (pa_cons (pe_op op_add_str pe_str (pe_callTy call_str_int (by rfl) B.str bb_str (pa_cons (pv 4) pa_nil))) (pa_cons (pv 5) pa_nil))))) pa_nil)))))))))), ?_⟩
  have g2 : ∀ {σ : L2.St} {H0 : Hp} {x y : Int}, Sv 1 130 (.tuple [.int x, .int y]) → Gv K b mu σ H0 (tTup (tCons (tC (.int x)) (tCons (tC (.int y)) tNil))) (Sv 1 130) := fun {σ H0 x y} h => (ge_tup hmu (geA_cons hmu ge_int (geA_cons hmu ge_int geA_nil)) (show 2 ≤ 1000 by decide)).gv h
  refine ⟨_, rfl, _, rfl, _, _, rfl, rfl, _, rfl, ?_⟩
  refine iteP (fun hdp => ?_) fun hdp => ?_
  all_goals
    refine ⟨b, _, rfl, hb, by decide, by decide, fun way H1 w0 w1 R1 => ?_⟩
    have hb1 := R1.bag
    have M1 := hM.rel R1
    refine ⟨_, rfl, _, _, rfl, rfl, _, rfl, iteP (fun hw => ?_) fun hw => ?_⟩
    · refine gv_some (K := K) (mu := mu) (D := Sv 1 130) (n := 7) hmu rfl (gvA_cons hmu (ge_int.gv (by decide +kernel)) (gvA_cons hmu (ge_int.gv (by decide +kernel)) (gvA_cons hmu (ge_neg.gv (by decide +kernel)) (gvA_cons hmu (ge_int.gv (by decide +kernel)) (gvA_cons hmu (ge_int.gv (by decide +kernel)) (gvA_cons hmu (ge_int.gv (by decide +kernel))
        (gvA_cons hmu (fun H r m Q q => ⟨_, _, rfl, rfl, ⟨by decide, by decide, by decide⟩, q _ H (.int (10 ^ 39)) (by decide +kernel) (.refl r.bag) (.int _) (own_not fun _ z => nomatch z)⟩) gvA_nil))))))) (by decide) (by decide) H1 (.refl hb1) M1 _ fun v H2 d hd R2 hv _ => ?_
      exact k v H2 d hd (R1.trans R2) hv
    refine ⟨_, rfl, _, _, rfl, rfl, _, rfl, iteP (fun hw2 => ?_) fun hw2 => ?_⟩
    · refine gv_some (K := K) (mu := mu) (D := Sv 1 130) (n := 12) hmu rfl (gvA_cons hmu (ge_non.gv (by decide +kernel)) (gvA_cons hmu (ge_bl.gv (by decide +kernel)) (gvA_cons hmu (ge_str.gv (by decide +kernel)) (gvA_cons hmu (ge_str.gv (by decide +kernel)) (gvA_cons hmu (ge_str.gv (by decide +kernel)) (gvA_cons hmu (ge_str.gv (by decide +kernel)) (gvA_cons hmu (ge_str.gv (by decide +kernel))
        (gvA_cons hmu (g2 (by decide +kernel)) (gvA_cons hmu (g2 (by decide +kernel)) (gvA_cons hmu (g2 (by decide +kernel)) (gvA_cons hmu (g2 (by decide +kernel)) (gvA_cons hmu ((ge_tup hmu geA_nil (show 0 ≤ 1000 by decide)).gv (by decide +kernel)) gvA_nil)))))))))))) (by decide) (by decide) H1 (.refl hb1) M1 _ fun v H2 d hd R2 hv _ => ?_
      exact k v H2 d hd (R1.trans R2) hv
  · obtain rfl : n = 1 := by omega
    have hsp : sp = spValue K 0 := hsp.resolve_left (by decide)
    subst hsp
    refine ⟨_, rfl, b, 4, rfl, hb1, by decide, by decide, fun m H2 m0 m1 R2 => ⟨m, rfl, by omega, by omega, fun D nD => ?_⟩⟩
    have R12 := R1.trans R2
    have nDb : D ≠ b := fun z => by
      obtain ⟨_, _, _, _, _, q, _⟩ := R2.bag
      rw [z, q] at nD
      cases nD
    refine lc_it (walk_range (lo := 0) (n := m.toNat)) (fun i' H' => ∃ xs ds, H' D = some (.lst xs) ∧ DtA K (fun a => mF b a ∨ a = D) H' xs ds ∧ ds.length = i' ∧ (∀ d ∈ ds, Sv 1 130 d) ∧ Rel b H2 H') ⟨[], [], upd_same, .nil, rfl, (fun d h => nomatch h), Rel.of_same R2.bag (same_upd nD)⟩ (fun _ _ _ _ => True.intro) ?_ ?_
    · rintro i' x' H3 H4 hi' ⟨xs, ds, hD, hA, hlen, hcl, R3⟩ ⟨rfl, hx'⟩
      have mo : MuOk (fun a => mF b a ∨ a = D) H4 := fun a h => by
        rcases h with h | rfl
        · exact (MuOk.bag R3.bag) a h
        · exact .inl (by rw [hD]; exact fun z => nomatch z)
      refine ⟨rfl, _, rfl, _, rfl, _, _, rfl, rfl, b, (fun a => mF b a ∨ a = D), rfl, .inl (.inl rfl), R3.bag, mo, fun v4 H5 d4 hd4 R4 hv4 => ?_, fun e => absurd e (by decide)⟩
      have hD5 := R4.keep _ _ nDb hD
      have f1 : Fut (fun a => mF b a ∨ a = D) H4 H5 := R4.fut (.inl (.inl rfl)) R3.bag
      have f2 : Fut (fun a => mF b a ∨ a = D) H5 (upd H5 D (.lst (xs ++ [v4]))) := (fut_at hD5).mono fun a z => .inr z
      refine ⟨_, hD5, small1000 (by rw [hA.length]; omega), xs ++ [v4], ds ++ [d4], upd_same, ((hA.fut f1).fut f2).append (.cons (hv4.fut f2) .nil), by rw [List.length_append, hlen]; rfl, fun d hd => ?_, (R3.trans R4).at R2.bag nD⟩
      rcases List.mem_append.mp hd with hd | hd
      · exact hcl d hd
      · rw [List.mem_singleton.mp hd]
        exact hd4
    rintro H3 ⟨xs, ds, hD, hA, hlen, hcl, R3⟩
    have hl3 : ds.length ≤ 3 := by omega
    have hxl := hA.length
    have hs := SvA.all (p := 1) (w1 := 130) (m := 3) hcl hl3
    have R13 := R12.trans R3
    refine ⟨_, rfl, _, _, rfl, rfl, _, rfl, iteP (fun hw3 => ?_) fun hw3 => ?_⟩
    · refine ⟨_, rfl, D, xs, rfl, .inl ⟨.inl (.inl hD), fun l nl => ?_⟩⟩
      have sl := same_upd (o := .tup xs) nl
      exact k2 rfl (.ref l) _ (.tuple ds) (hs.tup.od.mono (by decide) (by decide)) (R13.same sl) (.inr (.tup (.inl upd_same) ((hA.less fun a z => .inl z).fut (.of_same sl))))
    refine ⟨_, rfl, rfl, _, rfl, iteEq (fun hw4 => ?_) fun hw4 => ?_⟩
    · exact ⟨_, rfl, k2 rfl (.ref D) _ (.list ds) (hs.lst.od.mono (by decide) (by decide)) R13 (.inl ⟨hs.lst.nd, .lst nDb (.inl hD) (hA.less fun a z => .inl (.inl z))⟩)⟩
    · have sl := sizeLine_eq
      refine ⟨_, rfl, D, xs, rfl, .inl (.inl hD), fun E' nE => lc_it (walk_enum (K := K) (a := D) (xs := xs)) (fun i H' => Same H3 H' ∧ ∃ (ps : List Addr) (kvs : List (Key × V)), H' E' = some (.lst (ps.map V.ref)) ∧ Paired (fun p kv => SqT K H' p [kV kv.1, kv.2]) ps kvs ∧ kvs.length = i ∧ ps.length = i ∧ ∀ q ∈ kvs, ∃ d, Dt K (fun a => mF b a ∨ a = D) H3 q.2 d ∧ Od 1 2 (keyD q.1) ∧ Od 1 130 d) ⟨same_upd nE, [], [], upd_same, .nil, rfl, rfl, fun q h => nomatch h⟩ (fun i H' _ h => h.1.seq (.inl (.inl hD))) ?_ ?_⟩
      · rintro i x H4 H5 hi ⟨sm, ps, kvs, hE, hp, hkl, hpl, hq⟩ ⟨T, x1, y1, rfl, nT, rfl, hx1, hy1⟩
        have hx1 : some (V.int (i : Nat)) = some x1 := hx1
        cases hx1
        have hy1 : xs[i]? = some y1 := hy1
        obtain ⟨e, he, hye⟩ := hA.get hy1
        obtain ⟨ko, kl⟩ := key_ok i (by omega)
        have TE' : T ≠ E' := fun z => by
          rw [z, hE] at nT
          cases nT
        have sT := same_upd (o := .tup [.int (i : Nat), y1]) nT
        refine ⟨T, _, rfl, .inl (.inl upd_same), rfl, _, _, rfl, _, _, rfl, rfl, rfl, ?_⟩
        have hE5 := sT _ _ hE
        have sm5 := sm.trans sT
        have hp5 : ∀ p (kv : Key × V), SqT K H4 p [kV kv.1, kv.2] → SqT K (upd H4 T (.tup [.int (i : Nat), y1])) p [kV kv.1, kv.2] := fun p kv z => sT.seqT z
        revert hE5 sm5 hp5
        generalize upd H4 T (.tup [.int (i : Nat), y1]) = H5
        intro hE5 sm5 hp5
        refine ⟨_, rfl, _, rfl, Nat.lt_of_le_of_lt (Nat.log2_le_self _) (by show ((i : Nat) : Int).natAbs < 1920; omega), _, _, rfl, rfl, by
          have e1 : ("k" ++ Str.ofString (toString (i : Int)) : Str).length = ("k" : Str).length + (Str.ofString (toString (i : Int))).length := by
            show (_ ++ _ : Array Nat).size = _
            rw [Array.size_append]
            rfl
          have kl2 := kl
          rw [e1] at kl2
          omega, _, rfl, by show 2 ≤ sizeLine; omega, fun p np => ?_⟩
        have sp2 := same_upd (o := .tup [.str ("k" ++ Str.ofString (toString (i : Int))), y1]) np
        have hE6 := sp2 _ _ hE5
        have fE : ∀ q zs, SqT K (upd H5 p (.tup [.str ("k" ++ Str.ofString (toString (i : Int))), y1])) q zs → SqT K (upd (upd H5 p (.tup [.str ("k" ++ Str.ofString (toString (i : Int))), y1])) E' (.lst (ps.map V.ref ++ [.ref p]))) q zs := fun q zs z => seqT_futL z (fut_at hE6)
        refine ⟨ps.map V.ref, hE6, small1000 (by rw [List.length_map]; omega), fun c o z => ?_, ps ++ [p], kvs ++ [(.inr ("k" ++ Str.ofString (toString (i : Int))), y1)], by rw [upd_same, List.map_append]; rfl, ?_, by rw [List.length_append, hkl]; rfl, by rw [List.length_append, hpl]; rfl, fun q hq2 => ?_⟩
        · rw [upd_ne (ne_of_none z nE)]
          exact sp2 _ _ (sm5 c o z)
        · exact pair_snoc (fun p2 kv z => fE _ _ (sp2.seqT (hp5 p2 kv z))) (fE _ _ (.of upd_same)) hp
        · rcases List.mem_append.mp hq2 with hq2 | hq2
          · exact hq q hq2
          · rw [List.mem_singleton.mp hq2]
            exact ⟨e, hye, (⟨by simp only [okD]; exact ko, by simp [PyData.depth], by simp only [PyData.weight]; exact kl⟩ : Od 1 2 (.str _)), (hcl e (List.mem_of_getElem? he)).od⟩
      · rintro H4 ⟨sm, ps, kvs, hE, hp, hkl, hpl, hq⟩
        refine ⟨E', ps, kvs, rfl, .inl (.inl hE), hp, fun p np ns => ?_⟩
        have sp2 := same_upd (o := .dK (mergeK [] kvs)) np
        obtain ⟨es, h1, h2, h3⟩ := dtk_merge (K := K) (mu := fun a => mF b a ∨ a = D) (H := upd H4 p (.dK (mergeK [] kvs))) (G := fun q => Od 1 2 q.1 ∧ Od 1 130 q.2) (more := kvs) (fun q hq2 => by
          obtain ⟨d, e1, e2, e3⟩ := hq q hq2
          exact ⟨d, e1.fut (.of_same (sm.trans sp2)), e2, e3⟩) (kvs := []) (ds := []) .nil (fun _ h => by cases h)
        have hxl2 : kvs.length ≤ 3 := by omega
        obtain ⟨o1, o2, o3⟩ := od_dict (p := 1) (w := 130) (m := 3) h2 (by rw [List.length_nil] at h3; omega)
        have npb : p ≠ b := fun z => by
          obtain ⟨_, _, _, _, _, q, _⟩ := R13.bag.same sm
          rw [z, q] at np
          cases np
        refine k2 rfl (.ref p) _ (.dict es) ⟨by simp only [okD]; exact o1, by simp only [PyData.depth]; omega, by simp only [PyData.weight]; omega⟩ ((R13.same sm).same sp2) (.inr (.dct (fun z => z.elim npb ns) (.inl upd_same) (dtk_less (fun a z => .inl z) h1)))
  · omega
end
end K16
namespace K16
open PySem PySem.Spec PyProof.Rows L2 Sw StX RZ
mutual
def unD : PyData → Int
  | .tuple xs => unA xs
  | .int i => if 0 ≤ i ∧ i ≤ 1 then 1 else 0
  | .none | .bool _ | .str _ | .list _ | .dict _ => 0
def unA : List PyData → Int
  | [] => 0
  | x :: xs => unD x + unA xs
end
mutual
theorem un_bd : ∀ d : PyData, 0 ≤ unD d ∧ unD d ≤ (d.weight : Int) + 1
  | .tuple xs => by
    have := unA_bd xs
    simp only [unD, PyData.weight]
    omega
  | .int i => by
    simp only [unD]
    split <;> omega
  | .none | .bool _ | .str _ | .list _ | .dict _ => by
    simp only [unD]
    omega
theorem unA_bd : ∀ ds : List PyData, 0 ≤ unA ds ∧ unA ds ≤ (PyData.weightAll ds : Int)
  | [] => by simp [unA, PyData.weightAll]
  | x :: xs => by
    have := un_bd x
    have := unA_bd xs
    simp only [unA, PyData.weightAll]
    omega
end
theorem unA_snoc (ds : List PyData) (e : PyData) : unA (ds ++ [e]) = unA ds + unD e := by
  induction ds with
  | nil => simp [unA]
  | cons d ds ih =>
    rw [List.cons_append]
    simp only [unA, ih]
    omega
def spUnits (K : PySem.W.Frag) (n : Nat) : Sp := fun vs H Q _ => ∃ (v : V) (mu : Addr → Prop) (d : PyData), vs = [v] ∧ Dt K mu H v d ∧ Ok d ∧ d.depth ≤ n ∧ ∀ H', Same H H' → Q (.int (unD d)) H'
/-- all but the list at l stays -/
structure LRel (l : Addr) (H H' : Hp) : Prop where
  keep : ∀ a o, a ≠ l → H a = some o → H' a = some o
  at_ : ∃ i : Int, H' l = some (.lst [.int i])
def noL : PyData → Bool
  | .list _ => false
  | _ => true
def spTruth (K : PySem.W.Frag) (n : Nat) : Sp := fun vs H Q _ => ∃ (v : V) (l : Addr) (i : Int) (mu : Addr → Prop) (d : PyData), vs = [v, .ref l] ∧ mu l ∧ H l = some (.lst [.int i]) ∧ MuOk mu H ∧ Dt K mu H v d ∧ Ok d ∧ d.hasDict = false ∧ d.depth ≤ n ∧
  ∀ v' H' d', LRel l H H' → Dt K mu H' v' d' → okD d' = true → d'.hasDict = false → d'.depth ≤ d.depth → d'.weight ≤ d.weight → Q v' H'
theorem okA_app : ∀ ds es : List PyData, okA (ds ++ es) = (okA ds && okA es)
  | [], es => by simp [okA]
  | d :: ds, es => by simp [okA, okA_app ds es, Bool.and_assoc]
theorem nd_app : ∀ ds es : List PyData, PyData.hasDictAll (ds ++ es) = (PyData.hasDictAll ds || PyData.hasDictAll es)
  | [], es => by simp [PyData.hasDictAll]
  | d :: ds, es => by simp [PyData.hasDictAll, nd_app ds es, Bool.or_assoc]
theorem dp_app : ∀ ds es : List PyData, PyData.depthAll (ds ++ es) = max (PyData.depthAll ds) (PyData.depthAll es)
  | [], es => by
    show PyData.depthAll es = max 0 (PyData.depthAll es)
    omega
  | d :: ds, es => by
    have := dp_app ds es
    simp only [List.cons_append, PyData.depthAll] at this ⊢
    omega
section
variable {P : Program} {w : World} {K : PySem.W.Frag} {mg : Str → Option Value} {base : Heap}
abbrev s_law_units_in : Stmt := topS 43
theorem sc__law_units_in : FnScope ["thing", "one"] ["thing"] (defScope s_law_units_in) := ⟨rfl, rfl, rfl, by decide +kernel, rfl, by decide +kernel, by decide +kernel⟩
theorem ok__law_units_in {f : Addr} {fd : FuncData} {j n : Nat} {sp : Sp} (hj : 3 ≤ j) (hsp : n = 0 ∨ ∃ m, n = m + 1 ∧ sp = spUnits K m) (F : Fun K "_law_units_in" "_law_units_in" s_law_units_in f fd) (B : Bt mg) (TS : mg "sum" = none) (c__law_is_int : CalG P w K mg base 1 "_law_is_int" (spP K isInt)) (c__law_units_in : CalG P w K mg base j "_law_units_in" sp) : FnG P w K mg base (j + 1) f fd ["thing"] (spUnits K n) := by
  refine Fun.okG F sc__law_units_in (fun vs H Q E h => ?_) (fun cdv A outer s H vs Q E hg hr h => ?_)
  · obtain ⟨_, _, _, rfl, _⟩ := h
    rfl
  obtain ⟨v, mu, d, rfl, hd, ho, hdp, k⟩ := h
  have hu := Room.u64 hr
  refine ⟨_, (pss_cons (ps_if (pt_val (pe_callB call_isD (by rfl) B.isin bb_isin (pa_cons (pv 0) (pa_cons (pe_bltn (v := .ty "tuple") rfl B.tuple bb_tuple rfl) pa_nil))))
      (pss_one (ps_ret (pe_callB (cr_sum rfl) (by rfl) TS bb_sum (pa_cons (pe_lc (own := [("one", 1)]) rfl sc__law_units_in.nd (pi_tup (pv 0)) (blkOk_by (own := [("one", 1)]) (N := ["thing", "one"]) (sc := (defScope s_law_units_in)) (by decide +kernel)) (fun _ _ _ _ _ => (pg_name (i := 1) sc__law_units_in.nd rfl (Or.inl rfl))) (fun _ _ _ _ _ => pts_nil) (fun _ _ _ _ _ => (pc c__law_units_in hg hr (by omega) (by rfl) (pa_cons (pv 1) pa_nil)))) pa_nil))))
      pss_nil)
    (pss_one (ps_ret (pe_callTy call_int1 (by rfl) B.int bb_int (pa_cons (pe_and (pc c__law_is_int hg hr (by omega) (by rfl) (pa_cons (pv 0) pa_nil)) (pe_one (pe_chain op_le op_le pe_int (pv 0) pe_int))) pa_nil))))), ?_⟩
  refine ⟨_, rfl, _, "tuple", mu, d, rfl, by decide, hd, _, rfl, iteB (fun ht => ?_) fun ht => ?_⟩
  · obtain ⟨ds, rfl⟩ := (isTup d).mp ht
    obtain ⟨a, xs, rfl, hS, hA⟩ := hd.tupAt
    have hl := hA.length
    have hdp2 : PyData.depthAll ds + 1 ≤ n := by
      have e : (PyData.tuple ds).depth = PyData.depthAll ds + 1 := by simp [PyData.depth]
      omega
    obtain ⟨m, rfl, rfl⟩ : ∃ m, n = m + 1 ∧ sp = spUnits K m := by
      rcases hsp with h | h
      · omega
      · exact h
    have hw := len_wt ds
    have hw2 : PyData.weightAll ds ≤ 27000 := ho.wt
    have ew : (PyData.tuple ds).weight = PyData.weightAll ds := by simp [PyData.weight]
    have sl := sizeLine_eq
    refine ⟨_, rfl, a, rfl, ⟨xs, hS⟩, fun D nD => lc_it (walk_tup (K := K) (xs := xs) (a := a)) (fun i H' => Same H H' ∧ ∃ us : List Int, H' D = some (.lst (us.map V.int)) ∧ us.length = i ∧ us.sum = unA (ds.take i)) ⟨same_upd nD, [], upd_same, rfl, by simp [unA]⟩ (fun i H' _ h => h.1.seqT hS) ?_ ?_⟩
    · rintro i x H1 H2 hi ⟨sm, us, hD, hul, h0⟩ ⟨rfl, hx⟩
      obtain ⟨e, he, hxe⟩ := hA.get hx
      have ed : e.depth ≤ m := by
        have := depth_mem (List.mem_of_getElem? he)
        omega
      have ht2 : ds.take (i + 1) = ds.take i ++ [e] := by
        rw [List.take_add_one, he]
        rfl
      refine ⟨rfl, _, rfl, x, mu, e, rfl, hxe.fut (.of_same sm), ho.inT (List.mem_of_getElem? he), ed, fun H3 s3 => ?_⟩
      refine ⟨us.map V.int, s3 _ _ hD, by rw [List.length_map]; omega, fun b o z => ?_, us ++ [unD e], by rw [upd_same, List.map_append]; rfl, by rw [List.length_append, hul]; rfl, ?_⟩
      · rw [upd_ne (ne_of_none z nD)]
        exact s3 _ _ (sm b o z)
      · rw [ht2, unA_snoc, List.sum_append, h0]
        simp
    · rintro H1 ⟨sm, us, hD, hul, h0⟩
      rw [List.take_of_length_le (by omega)] at h0
      have e1 : us.sum = unD (.tuple ds) := by rw [h0]; simp only [unD]
      have kk := k H1 sm
      rw [← e1] at kk
      exact ⟨D, us, rfl, .inl (.inl hD), kk⟩
  · have nt : ∀ xs, d ≠ .tuple xs := fun xs e => by
      subst e
      simp [isT, tyName] at ht
    refine ⟨_, rfl, v, mu, d, rfl, hd, ho, fun H1 s1 => ⟨_, rfl, iteB (fun h1 => ?_) fun h1 => ?_⟩⟩
    · obtain ⟨i, rfl⟩ := (isIntD d).mp h1
      cases hd
      have kk := k H1 s1
      refine ⟨_, rfl, _, _, rfl, rfl, _, rfl, iteP (fun h2 => ⟨_, _, rfl, rfl, .inr ⟨_, rfl, ?_⟩⟩) fun h2 => .inr ⟨_, rfl, ?_⟩⟩
      · by_cases h3 : i ≤ 1
        · have e1 : unD (.int i) = 1 := by simp only [unD]; exact if_pos ⟨h2, h3⟩
          rw [e1] at kk
          rw [decide_eq_true h3]
          exact kk
        · have e1 : unD (.int i) = 0 := by simp only [unD]; exact if_neg fun z => h3 z.2
          rw [e1] at kk
          rw [decide_eq_false h3]
          exact kk
      · have e1 : unD (.int i) = 0 := by simp only [unD]; exact if_neg fun z => h2 z.1
        rw [e1] at kk
        exact kk
    · have e1 : unD d = 0 := by
        cases d <;> first | rfl | exact absurd rfl (nt _) | (simp [isInt, isT, tyName] at h1)
      have kk := k H1 s1
      rw [e1] at kk
      exact .inr ⟨_, rfl, kk⟩
abbrev s_law_with_truth : Stmt := topS 44
theorem sc__law_with_truth : FnScope ["thing", "left", "one"] ["thing", "left"] (defScope s_law_with_truth) := ⟨rfl, rfl, rfl, by decide +kernel, rfl, by decide +kernel, by decide +kernel⟩
theorem ok__law_with_truth {f : Addr} {fd : FuncData} {j n : Nat} {sp : Sp} (hj : 3 ≤ j) (hsp : n = 0 ∨ ∃ m, n = m + 1 ∧ sp = spTruth K m) (F : Fun K "_law_with_truth" "_law_with_truth" s_law_with_truth f fd) (B : Bt mg) (c__law_is_int : CalG P w K mg base 1 "_law_is_int" (spP K isInt)) (c__law_with_truth : CalG P w K mg base j "_law_with_truth" sp) : FnG P w K mg base (j + 1) f fd ["thing", "left"] (spTruth K n) := by
  refine Fun.okG F sc__law_with_truth (fun vs H Q E h => ?_) (fun cdv A outer s H vs Q E hg hr h => ?_)
  · obtain ⟨_, _, _, _, _, rfl, _⟩ := h
    rfl
  obtain ⟨v, l, i, mu, d, rfl, hml, hL, hM, hd, ho, hnd, hdp, k⟩ := h
  have hu := Room.u64 hr
  refine ⟨_, (pss_cons (ps_if (pt_val (pe_callB call_isD (by rfl) B.isin bb_isin (pa_cons (pv 0) (pa_cons (pe_bltn (v := .ty "tuple") rfl B.tuple bb_tuple rfl) pa_nil))))
      (pss_one (ps_ret (pe_callTy call_tuple_of (by rfl) B.tuple bb_tuple (pa_cons (pe_lc (own := [("one", 2)]) rfl sc__law_with_truth.nd (pi_tup (pv 0)) (blkOk_by (own := [("one", 2)]) (N := ["thing", "left", "one"]) (sc := (defScope s_law_with_truth)) (by decide +kernel)) (fun _ _ _ _ _ => (pg_name (i := 2) sc__law_with_truth.nd rfl (Or.inl rfl))) (fun _ _ _ _ _ => pts_nil) (fun _ _ _ _ _ => (pc c__law_with_truth hg hr (by omega) (by rfl) (pa_cons (pv 2) (pa_cons (pv 1) pa_nil))))) pa_nil))))
      pss_nil)
    (pss_cons (ps_if (PW.pt (pw_and (pt_val (pc c__law_is_int hg hr (by omega) (by rfl) (pa_cons (pv 0) pa_nil))) (pw_and1 (pt_chain op_le op_le pe_int (pv 0) pe_int))))
      (pss_cons (ps_augS (pv 1) pe_int get_list pe_int ip_sub set_list)
      (pss_one (ps_ret (pe_ifExp (pt_cmpR op_eq (pe_ix ix_list (pv 1) pe_int (fun _ _ => rfl)) (pe_un un_neg pe_int) (nomark _)) (pe_cmpR op_eq (pv 0) pe_int (nomark _)) (pv 0)))))
      pss_nil)
    (pss_one (ps_ret (pv 0))))), ?_⟩
  refine ⟨_, rfl, _, "tuple", mu, d, rfl, by decide, hd, _, rfl, iteB (fun ht => ?_) fun ht => ?_⟩
  · obtain ⟨ds, rfl⟩ := (isTup d).mp ht
    obtain ⟨a, xs, rfl, hS, hA⟩ := hd.tupAt
    have hl := hA.length
    have hdp2 : PyData.depthAll ds + 1 ≤ n := by
      have e : (PyData.tuple ds).depth = PyData.depthAll ds + 1 := by simp [PyData.depth]
      omega
    obtain ⟨m, rfl, rfl⟩ : ∃ m, n = m + 1 ∧ sp = spTruth K m := by
      rcases hsp with h | h
      · omega
      · exact h
    have hw := len_wt ds
    have hw2 : PyData.weightAll ds ≤ 27000 := ho.wt
    have hnd2 : PyData.hasDictAll ds = false := by simpa only [PyData.hasDict] using hnd
    have ndm : ∀ (l : List PyData), PyData.hasDictAll l = false → ∀ e ∈ l, e.hasDict = false := by
      intro l
      induction l with
      | nil => intro _ e h; cases h
      | cons x l ih =>
        intro h e he
        simp only [PyData.hasDictAll, Bool.or_eq_false_iff] at h
        rcases List.mem_cons.mp he with rfl | he
        · exact h.1
        · exact ih h.2 e he
    have sl := sizeLine_eq
    refine ⟨_, rfl, a, rfl, ⟨xs, hS⟩, fun D nD => ?_⟩
    have nDl : D ≠ l := fun z => by
      rw [z, hL] at nD
      cases nD
    have fk : ∀ H', (∀ a o, a ≠ l → H a = some o → H' a = some o) → Fut (fun a => mu a ∨ a = D) H H' := fun H' hk a o e z => by
      by_cases hal : a = l
      · subst hal
        rw [hL] at e
        cases e
        rcases z with z | ⟨_, z⟩ | ⟨_, _, z⟩
        · exact absurd (.inl hml) z
        · cases z
        · cases z
      · exact hk a o hal e
    have hA' := hA.more nD
    refine lc_it (walk_tup (K := K) (xs := xs) (a := a)) (fun i H' => (∀ a o, a ≠ l → H a = some o → H' a = some o) ∧ (∃ i : Int, H' l = some (.lst [.int i])) ∧ ∃ ys es, H' D = some (.lst ys) ∧ DtA K (fun a => mu a ∨ a = D) H' ys es ∧ es.length = i ∧ okA es = true ∧ PyData.hasDictAll es = false ∧ PyData.depthAll es ≤ PyData.depthAll ds ∧ PyData.weightAll es ≤ PyData.weightAll (ds.take i)) ⟨fun a o _ e => (same_upd nD) a o e, ⟨i, by rw [upd_ne nDl.symm]; exact hL⟩, [], [], upd_same, .nil, rfl, rfl, rfl, Nat.zero_le _, Nat.zero_le _⟩ (fun i H' _ h => seqT_futL hS (fk H' h.1)) ?_ ?_
    · rintro i' x H1 H2 hi ⟨hk, ⟨i2, hL2⟩, ys, es, hD, hE, hel, e1, e2, e3, e4⟩ ⟨rfl, hx⟩
      obtain ⟨e, he, hxe⟩ := hA'.get hx
      have hem := List.mem_of_getElem? he
      have ed := depth_mem hem
      have ht2 : ds.take (i' + 1) = ds.take i' ++ [e] := by
        rw [List.take_add_one, he]
        rfl
      have mo : MuOk (fun a => mu a ∨ a = D) H2 := fun a h => by
        rcases h with h | rfl
        · rcases hM a h with z | z
          · by_cases hal : a = l
            · subst hal
              exact .inl (by rw [hL2]; exact fun z => nomatch z)
            · cases q : H a with
              | none => exact absurd q z
              | some o => exact .inl (by rw [hk a o hal q]; exact fun z => nomatch z)
          · exact .inr z
        · exact .inl (by rw [hD]; exact fun z => nomatch z)
      refine ⟨rfl, _, rfl, _, rfl, x, l, i2, (fun a => mu a ∨ a = D), e, rfl, .inl hml, hL2, mo, hxe.fut (fk H2 hk), ho.inT hem, ndm ds hnd2 e hem, by omega, fun v' H4 d' r4 hv4 o1 o2 o3 o4 => ?_⟩
      have hD4 := r4.keep _ _ nDl hD
      obtain ⟨i3, hL4⟩ := r4.at_
      have f4 : Fut (fun a => mu a ∨ a = D) H2 H4 := fun a o q z => by
        by_cases hal : a = l
        · subst hal
          rw [hL2] at q
          cases q
          rcases z with z | ⟨_, z⟩ | ⟨_, _, z⟩
          · exact absurd (.inl hml) z
          · cases z
          · cases z
        · exact r4.keep a o hal q
      have f5 : Fut (fun a => mu a ∨ a = D) H4 (upd H4 D (.lst (ys ++ [v']))) := (fut_at hD4).mono fun a z => .inr z
      refine ⟨ys, hD4, by rw [hE.length]; omega, fun c o hc q => ?_, ⟨i3, by rw [upd_ne nDl.symm]; exact hL4⟩, ys ++ [v'], es ++ [d'], upd_same, ((hE.fut f4).fut f5).append (.cons (hv4.fut f5) .nil), by rw [List.length_append, hel]; rfl, ?_, ?_, ?_, ?_⟩
      · rw [upd_ne (ne_of_none q nD)]
        exact r4.keep c o hc (hk c o hc q)
      · rw [okA_app, e1]
        simp [okA, o1]
      · rw [nd_app, e2]
        simp [PyData.hasDictAll, o2]
      · rw [dp_app]
        simp only [PyData.depthAll]
        omega
      · rw [ht2, wt_app, wt_app]
        simp only [PyData.weightAll]
        omega
    · rintro H1 ⟨hk, hL2, ys, es, hD, hE, hel, e1, e2, e3, e4⟩
      rw [List.take_of_length_le (by omega)] at e4
      refine ⟨D, ys, rfl, .inl ⟨.inl (.inl hD), fun t nt => ?_⟩⟩
      have st := same_upd (o := .tup ys) nt
      obtain ⟨i3, hL3⟩ := hL2
      refine k (.ref t) _ (.tuple es) ⟨fun c o hc q => st _ _ (hk c o hc q), i3, st _ _ hL3⟩ (.tup (.inl upd_same) ((hE.less fun a z => .inl z).fut (.of_same st))) (by simp only [okD]; exact e1) (by simp only [PyData.hasDict]; exact e2) (by simp only [PyData.depth]; omega) (by simp only [PyData.weight]; exact e4)
  · refine ⟨_, rfl, v, mu, d, rfl, hd, ho, fun H1 s1 => ⟨_, rfl, iteB (fun h1 => ?_) fun h1 => ?_⟩⟩
    · obtain ⟨x, rfl⟩ := (isIntD d).mp h1
      cases hd
      have no : ∀ x2 : Int, x2 = x → Q (.int x2) H1 := fun x2 e => by
        subst e
        exact k _ H1 (.int x2) ⟨fun a o _ e => s1 a o e, i, s1 _ _ hL⟩ (.int _) ho.ok hnd (Nat.le_refl _) (Nat.le_refl _)
      have hL1 := s1 _ _ hL
      refine ⟨_, rfl, _, _, rfl, rfl, _, rfl, iteP (fun h2 => ⟨_, _, rfl, rfl, _, rfl, iteP (fun h3 => ?_) fun h3 => ⟨_, rfl, no x rfl⟩⟩) fun h2 => ⟨_, rfl, iteF ⟨_, rfl, no x rfl⟩⟩⟩
      refine ⟨_, rfl, l, _, 0, .int i, rfl, rfl, .of hL1, rfl, i, 1, rfl, rfl, l, _, 0, 0, rfl, rfl, hL1, rfl, ?_⟩
      have lr : LRel l H (upd H1 l (.lst [.int (i - 1)])) := ⟨fun a o hne e => by rw [upd_ne hne]; exact s1 a o e, i - 1, upd_same⟩
      refine ⟨_, rfl, l, _, 0, .int (i - 1), rfl, rfl, .of upd_same, atI_nat (j := 0) rfl, 1, rfl, rfl, _, rfl, iteEq (fun _ => ?_) fun _ => ?_⟩
      · exact ⟨_, rfl, rfl, k _ _ (.bool (decide (V.int x = V.int 1))) lr (.bl _) (by simp [okD]) (by simp [PyData.hasDict]) (by simp [PyData.depth]) (by simp [PyData.weight])⟩
      · exact ⟨_, rfl, k _ _ (.int x) lr (.int _) ho.ok hnd (Nat.le_refl _) (Nat.le_refl _)⟩
    · exact ⟨_, rfl, k v H1 d ⟨fun a o _ e => s1 a o e, i, s1 _ _ hL⟩ (hd.fut (.of_same s1)) ho.ok hnd (Nat.le_refl _) (Nat.le_refl _)⟩
end
end K16
namespace K16
open PySem PySem.Spec PyProof.Rows L2 Sw StX RZ
mutual
theorem sm_nd : ∀ {d : PyData}, smD d = true → d.hasDict = false
  | .none, _ | .bool _, _ | .int _, _ | .str _, _ => by simp [PyData.hasDict]
  | .list xs, h => by
    simp only [smD] at h
    simp only [PyData.hasDict]
    exact smA_nd h
  | .tuple xs, h => by
    simp only [smD] at h
    simp only [PyData.hasDict]
    exact smA_nd h
  | .dict _, h => by simp [smD] at h
theorem smA_nd : ∀ {ds : List PyData}, smA ds = true → PyData.hasDictAll ds = false
  | [], _ => rfl
  | d :: ds, h => by
    simp only [smA, Bool.and_eq_true] at h
    simp only [PyData.hasDictAll, sm_nd h.1, smA_nd h.2, Bool.or_self]
end
theorem Vd.fut {K : PySem.W.Frag} {b : Addr} {H H' : Hp} {v : V} {d : PyData} (h : Vd K b H v d) (f : Fut (fun a => a = b) H H') : Vd K b H' v d := by
  rcases h with ⟨n, h⟩ | h
  · exact .inl ⟨n, h.fut f⟩
  · exact .inr (h.fut (f.mono fun a z => .inl z))
theorem od_int {p w : Nat} {i : Int} (h : i.natAbs < 10 ^ 41) (hw : 140 ≤ w) : Od p w (.int i) := by
  refine ⟨?_, by simp [PyData.depth], ?_⟩
  · simp only [okD, decide_eq_true_eq]
    exact Nat.lt_trans h (by decide +kernel)
  · simp only [PyData.weight]
    by_cases hz : i = 0
    · rw [hz]
      exact Nat.zero_le _
    · have hz2 : i.natAbs ≠ 0 := by omega
      have e : i.natAbs.log2 < 137 := (Nat.log2_lt hz2).mpr (Nat.lt_trans h (by decide +kernel))
      split <;> omega
structure OdA (p w : Nat) (ds : List PyData) : Prop where
  ok : okA ds = true
  dp : PyData.depthAll ds ≤ p
  wt : PyData.weightAll ds ≤ w
theorem OdA.tup {p w : Nat} {ds : List PyData} (h : OdA p w ds) : Od (p + 1) w (.tuple ds) := ⟨by simp only [okD]; exact h.ok, by simp only [PyData.depth]; have := h.dp; omega, by simp only [PyData.weight]; exact h.wt⟩
theorem OdA.lst {p w : Nat} {ds : List PyData} (h : OdA p w ds) : Od (p + 1) w (.list ds) := ⟨by simp only [okD]; exact h.ok, by simp only [PyData.depth]; have := h.dp; omega, by simp only [PyData.weight]; exact h.wt⟩
theorem OdA.app {p w1 w2 : Nat} {ds es : List PyData} (h : OdA p w1 ds) (t : OdA p w2 es) : OdA p (w1 + w2) (ds ++ es) := ⟨by rw [okA_app, h.ok, t.ok]; rfl, by rw [dp_app]; have := h.dp; have := t.dp; omega, by rw [wt_app]; have := h.wt; have := t.wt; omega⟩
theorem OdA.one {p w : Nat} {d : PyData} (h : Od p w d) : OdA p (w + 1) [d] := ⟨by simp [okA, h.ok], by simp only [PyData.depthAll]; have := h.dp; omega, by simp only [PyData.weightAll]; have := h.wt; omega⟩
theorem OdA.mono {p w p' w' : Nat} {ds : List PyData} (h : OdA p w ds) (hp : p ≤ p') (hw : w ≤ w') : OdA p' w' ds := ⟨h.ok, Nat.le_trans h.dp hp, Nat.le_trans h.wt hw⟩
theorem oda_take {ds : List PyData} (h : okA ds = true) (n : Nat) : OdA (PyData.depthAll ds) (PyData.weightAll (ds.take n)) (ds.take n) := by
  have e := List.take_append_drop n ds
  have e1 : okA (ds.take n ++ ds.drop n) = true := by rw [e]; exact h
  have e2 : PyData.depthAll (ds.take n ++ ds.drop n) = PyData.depthAll ds := by rw [e]
  rw [okA_app, Bool.and_eq_true] at e1
  rw [dp_app] at e2
  exact ⟨e1.1, by omega, Nat.le_refl _⟩
theorem oda_drop {ds : List PyData} (h : okA ds = true) (n : Nat) : OdA (PyData.depthAll ds) (PyData.weightAll (ds.drop n)) (ds.drop n) := by
  have e := List.take_append_drop n ds
  have e1 : okA (ds.take n ++ ds.drop n) = true := by rw [e]; exact h
  have e2 : PyData.depthAll (ds.take n ++ ds.drop n) = PyData.depthAll ds := by rw [e]
  rw [okA_app, Bool.and_eq_true] at e1
  rw [dp_app] at e2
  exact ⟨e1.2, by omega, Nat.le_refl _⟩
theorem oda_rev : ∀ {ds : List PyData}, okA ds = true → OdA (PyData.depthAll ds) (PyData.weightAll ds) ds.reverse
  | [], _ => ⟨rfl, Nat.zero_le _, Nat.zero_le _⟩
  | d :: ds, h => by
    simp only [okA, Bool.and_eq_true] at h
    have z := oda_rev h.2
    rw [List.reverse_cons]
    have o := OdA.one (p := PyData.depthAll (d :: ds)) (w := d.weight) (d := d) ⟨h.1, by simp only [PyData.depthAll]; omega, Nat.le_refl _⟩
    exact ((z.mono (by simp only [PyData.depthAll]; omega) (Nat.le_refl _)).app o).mono (Nat.le_refl _) (by simp only [PyData.weightAll]; omega)
theorem nd_take {ds : List PyData} (h : PyData.hasDictAll ds = false) (n : Nat) : PyData.hasDictAll (ds.take n) = false ∧ PyData.hasDictAll (ds.drop n) = false := by
  have e := List.take_append_drop n ds
  have e1 : PyData.hasDictAll (ds.take n ++ ds.drop n) = false := by rw [e]; exact h
  rw [nd_app, Bool.or_eq_false_iff] at e1
  exact e1
theorem nd_rev : ∀ {ds : List PyData}, PyData.hasDictAll ds = false → PyData.hasDictAll ds.reverse = false
  | [], _ => rfl
  | d :: ds, h => by
    simp only [PyData.hasDictAll, Bool.or_eq_false_iff] at h
    rw [List.reverse_cons, nd_app, nd_rev h.2]
    simp [PyData.hasDictAll, h.1]
theorem dtA_rev {K : PySem.W.Frag} {mu : Addr → Prop} {H : Hp} : ∀ {vs : List V} {ds : List PyData}, DtA K mu H vs ds → DtA K mu H vs.reverse ds.reverse
  | _, _, .nil => .nil
  | _, _, .cons h t => by
    rw [List.reverse_cons, List.reverse_cons]
    exact (dtA_rev t).append (.cons h .nil)
/-- a tuple around a thing -/
theorem vd_mid {K : PySem.W.Frag} {b : Addr} {H : Hp} {p : Addr} {xs ys : List V} {ds es : List PyData} {v : V} {d : PyData} (hp : SqT K H p (xs ++ [v] ++ ys)) (h : Vd K b H v d) (h1 : DtA K (mF b) H xs ds) (h2 : DtA K (mF b) H ys es) (n1 : PyData.hasDictAll ds = false) (n2 : PyData.hasDictAll es = false) : Vd K b H (.ref p) (.tuple (ds ++ [d] ++ es)) := by
  have tup : ∀ {mu : Addr → Prop}, DtA K mu H (xs ++ [v] ++ ys) (ds ++ [d] ++ es) → Dt K mu H (.ref p) (.tuple (ds ++ [d] ++ es)) := fun z => by
    rcases hp with hp | hp
    · exact .tup hp z
    · exact .tupK hp z
  rcases h with ⟨n, h⟩ | h
  · refine .inl ⟨?_, tup (((h1.less fun a z => .inl z).append (.cons h .nil)).append (h2.less fun a z => .inl z))⟩
    simp only [PyData.hasDict, nd_app, n1, n2, Bool.or_false, Bool.false_or, PyData.hasDictAll, n]
  · exact .inr (tup ((h1.append (.cons h .nil)).append h2))
theorem ok_ofS (s : String) : PyData.strOk (Str.ofString s) = true := by
  unfold PyData.strOk
  rw [Str.ofString_eq_toList]
  simp only [Array.all_eq_true]
  intro i hi
  simp only [List.getElem_toArray, List.getElem_map, decide_eq_true_eq]
  generalize s.toList[i]'(by simpa using hi) = c
  have := c.valid
  have e : c.toNat = c.val.toNat := rfl
  rcases this with h | h
  · show c.val.toNat < _
    have : c.val.toNat < 0xd800 := h
    omega
  · exact h.2
theorem od_num {p : Nat} {i : Int} (h : i.natAbs < 10 ^ 41) : Od p 140 (.str (Str.ofString (toString i))) := by
  refine ⟨by simp only [okD]; exact ok_ofS _, by simp [PyData.depth], ?_⟩
  simp only [PyData.weight]
  have e := int_text_length_le10 (a := i) (k := 41) (by decide) h
  have e2 : (Str.ofString (toString i)).length ≤ 42 := by rw [PySem.ofString_length]; exact e
  show (Str.ofString (toString i)).length ≤ 140
  omega
/-- no datum's list is of the bag's place -/
theorem ge_lst0 {K : PySem.W.Frag} {b : Addr} {σ : L2.St} {H0 : Hp} {ta : TA} {ds : List PyData} (h : GeA K b (fun a => a = b) σ H0 ta ds) (hl : ds.length ≤ 1000) : Ge K b (fun a => a = b) σ H0 (tLst ta) (.list ds) := fun H hb m _ q =>
  h H hb m _ fun vs H1 r e => ⟨Nat.le_of_lt (small1000 (by rw [e.length]; exact hl)), fun p np => q _ _ (r.same (same_upd np)) (.lst (fun z => by
    obtain ⟨_, _, _, _, _, q, _⟩ := r.bag
    rw [z, q] at np
    cases np) (.inl upd_same) (e.fut (.of_same (same_upd np))))⟩
theorem mu0_ok {b : Addr} {H : Hp} (hb : BagAt H b) : MuOk (fun a => a = b) H := fun a z => by
  subst z
  obtain ⟨_, _, _, _, _, q, _⟩ := hb
  exact .inl (by rw [q]; exact fun z => nomatch z)
def Bd (p w : Nat) (d : PyData) : Prop := d.hasDict = false ∧ Od p w d
theorem bd_int {p w : Nat} {i : Int} (h : i.natAbs < 10 ^ 41) (hw : 140 ≤ w) : Bd p w (.int i) := ⟨rfl, od_int h hw⟩
theorem bd_bl {p w : Nat} {i : Bool} : Bd p w (.bool i) := ⟨rfl, rfl, by simp [PyData.depth], by simp [PyData.weight]⟩
theorem bd_non {p w : Nat} : Bd p w .none := ⟨rfl, rfl, by simp [PyData.depth], by simp [PyData.weight]⟩
theorem int500 {i : Int} (h : i.natAbs < 10 ^ 40) : i.natAbs < 10 ^ 500 := Nat.lt_trans h (by decide +kernel)
section
variable {K : PySem.W.Frag} {b : Addr} {mu : Addr → Prop} {σ : L2.St} {H0 : Hp} {te : TE} {ta tr : TA} {d : PyData} {ds : List PyData} {D : PyData → Prop} {n : Nat}
variable (K b mu σ H0) in
def Gn (te : TE) (D : PyData → Prop) : Prop := ∀ H, Rel b H0 H → MuOk mu H → ∀ Q : VK, (∀ v H' d, D d → Rel b H H' → Dt K mu H' v d → Q v H') → te σ H Q
variable (K b mu σ H0) in
def GnA (ta : TA) (D : PyData → Prop) (n : Nat) : Prop := ∀ H, Rel b H0 H → MuOk mu H → ∀ Q : List V → Hp → Prop, (∀ vs H' ds, ds.length = n → (∀ d ∈ ds, D d) → Rel b H H' → DtA K mu H' vs ds → Q vs H') → ta σ H Q
theorem geN (h : Ge K b mu σ H0 te d) (hd : D d) : Gn K b mu σ H0 te D := fun H hb m Q q => h H hb m Q fun v H' r e => q v H' d hd r e
theorem gnA_nil : GnA K b mu σ H0 tNil D 0 := fun H hb _ _ q => q _ H [] rfl (fun _ z => nomatch z) (.refl hb.bag) .nil
theorem gnA_cons (hm : mu b) (h : Gn K b mu σ H0 te D) (t : GnA K b mu σ H0 tr D n) : GnA K b mu σ H0 (tCons te tr) D (n + 1) := fun H hb m _ q =>
  h H hb m _ fun v H1 d hd r1 e1 => t H1 (hb.trans r1) (m.rel r1) _ fun vs H2 ds hl hds r2 e2 => q _ H2 (d :: ds) (by rw [List.length_cons, hl]) (fun x z => by
    rcases List.mem_cons.mp z with rfl | z
    · exact hd
    · exact hds x z) (r1.trans r2) (.cons (e1.fut (r2.fut hm r1.bag)) e2)
theorem ge_intV {i : Nat} {x : Int} (hσ : σ[i]? = some (some (.int x))) : Ge K b mu σ H0 (tVar i) (.int x) := fun H hb _ _ q => ⟨_, hσ, q _ H (.refl hb.bag) (.int x)⟩
theorem ge_add {i : Nat} {x y : Int} (hσ : σ[i]? = some (some (.int x))) : Ge K b mu σ H0 (tOp (rI0 fun i j => .int (i + j)) (tVar i) (tC (.int y))) (.int (x + y)) := fun H hb _ _ q => ⟨_, hσ, _, _, rfl, rfl, q _ H (.refl hb.bag) (.int _)⟩
theorem ge_sub {i : Nat} {x y : Int} (hσ : σ[i]? = some (some (.int x))) : Ge K b mu σ H0 (tOp (rI0 fun i j => .int (i - j)) (tVar i) (tC (.int y))) (.int (x - y)) := fun H hb _ _ q => ⟨_, hσ, _, _, rfl, rfl, q _ H (.refl hb.bag) (.int _)⟩
theorem ge_opp {i : Nat} {x y : Int} (hσ : σ[i]? = some (some (.int x))) : Ge K b mu σ H0 (tOp (rI0 fun i j => .int (i - j)) (tC (.int y)) (tVar i)) (.int (y - x)) := fun H hb _ _ q => ⟨_, hσ, _, _, rfl, rfl, q _ H (.refl hb.bag) (.int _)⟩
end
theorem seq_asg_lst {ta : TA} {g : TG} {u : TS} {D} {σ : L2.St} {H : Hp} (h : ta σ H fun xs H1 => xs.length ≤ sizeLine ∧ ∀ p, H1 p = none → g (.ref p) σ (upd H1 p (.lst xs)) (u D)) : tSeq (tAsg (tLst ta) g) u D σ H := h
theorem arg_cat {r : R2} {ta : TA} {i : Nat} {σ : L2.St} {H : Hp} {Q : List V → Hp → Prop} (h : ta σ H fun xs H1 => xs.length ≤ sizeLine ∧ ∀ p, H1 p = none → tVar i σ (upd H1 p (.lst xs)) fun y H2 => r (.ref p) y H2 fun z H3 => Q [z] H3) : tCons (tOp r (tLst ta) (tVar i)) tNil σ H Q := h
theorem cutV_to (xs : List V) (n : Nat) : cutV xs none (some (n : Int)) = xs.take n := by
  unfold cutV
  rw [HT.sIx_none, HT.sIx_nat, List.drop_zero, Nat.sub_zero]
  by_cases h : n ≤ xs.length
  · rw [Nat.min_eq_left h]
  · rw [Nat.min_eq_right (by omega), List.take_length, List.take_of_length_le (by omega)]
theorem catA_use {K : PySem.W.Frag} {H : Hp} {a c : Addr} {xs ys : List V} {Q : VK} (h1 : SqT K H a xs) (h2 : SqT K H c ys) (hz : xs.length + ys.length ≤ sizeLine) (k : ∀ p H', Same H H' → SqT K H' p (xs ++ ys) → Q (.ref p) H') : rCatA K (.ref a) (.ref c) H Q := by
  refine ⟨a, c, xs, ys, rfl, rfl, h1, h2, hz, fun e => ?_, fun _ e => ?_, fun _ _ p np => k p _ (same_upd np) (.of upd_same)⟩
  · subst e
    exact k c H (.refl H) h2
  · subst e
    refine k a H (.refl H) ?_
    rw [List.append_nil]
    exact h1
theorem nopart {σ : L2.St} {H : Hp} {Q : Option Int → Hp → Prop} (h : Q none H) : tNoPart σ H Q := h
theorem split_at {ds : List PyData} {i : Nat} {e : PyData} (h : ds[i]? = some e) : ds = ds.take i ++ ([e] ++ ds.drop (i + 1)) := by
  obtain ⟨hi, he⟩ := List.getElem?_eq_some_iff.mp h
  have := List.take_append_drop i ds
  rw [List.drop_eq_getElem_cons hi, he] at this
  exact this.symm
theorem split_wt {ds : List PyData} {i : Nat} {e : PyData} (h : ds[i]? = some e) : PyData.weightAll ds = PyData.weightAll (ds.take i) + (e.weight + 1) + PyData.weightAll (ds.drop (i + 1)) := by
  have z := congrArg PyData.weightAll (split_at h)
  rw [wt_app, wt_app] at z
  rw [z]
  simp only [PyData.weightAll]
  omega
theorem dt_tup {K : PySem.W.Frag} {mu : Addr → Prop} {H : Hp} {p : Addr} {xs : List V} {ds : List PyData} (h : SqT K H p xs) (hA : DtA K mu H xs ds) : Dt K mu H (.ref p) (.tuple ds) := by
  rcases h with h | h
  · exact .tup h hA
  · exact .tupK h hA
theorem sok {x : Str} : PyData.strOk x = true ↔ ∀ c ∈ x.cps.toList, c < 0x110000 := by
  unfold PyData.strOk
  rw [← Array.all_toList, List.all_eq_true]
  exact ⟨fun h c m => of_decide_eq_true (h c m), fun h c m => decide_eq_true (h c m)⟩
theorem sok_app {x y : Str} (h1 : PyData.strOk x = true) (h2 : PyData.strOk y = true) : PyData.strOk (x ++ y) = true := by
  rw [sok] at *
  intro c m
  rw [Str.cps_append, Array.toList_append] at m
  rcases List.mem_append.mp m with m | m
  · exact h1 c m
  · exact h2 c m
theorem sok_cut {z : Str} {lo hi : Option Int} (h : PyData.strOk z = true) : PyData.strOk (Txt.slice z lo hi) = true := by
  rw [sok] at *
  rw [← C8.cutS_slice]
  intro c m
  exact h c (List.mem_of_mem_drop (List.mem_of_mem_take m))
theorem len_cut {z : Str} {lo hi : Option Int} : (Txt.slice z lo hi).length ≤ z.length := by
  rw [← C8.cutS_slice]
  show (List.toArray _).size ≤ z.cps.size
  rw [List.size_toArray, List.length_take, List.length_drop, Array.length_toList]
  omega
theorem sok_upper {z : Str} (h : z.cps.all (fun c => decide (97 ≤ c ∧ c ≤ 122)) = true) : PyData.strOk (Txt.upper z) = true := by
  have hz : z = SX.S z.cps.toList := by
    apply PySem.Str.ext'
    rfl
  rw [← Array.all_toList, List.all_eq_true] at h
  rw [hz, SX.upper_S (by
    rw [List.all_eq_true]
    intro c m
    have := of_decide_eq_true (h c m)
    exact decide_eq_true (by omega)), sok]
  intro c m
  obtain ⟨x, hx, rfl⟩ := List.mem_map.mp m
  have := of_decide_eq_true (h x hx)
  unfold PyProof.Rows.up1
  split <;> omega
def spBent (K : PySem.W.Frag) (n : Nat) : Sp := fun vs H Q _ => ∃ (b : Addr) (v : V) (d : PyData), vs = [.ref b, v, .int n] ∧ BagAt H b ∧ Dt K (mF b) H v d ∧ smD d = true ∧ d.depth ≤ 40 ∧ d.weight ≤ 10000 ∧
  ∀ v' H' d', Rel b H H' → Vd K b H' v' d' → Od (d.depth + 3) (2 * d.weight + 1000) d' → Q v' H'
section
variable {P : Program} {w : World} {K : PySem.W.Frag} {mg : Str → Option Value} {base : Heap}
abbrev s_law_bent : Stmt := topS 42
theorem sc__law_bent : FnScope ["bag", "thing", "deep", "odd", "texts", "at", "more", "fewer", "others"] ["bag", "thing", "deep"] (defScope s_law_bent) := ⟨rfl, rfl, rfl, by decide +kernel, rfl, by decide +kernel, by decide +kernel⟩
theorem ok__law_bent {f : Addr} {fd : FuncData} {j n : Nat} {sp : Sp} (hj : 5 ≤ j) (hsp : n = 0 ∨ ∃ m, n = m + 1 ∧ sp = spBent K m) (F : Fun K "_law_bent" "_law_bent" s_law_bent f fd) (B : Bt mg) (c__law_take : CalG P w K mg base 1 "_law_take" spTake) (c__law_some : CalG P w K mg base 2 "_law_some" spSome) (c__law_is_int : CalG P w K mg base 1 "_law_is_int" (spP K isInt)) (c__law_value : CalG P w K mg base 5 "_law_value" (spValue K 1)) (c__law_bent : CalG P w K mg base j "_law_bent" sp) : FnG P w K mg base (j + 1) f fd ["bag", "thing", "deep"] (spBent K n) := by
  refine Fun.okG F sc__law_bent (fun vs H Q E h => ?_) (fun cdv A outer s H vs Q E hg hr h => ?_)
  · obtain ⟨_, _, _, rfl, _⟩ := h
    rfl
  obtain ⟨b, v, d, rfl, hb, hd, hsm, hdp, hwt, k⟩ := h
  have hu := Room.u64 hr
  refine ⟨_, (pss_cons (ps_set (i := 3) sc__law_bent.nd rfl (Or.inl rfl) (pc c__law_value hg hr (by omega) (by rfl) (pa_cons (pv 0) (pa_cons pe_int pa_nil))))
    (pss_cons (ps_if (pt_val (pc c__law_is_int hg hr (by omega) (by rfl) (pa_cons (pv 1) pa_nil)))
      (pss_cons (ps_set (i := 4) sc__law_bent.nd rfl (Or.inl rfl) (pe_lst (pa_cons pe_bl (pa_cons pe_bl (pa_cons pe_non (pa_cons (pe_callTy call_str_int (by rfl) B.str bb_str (pa_cons (pv 1) pa_nil)) (pa_cons (pe_lst (pa_cons (pv 1) pa_nil)) (pa_cons (pe_tup (pa_cons (pv 1) pa_nil)) pa_nil))))))))
      (pss_one (ps_ret (pc c__law_some hg hr (by omega) (by rfl) (pa_cons (pv 0) (pa_cons (pe_op op_cat (pe_lst (pa_cons (pe_op op_add (pv 1) pe_int) (pa_cons (pe_op op_sub (pv 1) pe_int) (pa_cons (pe_op op_sub pe_int (pv 1)) (pa_cons (pe_op op_add (pv 1) pe_int) (pa_cons (pe_op op_add (pv 1) pe_int) (pa_cons pe_int (pa_cons pe_int pa_nil)))))))) (pv 4)) pa_nil))))))
      pss_nil)
    (C8.pss_cut (ps_if (PW.pt (pw_and (pt_val (pe_callB call_isD (by rfl) B.isin bb_isin (pa_cons (pv 1) (pa_cons (pe_bltn (v := .ty "tuple") rfl B.tuple bb_tuple rfl) pa_nil)))) (pw_and (pt_cmpR (op_neNilT (K := K) rfl hu) (pv 1) (pe_tup pa_nil) (nomark _)) (pw_and (pt_cmpR op_gt (pv 2) pe_int (nomark _)) (pw_and1 (pt_cmpR op_gt (pc c__law_take hg hr (by omega) (by rfl) (pa_cons (pv 0) (pa_cons pe_int pa_nil))) pe_int (nomark _)))))))
      (pss_cons (ps_set (i := 5) sc__law_bent.nd rfl (Or.inl rfl) (pc c__law_take hg hr (by omega) (by rfl) (pa_cons (pv 0) (pa_cons (pe_callB call_lenA (by rfl) B.len boot_len (pa_cons (pv 1) pa_nil)) pa_nil))))
      (pss_one (ps_ret (pe_op op_catA (pe_op op_catA (pe_slice sl_tupA (pv 1) po_none (po_some (pv 5))) (pe_tup (pa_cons (pc c__law_bent hg hr (by omega) (by rfl) (pa_cons (pv 0) (pa_cons (pe_ix ix_tup (pv 1) (pv 5) (fun _ _ => rfl)) (pa_cons (pe_op op_sub (pv 2) pe_int) pa_nil)))) pa_nil))) (pe_slice sl_tupA (pv 1) (po_some (pe_op op_add (pv 5) pe_int)) po_none)))))
      pss_nil)
    (pss_cons (ps_if (pt_val (pe_callB call_isD (by rfl) B.isin bb_isin (pa_cons (pv 1) (pa_cons (pe_bltn (v := .ty "tuple") rfl B.tuple bb_tuple rfl) pa_nil))))
      (pss_cons (ps_set (i := 5) sc__law_bent.nd rfl (Or.inl rfl) (pc c__law_take hg hr (by omega) (by rfl) (pa_cons (pv 0) (pa_cons (pe_op op_add (pe_callB call_lenA (by rfl) B.len boot_len (pa_cons (pv 1) pa_nil)) pe_int) pa_nil))))
      (pss_cons (ps_par (i := 6) (j := 7) rfl sc__law_bent.nd rfl rfl (by decide) rfl rfl (pa_cons (pe_op op_catA (pe_op op_catA (pe_slice sl_tupA (pv 1) po_none (po_some (pv 5))) (pe_tup (pa_cons (pv 3) pa_nil))) (pe_slice sl_tupA (pv 1) (po_some (pv 5)) po_none)) (pa_cons (pe_op op_catA (pe_slice sl_tupA (pv 1) po_none (po_some (pv 5))) (pe_slice sl_tupA (pv 1) (po_some (pe_op op_add (pv 5) pe_int)) po_none)) pa_nil)) (by rfl))
      (pss_one (ps_ret (pc c__law_some hg hr (by omega) (by rfl) (pa_cons (pv 0) (pa_cons (pe_lst (pa_cons (pv 6) (pa_cons (pv 7) (pa_cons (pe_revT (pv 1)) (pa_cons (pe_op op_catA (pe_slice sl_tupA (pv 1) po_none (po_some (pv 5))) (pv 1)) (pa_cons (pe_callTy call_list_of (by rfl) B.list bb_list (pa_cons (pv 1) pa_nil)) (pa_cons (pe_tup (pa_cons (pv 1) pa_nil)) (pa_cons pe_non (pa_cons (pv 3) pa_nil))))))))) pa_nil)))))))
      pss_nil)
    (pss_cons (ps_if (pt_val (pe_callB call_isD (by rfl) B.isin bb_isin (pa_cons (pv 1) (pa_cons (pe_bltn (v := .ty "str") rfl B.str bb_str rfl) pa_nil))))
      (pss_cons (ps_set (i := 8) sc__law_bent.nd rfl (Or.inl rfl) (pe_lst (pa_cons (pe_op op_add_str (pv 1) pe_str) (pa_cons (pe_bm0 PySem.F.plainAttrs_str PySem.F.slot_str_upper PySem.F.type_str_upper mt_upper (pv 1)) (pa_cons (pe_op op_add_str (pv 1) pe_str) (pa_cons pe_str (pa_cons (pe_op op_repQ (pv 1) pe_int) (pa_cons (pe_slice C8.sl_txt (pv 1) (po_some pe_int) po_none) (pa_cons (pe_lst (pa_cons (pv 1) pa_nil)) (pa_cons pe_non (pa_cons pe_str (pa_cons pe_str pa_nil))))))))))))
      (pss_one (ps_ret (pc c__law_some hg hr (by omega) (by rfl) (pa_cons (pv 0) (pa_cons (pv 8) pa_nil))))))
      pss_nil)
    (pss_one (ps_ret (pv 3)))))))), ?_⟩
  have nd := sm_nd hsm
  have okd := sm_ok hsm
  have ho : Ok d := ⟨okd, by omega, by omega⟩
  refine ⟨_, rfl, b, (mF b), rfl, .inl rfl, hb, MuOk.bag hb, fun vo H1 dO hdo R1 hvo => ?_, fun _ vo H1 dO hdo R1 hvo => ?_⟩
  all_goals
    have hvo : Vd K b H1 vo dO := by first | exact hvo | exact .inr hvo
    have hdo : Od 2 402 dO := by first | exact hdo | exact hdo.od.mono (by decide) (by decide)
    have hd1 := hd.fut (R1.fut (mu := mF b) (.inl rfl) hb)
    have hb1 := R1.bag
    refine ⟨_, rfl, v, mF b, d, rfl, hd1, ho, fun H2 s2 => ?_⟩
    have hb2 := hb1.same s2
    have R2 := R1.same s2
    refine ⟨_, rfl, iteB (fun hi => ?_) fun hi => ?_⟩
    · obtain ⟨i, rfl⟩ := (isIntD d).mp hi
      cases hd
      have hi40 : i.natAbs < 10 ^ 40 := by simpa [smD] using hsm
      have M2 := mu0_ok hb2
      have gT : ∀ {σ : L2.St}, σ[1]? = some (some (.int i)) → GnA K b (fun a => a = b) σ H2 (tCons (tC (V.bl true)) (tCons (tC (V.bl false)) (tCons (tC V.non) (tCons (tCB (fun xs H Q => ∃ i, xs = [V.int i] ∧ i.natAbs.log2 < 1920 ∧ Q (V.str (Str.ofString (toString i))) H) (tCons (tVar 1) tNil)) (tCons (tLst (tCons (tVar 1) tNil)) (tCons (tTup (tCons (tVar 1) tNil)) tNil)))))) (Bd 3 1000) 6 := fun {σ} hσ => gnA_cons rfl (geN ge_bl bd_bl) (gnA_cons rfl (geN ge_bl bd_bl) (gnA_cons rfl (geN ge_non bd_non) (gnA_cons rfl (fun H r m Q q => ⟨_, hσ, i, rfl, int_log (int500 hi40), q _ H (.str (Str.ofString (toString i))) ⟨rfl, (od_num (p := 0) (by omega)).mono (by decide) (by decide)⟩ (.refl r.bag) (.str _)⟩) (gnA_cons rfl (geN (ge_lst0 (geA_cons rfl (ge_intV hσ) geA_nil) (show 1 ≤ 1000 by decide)) ⟨rfl, ((OdA.one (od_int (p := 0) (w := 140) (by omega) (by decide))).lst).mono (by decide) (by decide)⟩) (gnA_cons rfl (geN (ge_tup rfl (geA_cons rfl (ge_intV hσ) geA_nil) (show 1 ≤ 1000 by decide)) ⟨rfl, ((OdA.one (od_int (p := 0) (w := 140) (by omega) (by decide))).tup).mono (by decide) (by decide)⟩) gnA_nil)))))
      have gI : ∀ {σ : L2.St}, σ[1]? = some (some (.int i)) → GnA K b (fun a => a = b) σ H2 (tCons (tOp (rI0 fun i j => V.int (i + j)) (tVar 1) (tC (V.int 1))) (tCons (tOp (rI0 fun i j => V.int (i - j)) (tVar 1) (tC (V.int 1))) (tCons (tOp (rI0 fun i j => V.int (i - j)) (tC (V.int 0)) (tVar 1)) (tCons (tOp (rI0 fun i j => V.int (i + j)) (tVar 1) (tC (V.int 60))) (tCons (tOp (rI0 fun i j => V.int (i + j)) (tVar 1) (tC (V.int 3000))) (tCons (tC (V.int 0)) (tCons (tC (V.int 1)) tNil))))))) (Bd 3 1000) 7 := fun {σ} hσ => gnA_cons rfl (geN (ge_add hσ) (bd_int (by omega) (by decide))) (gnA_cons rfl (geN (ge_sub hσ) (bd_int (by omega) (by decide))) (gnA_cons rfl (geN (ge_opp hσ) (bd_int (by omega) (by decide))) (gnA_cons rfl (geN (ge_add hσ) (bd_int (by omega) (by decide))) (gnA_cons rfl (geN (ge_add hσ) (bd_int (by omega) (by decide))) (gnA_cons rfl (geN Sw.ge_int (bd_int (by decide) (by decide))) (gnA_cons rfl (geN Sw.ge_int (bd_int (by decide) (by decide))) gnA_nil))))))
      have nbp : ∀ {H : Hp} {p : Addr}, BagAt H b → H p = none → p ≠ b := fun {H p} hb np z => by
        obtain ⟨_, _, _, _, _, q, _⟩ := hb
        rw [z, q] at np
        cases np
      refine seq_asg_lst (gT (?_ : _ = _) H2 (.refl hb2) M2 _ ?_)
      · rfl
      intro xs3 H3 ds3 hl3 hD3 R3 hA3
      refine ⟨Nat.le_of_lt (small1000 (by rw [hA3.length]; omega)), fun T nT => ⟨_, rfl, ?_⟩⟩
      have sT := same_upd (o := .lst xs3) nT
      have R3T := R3.same sT
      have nTb := nbp R3.bag nT
      refine arg_cat (gI (?_ : _ = _) _ R3T (M2.rel R3T) _ ?_)
      · rfl
      intro xs4 H4 ds4 hl4 hD4 R4 hA4
      refine ⟨Nat.le_of_lt (small1000 (by rw [hA4.length]; omega)), fun U nU => ⟨_, rfl, ?_⟩⟩
      have sU := same_upd (o := .lst xs4) nU
      have hT4 := sU _ _ (R4.keep _ _ nTb upd_same)
      refine ⟨U, T, xs4, xs3, rfl, rfl, upd_same, hT4, Nat.le_of_lt (small1000 (by rw [hA3.length, hA4.length]; omega)), fun p np => ?_⟩
      have sp := same_upd (o := .lst (xs4 ++ xs3)) np
      have R5 := ((R3T.trans R4).same sU).same sp
      have npb := nbp ((R4.same sU).bag) np
      have hA5 := (((hA3.fut (.of_same sT)).fut (((R4.same sU).same sp).fut (mu := fun a => a = b) rfl R3T.bag)))
      have hA6 := hA4.fut (K := K) (mu := fun a => a = b) (.of_same (sU.trans sp))
      have hA7 := hA6.append hA5
      have hll : (xs4 ++ xs3).length = 13 := by rw [List.length_append, hA3.length, hA4.length, hl3, hl4]
      refine ⟨b, p, _, rfl, R5.bag, npb, upd_same, by omega, by omega, fun ix v6 H6 hx R6 => ?_⟩
      obtain ⟨e6, he6, hv6⟩ := hA7.get hx
      have hbd : Bd 3 1000 e6 := by
        rcases List.mem_append.mp (List.mem_of_getElem? he6) with z | z
        · exact hD4 _ z
        · exact hD3 _ z
      exact k v6 H6 e6 ((R2.trans R5).trans R6) (.inl ⟨hbd.1, hv6.fut (R6.fut (mu := fun a => a = b) rfl R5.bag)⟩) (hbd.2.mono (by omega) (by omega))
    · refine ⟨fun σ' H' => σ' = [some (.ref b), some v, some (.int n), some vo, none, none, none, none, none] ∧ Rel b H2 H', ?_, ?_⟩
      · refine ⟨_, rfl, v, "tuple", mF b, d, rfl, by decide, hd1.fut (.of_same s2), _, rfl, iteB (fun ht => ?_) fun ht => ?_⟩
        · obtain ⟨ds, rfl⟩ := (isTup d).mp ht
          obtain ⟨a, xs, rfl, hS, hA⟩ := (hd1.fut (.of_same s2)).tupAt
          have hS2 := hS
          have nbp2 : ∀ {H : Hp} {p : Addr}, BagAt H b → H p = none → p ≠ b := fun {H p} hb np z => by
            obtain ⟨_, _, _, _, _, q, _⟩ := hb
            rw [z, q] at np
            cases np
          refine ⟨_, rfl, Nat.zero_le _, fun q nq => ⟨a, q, xs, rfl, rfl, (same_upd nq).seqT hS, .of upd_same, _, rfl, iteB (fun hx => ?_) fun _ => iteF ⟨rfl, (Rel.refl hb2).same (same_upd nq)⟩⟩⟩
          have sq := same_upd (o := .tup []) nq
          have Rq := (Rel.refl hb2).same sq
          refine ⟨_, rfl, _, _, rfl, rfl, _, rfl, iteP (fun hn => ?_) fun _ => iteF ⟨rfl, Rq⟩⟩
          refine ⟨_, rfl, b, 4, rfl, Rq.bag, by decide, by decide, fun m H3 m0 m1 R3 => ⟨_, _, rfl, rfl, _, rfl, iteP (fun hm => ?_) fun _ => ⟨rfl, Rq.trans R3⟩⟩⟩
          have Rq3 := Rq.trans R3
          have hS3 := seqT_futL hS (Rq3.fut (mu := mF b) (.inl rfl) hb2)
          have hA3 := hA.fut (Rq3.fut (mu := mF b) (.inl rfl) hb2)
          have hxl := hA.length
          have hx0 : 0 < xs.length := by
            cases xs with
            | nil => exact absurd hx (by decide)
            | cons _ _ => exact Nat.zero_lt_succ _
          have hlw := len_wt ds
          have ew : (PyData.tuple ds).weight = PyData.weightAll ds := by simp [PyData.weight]
          have ed : (PyData.tuple ds).depth = PyData.depthAll ds + 1 := by simp [PyData.depth]
          have sl := sizeLine_eq
          refine ⟨_, rfl, _, rfl, _, _, rfl, .inr ⟨xs, hS3, rfl⟩, b, _, rfl, Rq3.bag, by omega, by omega, fun at4 H4 a0 a1 R4 => ?_⟩
          obtain ⟨i4, rfl⟩ : ∃ i4 : Nat, at4 = (i4 : Int) := ⟨at4.toNat, by omega⟩
          have Rq4 := Rq3.trans R4
          have hS4 := seqT_futL hS (Rq4.fut (mu := mF b) (.inl rfl) hb2)
          refine ⟨_, rfl, _, rfl, _, rfl, slA_use hS4 fun p1 H5 s5 hp1 => ?_⟩
          rw [cutV_to] at hp1
          have Rq5 := Rq4.same s5
          have f5 := Rq5.fut (mu := mF b) (.inl rfl) hb2
          have hS5 := seqT_futL hS f5
          have hi4 : i4 < xs.length := by omega
          obtain ⟨e, he, hxe⟩ := (hA.fut f5).get (List.getElem?_eq_getElem hi4)
          have hem := List.mem_of_getElem? he
          have hde := depth_mem hem
          have hwe := split_wt he
          obtain ⟨k1, rfl, rfl⟩ : ∃ k1, n = k1 + 1 ∧ sp = spBent K k1 := by
            rcases hsp with h | h
            · omega
            · exact h
          have hsmA : smA ds = true := by simpa only [smD] using hsm
          refine ⟨_, rfl, _, rfl, _, rfl, a, xs, (i4 : Int), _, rfl, rfl, hS5, atI_nat (List.getElem?_eq_getElem hi4), _, rfl, _, _, rfl, rfl, b, _, e, by simp, Rq5.bag, hxe, smA_mem hsmA hem, by omega, by omega, fun v6 H6 d6 R6 hv6 hd6 => ⟨by show 1 ≤ sizeLine; omega, fun p2 n2 => ?_⟩⟩
          have s6 := same_upd (o := .tup [v6]) n2
          have f56 : Fut (mF b) H5 H6 := R6.fut (mu := mF b) (.inl rfl) Rq5.bag
          refine catA_use (s6.seqT (seqT_futL hp1 f56)) (.of upd_same) (by rw [List.length_take]; show _ + 1 ≤ _; omega) fun p3 H7 s7 hp3 => ?_
          have Rq7 := ((Rq5.trans R6).same s6).same s7
          have f7 := Rq7.fut (mu := mF b) (.inl rfl) hb2
          have hS7 := seqT_futL hS f7
          refine ⟨_, rfl, _, rfl, _, _, rfl, rfl, _, rfl, nopart (slA_use hS7 fun p4 H8 s8 hp4 => ?_)⟩
          rw [show (i4 : Int) + 1 = ((i4 + 1 : Nat) : Int) from by omega, cutV_from] at hp4
          refine catA_use (s8.seqT hp3) hp4 (by simp only [List.length_append, List.length_take, List.length_drop, List.length_cons, List.length_nil]; omega) fun p5 H9 s9 hp5 => ?_
          have Rq9 := (Rq7.same s8).same s9
          have f9 := Rq9.fut (mu := mF b) (.inl rfl) hb2
          have hA9 := hA.fut f9
          have hv9 := hv6.fut (.of_same (((s6.trans s7).trans s8).trans s9))
          have ndA : PyData.hasDictAll ds = false := by simpa only [PyData.hasDict] using nd
          have okA1 : okA ds = true := by simpa only [okD] using okd
          refine k _ H9 _ (R2.trans Rq9) (vd_mid hp5 hv9 (hA9.take i4) (hA9.drop (i4 + 1)) (nd_take ndA i4).1 (nd_take ndA (i4 + 1)).2) ?_
          have o1 := (oda_take okA1 i4).mono (p' := PyData.depthAll ds + 3) (w' := PyData.weightAll (ds.take i4)) (by omega) (Nat.le_refl _)
          have o2 := (OdA.one hd6).mono (p' := PyData.depthAll ds + 3) (w' := 2 * e.weight + 1000 + 1) (by omega) (Nat.le_refl _)
          have o3 := (oda_drop okA1 (i4 + 1)).mono (p' := PyData.depthAll ds + 3) (w' := PyData.weightAll (ds.drop (i4 + 1))) (by omega) (Nat.le_refl _)
          exact ((o1.app o2).app o3).tup.mono (by omega) (by omega)
        · exact ⟨rfl, .refl hb2⟩
      · rintro σ' H3 ⟨rfl, R3⟩
        refine ⟨_, rfl, v, "tuple", mF b, d, rfl, by decide, (hd1.fut (.of_same s2)).fut (R3.fut (mu := mF b) (.inl rfl) hb2), _, rfl, iteB (fun ht => ?_) fun ht => ?_⟩
        · obtain ⟨ds, rfl⟩ := (isTup d).mp ht
          have Rq3 := ((Rel.refl hb1).same s2).trans R3
          obtain ⟨a, xs, rfl, hS, hA⟩ := hd1.tupAt
          have hxl := hA.length
          have hlw := len_wt ds
          have ew : (PyData.tuple ds).weight = PyData.weightAll ds := by simp [PyData.weight]
          have ed : (PyData.tuple ds).depth = PyData.depthAll ds + 1 := by simp [PyData.depth]
          have sl := sizeLine_eq
          have atQ : ∀ {H'' : Hp}, Rel b H1 H'' → SqT K H'' a xs := fun R => seqT_futL hS (R.fut (mu := mF b) (.inl rfl) hb1)
          refine ⟨_, rfl, _, rfl, _, _, rfl, .inr ⟨xs, atQ Rq3, rfl⟩, _, _, rfl, rfl, b, _, rfl, Rq3.bag, by omega, by omega, fun at4 H4 a0 a1 R4 => ?_⟩
          obtain ⟨i4, rfl⟩ : ∃ i4 : Nat, at4 = (i4 : Int) := ⟨at4.toNat, by omega⟩
          have Rq4 := Rq3.trans R4
          refine ⟨_, rfl, _, rfl, _, rfl, slA_use (atQ Rq4) fun p1 H5 s5 hp1 => ?_⟩
          rw [cutV_to] at hp1
          refine ⟨_, rfl, by show 1 ≤ sizeLine; omega, fun p2 n2 => ?_⟩
          have s6 := same_upd (o := .tup [vo]) n2
          refine catA_use (s6.seqT hp1) (.of upd_same) (by rw [List.length_take]; show _ + 1 ≤ _; omega) fun p3 H7 s7 hp3 => ?_
          have Rq7 := ((Rq4.same s5).same s6).same s7
          refine ⟨_, rfl, _, rfl, _, rfl, nopart (slA_use (atQ Rq7) fun p4 H8 s8 hp4 => ?_)⟩
          rw [cutV_from] at hp4
          refine catA_use (s8.seqT hp3) hp4 (by simp only [List.length_append, List.length_take, List.length_drop, List.length_cons, List.length_nil]; omega) fun p5 H9 s9 hp5 => ?_
          have Rq9 := (Rq7.same s8).same s9
          refine ⟨_, rfl, _, rfl, _, rfl, slA_use (atQ Rq9) fun p6 H10 s10 hp6 => ?_⟩
          rw [cutV_to] at hp6
          have Rq10 := Rq9.same s10
          refine ⟨_, rfl, _, rfl, _, _, rfl, rfl, _, rfl, nopart (slA_use (atQ Rq10) fun p7 H11 s11 hp7 => ?_)⟩
          rw [show (i4 : Int) + 1 = ((i4 + 1 : Nat) : Int) from by omega, cutV_from] at hp7
          refine catA_use (s11.seqT hp6) hp7 (by simp only [List.length_take, List.length_drop]; omega) fun p8 H12 s12 hp8 => ?_
          have Rq12 := (Rq10.same s11).same s12
          have nbp2 : ∀ {H : Hp} {p : Addr}, BagAt H b → H p = none → p ≠ b := fun {H p} hb np z => by
            obtain ⟨_, _, _, _, _, q, _⟩ := hb
            rw [z, q] at np
            cases np
          refine ⟨_, _, rfl, _, rfl, _, rfl, _, rfl, _, rfl, a, xs, rfl, atQ Rq12, fun p10 n10 => ?_⟩
          have s13 := same_upd (o := .tup xs.reverse) n10
          have Rq13 := Rq12.same s13
          refine ⟨_, rfl, _, rfl, _, rfl, slA_use (atQ Rq13) fun p11 H14 s14 hp11 => ?_⟩
          rw [cutV_to] at hp11
          have Rq14 := Rq13.same s14
          refine ⟨_, rfl, catA_use hp11 (atQ Rq14) (by simp only [List.length_take]; omega) fun p12 H15 s15 hp12 => ?_⟩
          have Rq15 := Rq14.same s15
          refine ⟨_, rfl, a, xs, rfl, .inr (atQ Rq15), fun p16 n16 => ?_⟩
          have s16 := same_upd (o := .lst xs) n16
          have Rq16 := Rq15.same s16
          refine ⟨_, rfl, by show 1 ≤ sizeLine; omega, fun p17 n17 => ?_⟩
          have s17 := same_upd (o := .tup [.ref a]) n17
          have Rq17 := Rq16.same s17
          refine ⟨_, rfl, by show 8 ≤ sizeLine; omega, fun p18 n18 => ?_⟩
          have s18 := same_upd (o := .lst [.ref p5, .ref p8, .ref p10, .ref p12, .ref p16, .ref p17, .non, vo]) n18
          have Rq18 := Rq17.same s18
          refine ⟨b, p18, _, rfl, Rq18.bag, nbp2 Rq17.bag n18, upd_same, by show 0 < 8; decide, by show 8 ≤ 1000; decide, fun ix v19 H19 hx R19 => ?_⟩
          have Rq19 := Rq18.trans R19
          have c17 := s17.trans s18
          have c16 := s16.trans c17
          have c15 := s15.trans c16
          have c13 := s13.trans (s14.trans c15)
          have c9 := s10.trans (s11.trans (s12.trans c13))
          have T9 := ((Rel.refl Rq9.bag).same c9).trans R19
          have T12 := ((Rel.refl Rq12.bag).same c13).trans R19
          have T13 := ((Rel.refl Rq13.bag).same (s14.trans c15)).trans R19
          have T15 := ((Rel.refl Rq15.bag).same c16).trans R19
          have T16 := ((Rel.refl Rq16.bag).same c17).trans R19
          have T17 := ((Rel.refl Rq17.bag).same s18).trans R19
          have f19 := Rq19.fut (mu := mF b) (.inl rfl) hb1
          have hA19 := hA.fut f19
          have hA0 := hA19.less (mv := fun a => a = b) fun a z => .inl z
          have hv19 := hvo.fut (Rq19.fut (mu := fun a => a = b) rfl hb1)
          have h5 := seqT_futL hp5 (T9.fut (mu := mF b) (.inl rfl) Rq9.bag)
          have h8 := seqT_futL hp8 (T12.fut (mu := mF b) (.inl rfl) Rq12.bag)
          have h10 := seqT_futL (K := K) (.of upd_same) (T13.fut (mu := mF b) (.inl rfl) Rq13.bag)
          have h12 := seqT_futL hp12 (T15.fut (mu := mF b) (.inl rfl) Rq15.bag)
          have h16 := T16.keep _ _ (nbp2 Rq15.bag n16) upd_same
          have h17 := seqT_futL (K := K) (.of upd_same) (T17.fut (mu := mF b) (.inl rfl) Rq17.bag)
          have ndA : PyData.hasDictAll ds = false := by simpa only [PyData.hasDict] using nd
          have okA1 : okA ds = true := by simpa only [okD] using okd
          have kk : ∀ {v d'}, Vd K b H19 v d' → Od ((PyData.tuple ds).depth + 3) (2 * (PyData.tuple ds).weight + 1000) d' → Q v H19 := fun h o => k _ H19 _ (R1.trans Rq19) h o
          have oA : OdA (PyData.depthAll ds) (PyData.weightAll ds) ds := ⟨okA1, Nat.le_refl _, Nat.le_refl _⟩
          have oT := oda_take okA1 i4
          have oD := oda_drop okA1 i4
          have oD1 := oda_drop okA1 (i4 + 1)
          have w1 : PyData.weightAll (ds.take i4) + PyData.weightAll (ds.drop i4) = PyData.weightAll ds := by rw [← wt_app, List.take_append_drop]
          have w2 : PyData.weightAll (ds.take (i4 + 1)) + PyData.weightAll (ds.drop (i4 + 1)) = PyData.weightAll ds := by rw [← wt_app, List.take_append_drop]
          have nT := (nd_take ndA i4).1
          have nD := (nd_take ndA i4).2
          have nD1 := (nd_take ndA (i4 + 1)).2
          have hm := List.mem_of_getElem? hx
          simp only [List.mem_cons, List.not_mem_nil, or_false] at hm
          rcases hm with rfl | rfl | rfl | rfl | rfl | rfl | rfl | rfl
          · refine kk (vd_mid h5 hv19 (hA19.take i4) (hA19.drop i4) nT nD) ?_
            exact (((oT.mono (p' := PyData.depthAll ds + 2) (by omega) (Nat.le_refl _)).app ((OdA.one hdo).mono (p' := PyData.depthAll ds + 2) (by omega) (Nat.le_refl _))).app (oD.mono (p' := PyData.depthAll ds + 2) (by omega) (Nat.le_refl _))).tup.mono (by omega) (by omega)
          · refine kk (.inl ⟨?_, dt_tup h8 ((hA0.take i4).append (hA0.drop (i4 + 1)))⟩) ((oT.app oD1).tup.mono (by omega) (by omega))
            simp only [PyData.hasDict, nd_app, nT, nD1, Bool.or_false]
          · refine kk (.inl ⟨?_, dt_tup h10 (dtA_rev hA0)⟩) ((oda_rev okA1).tup.mono (by omega) (by omega))
            simp only [PyData.hasDict]
            exact nd_rev ndA
          · refine kk (.inl ⟨?_, dt_tup h12 ((hA0.take i4).append hA0)⟩) ((oT.app oA).tup.mono (by omega) (by omega))
            simp only [PyData.hasDict, nd_app, nT, ndA, Bool.or_false]
          · refine kk (.inl ⟨?_, .lst (nbp2 Rq15.bag n16) (.inl h16) hA0⟩) (oA.lst.mono (by omega) (by omega))
            simp only [PyData.hasDict]
            exact ndA
          · refine kk (.inl ⟨?_, dt_tup h17 (.cons (dt_tup (atQ Rq19) hA0) .nil)⟩) ((OdA.one oA.tup).tup.mono (by omega) (by omega))
            simp only [PyData.hasDict, PyData.hasDictAll, ndA, Bool.or_false]
          · exact kk (.inl ⟨rfl, .non⟩) ((bd_non (p := 0) (w := 0)).2.mono (by omega) (by omega))
          · exact kk hv19 (hdo.mono (by omega) (by omega))
        · have Rq3 := ((Rel.refl hb1).same s2).trans R3
          refine ⟨_, rfl, v, "str", mF b, d, rfl, by decide, hd1.fut (Rq3.fut (mu := mF b) (.inl rfl) hb1), _, rfl, iteB (fun hs => ?_) fun hs => ?_⟩
          · obtain ⟨z, rfl⟩ : ∃ z, d = .str z := by
              cases d <;> first | exact ⟨_, rfl⟩ | (simp [isT, tyName] at hs)
            cases hd1
            have hsm2 := hsm
            simp only [smD, Bool.and_eq_true, decide_eq_true_eq] at hsm2
            obtain ⟨⟨zo, z1, z13⟩, zl⟩ := hsm2
            have sl := sizeLine_eq
            have nbp2 : ∀ {H : Hp} {p : Addr}, BagAt H b → H p = none → p ≠ b := fun {H p} hb np z => by
              obtain ⟨_, _, _, _, _, q, _⟩ := hb
              rw [z, q] at np
              cases np
            refine ⟨_, rfl, _, _, rfl, rfl, by show _ + 1 ≤ _; omega, _, rfl, rfl, z, rfl, rfl, by omega, _, rfl, _, _, rfl, rfl, by show _ + 1 ≤ _; omega, _, rfl, z, 5, rfl, rfl, by decide, by decide, z1, by omega, fun r5 hr5 hok5 => ?_⟩
            refine ⟨_, rfl, _, rfl, nopart ⟨z, rfl, by omega, ?_⟩⟩
            refine ⟨_, rfl, by show 1 ≤ sizeLine; omega, fun p1 n1 => ?_⟩
            have s4 := same_upd (o := .lst [.str z]) n1
            have Rq4 := Rq3.same s4
            refine ⟨by show 10 ≤ sizeLine; omega, fun p2 n2 => ?_⟩
            refine ⟨_, rfl, _, rfl, b, p2, _, rfl, Rq4.bag.same (same_upd n2), nbp2 Rq4.bag n2, upd_same, by show 0 < 10; decide, by show 10 ≤ 1000; decide, fun ix v9 H9 hx R9 => ?_⟩
            have Rq9 := (Rq4.same (same_upd n2)).trans R9
            have h1 := (((Rel.refl Rq4.bag).same (same_upd (o := .lst [.str (z ++ "a"), .str (Txt.upper z), .str (z ++ " "), .str "", .str r5, .str (Txt.slice z (some 1) none), .ref p1, .non, .str "give", .str "due"]) n2)).trans R9).keep _ _ (nbp2 Rq3.bag n1) upd_same
            have kk : ∀ {v d'}, Vd K b H9 v d' → Od ((PyData.str z).depth + 3) (2 * (PyData.str z).weight + 1000) d' → Q v H9 := fun h o => k _ H9 _ (R1.trans Rq9) h o
            have ks : ∀ {x : Str}, PyData.strOk x = true → x.length ≤ 1000 → Q (.str x) H9 := fun {x} h1 h2 => kk (d' := .str x) (.inl ⟨rfl, .str x⟩) ⟨by simp only [okD]; exact h1, by simp [PyData.depth], by
              simp only [PyData.weight]
              have : x.cps.size ≤ 1000 := h2
              omega⟩
            have hup := len_upper z
            have hcut := len_cut (z := z) (lo := some 1) (hi := none)
            have hm := List.mem_of_getElem? hx
            simp only [List.mem_cons, List.not_mem_nil, or_false] at hm
            rcases hm with rfl | rfl | rfl | rfl | rfl | rfl | rfl | rfl | rfl | rfl
            · refine ks (sok_app zo (by decide +kernel)) ?_
              rw [PySem.Str.length_append]
              show _ + 1 ≤ 1000
              omega
            · exact ks (sok_upper zl) (by omega)
            · refine ks (sok_app zo (by decide +kernel)) ?_
              rw [PySem.Str.length_append]
              show _ + 1 ≤ 1000
              omega
            · exact ks (by decide +kernel) (by decide)
            · exact ks (hok5 zo) (by rw [hr5]; show z.length * 5 ≤ 1000; omega)
            · exact ks (sok_cut zo) (by omega)
            · refine kk (.inl ⟨rfl, .lst (nbp2 Rq3.bag n1) (.inl h1) (.cons (.str z) .nil)⟩) ((OdA.one (d := .str z) (p := 0) (w := 13) ⟨by simp only [okD]; exact zo, by simp [PyData.depth], by simp only [PyData.weight]; exact z13⟩).lst.mono (by omega) (by omega))
            · exact kk (.inl ⟨rfl, .non⟩) ((bd_non (p := 0) (w := 0)).2.mono (by omega) (by omega))
            · exact ks (by decide +kernel) (by decide)
            · exact ks (by decide +kernel) (by decide)
          · exact ⟨_, rfl, k _ H3 _ (R1.trans Rq3) (hvo.fut (Rq3.fut (mu := fun a => a = b) rfl hb1)) (hdo.mono (by omega) (by omega))⟩
end
end K16
namespace K16
open PySem PySem.Spec PyProof.Rows L2 Sw StX RZ
def spLaw (K : PySem.W.Frag) : Sp := fun vs H Q _ => ∃ (a : Addr) (ns : List Int), vs = [.ref a] ∧ SqL K H a (ns.map V.int) ∧ ns.length ≤ 63 ∧ ∀ H', Q (.bl true) H'
section
variable {P : Program} {w : World} {K : PySem.W.Frag} {mg : Str → Option Value} {base : Heap}
structure Defs (P : Program) (w : World) (K : PySem.W.Frag) (mg : Str → Option Value) (base : Heap) : Prop where
  bag : CalG P w K mg base 1 "_law_bag" (spBag K)
  take : CalG P w K mg base 1 "_law_take" spTake
  some : CalG P w K mg base 2 "_law_some" spSome
  alike : CalG P w K mg base 1 "_law_alike" (spAlike K)
  deed : CalG P w K mg base 7 "_law_any_deed" (spDeed K)
  units : CalG P w K mg base 14 "_law_units_in" (spUnits K 10)
  truth : CalG P w K mg base 14 "_law_with_truth" (spTruth K 10)
  bent : CalG P w K mg base 12 "_law_bent" (spBent K 6)
  ldeed : CalG P w K mg base 56 "_law_is_deed" (spP K isDeed)
  lents : CalG P w K mg base 57 "_law_are_entries" (spP K areEnt)
  pdeed : CalG P w K mg base 8 "is_deed" (spP K isDeed)
  pents : CalG P w K mg base 10 "are_entries" (spP K areEnt)
theorem tup_two {te te2 : TE} {σ : L2.St} {H : Hp} {Q : VK} (h : te σ H fun x H1 => te2 σ H1 fun y H2 => 2 ≤ sizeLine ∧ ∀ p, H2 p = none → Q (.ref p) (upd H2 p (.tup [x, y]))) : tTup (tCons te (tCons te2 tNil)) σ H Q := h
def DayD (d : PyData) : Prop := ∃ j : Int, d = .int j ∧ j.natAbs ≤ 1000000000
theorem dayI {j : Int} (h : j.natAbs ≤ 1000000000) : DayD (.int j) := ⟨j, rfl, h⟩
def EntD (e : PyData) : Prop := ∃ (j : Int) (d : PyData), e = .tuple [.int j, d] ∧ j.natAbs ≤ 1000000000 ∧ DeedD d
theorem lrel_rel {b L : Addr} {H H' : Hp} {u : Int} (hb : BagAt H b) (nL : H L = none) (r : LRel L (upd H L (.lst [.int u])) H') : Rel b H H' :=
  Rel.of_same hb fun a o e => r.keep a o (fun z => by rw [z, nL] at e; cases e) (by rw [upd_ne (ne_of_none e nL)]; exact e)
theorem ent_sd {e : PyData} (h : EntD e) : Sd 7 2450 e := by
  obtain ⟨j, d, rfl, hj, hd⟩ := h
  have s := hd.sd
  have hj2 : j.natAbs < 10 ^ 40 := Nat.lt_of_le_of_lt hj (by decide +kernel)
  have w := (od_int (p := 0) (w := 140) (i := j) (by omega) (by decide)).wt
  refine ⟨by simp only [smD, smA, s.ok, Bool.and_true, decide_eq_true_eq]; exact hj2, by simp only [PyData.hasDict, PyData.hasDictAll, s.nd, Bool.or_false], ?_, ?_⟩
  · have := s.dp
    simp only [PyData.depth, PyData.depthAll]
    omega
  · have := s.wt
    simp only [PyData.weight, PyData.weightAll] at w ⊢
    omega
theorem ents_sd : ∀ {es : List PyData}, (∀ e ∈ es, EntD e) → SdA 7 (2451 * es.length) es
  | [], _ => SdA.nil
  | e :: es, h => SdA.cons (ent_sd (h e List.mem_cons_self)) (ents_sd fun x hx => h x (List.mem_cons_of_mem _ hx)) (by rw [List.length_cons]; omega)
theorem ents_tup {es : List PyData} (h : ∀ e ∈ es, EntD e) (hl : es.length ≤ 3) : Sd 8 8000 (.tuple es) := by
  have s := ents_sd h
  refine ⟨by simp only [smD]; exact s.ok, by simp only [PyData.hasDict]; exact s.nd, ?_, ?_⟩
  · have := s.dp
    simp only [PyData.depth]
    omega
  · have := s.wt
    simp only [PyData.weight]
    omega
theorem ents_are {es : List PyData} (h : ∀ e ∈ es, EntD e) : areEnt (.tuple es) = true := by
  simp only [areEnt]
  rw [List.all_eq_true]
  intro e he
  obtain ⟨j, d, rfl, _, hd⟩ := h e he
  simp only [isEnt, hd.dd, Bool.and_true]
  rfl
abbrev slaw : Stmt := topS 46
theorem sc_law : FnScope ["script", "bag", "turn", "deeds", "k", "entries", "deed", "thing", "way", "text", "due", "again"] ["script"] (defScope slaw) := ⟨rfl, rfl, rfl, by decide +kernel, rfl, by decide +kernel, by decide +kernel⟩
theorem ok_law {f : Addr} {fd : FuncData} (F : Fun K "law" "law" slaw f fd) (B : Bt mg) (D : Defs P w K mg base) : FnG P w K mg base 60 f fd ["script"] (spLaw K) := by
  refine Fun.okG F sc_law (fun vs H Q E h => ?_) (fun cdv A outer s H vs Q E hg hr h => ?_)
  · obtain ⟨a, ns, rfl, _⟩ := h
    rfl
  obtain ⟨a, ns, rfl, hS, hl, k⟩ := h
  have hu := Room.u64 hr
  have c__law_bag := D.bag
  have c__law_take := D.take
  have c__law_some := D.some
  have c__law_alike := D.alike
  have c__law_any_deed := D.deed
  have c__law_units_in := D.units
  have c__law_with_truth := D.truth
  have c__law_bent := D.bent
  have c__law_is_deed := D.ldeed
  have c__law_are_entries := D.lents
  have c_is_deed := D.pdeed
  have c_are_entries := D.pents
  refine ⟨_, (pss_cons (ps_set (i := 1) sc_law.nd rfl (Or.inr rfl) (pc c__law_bag hg hr (by omega) (by rfl) (pa_cons (pv 0) pa_nil)))
    (pss_cons (ps_for PassesOwn.never rfl (pi_range1 (by rfl) B.range (pa_cons pe_int pa_nil)) (pg_name (i := 2) sc_law.nd rfl (Or.inl rfl))
      (pss_cons (ps_setLc (i := 3) (own := [("k", 4)]) rfl sc_law.nd rfl rfl (sw_true rfl rfl rfl (by decide +kernel)) (pi_range1 (by rfl) B.range (pa_cons (pe_op op_add pe_int (pc c__law_take hg hr (by omega) (by rfl) (pa_cons (pv 1) (pa_cons pe_int pa_nil)))) pa_nil)) (blkOk_by (own := [("k", 4)]) (N := ["script", "bag", "turn", "deeds", "k", "entries", "deed", "thing", "way", "text", "due", "again"]) (sc := (defScope slaw)) (by decide +kernel)) (fun _ _ _ _ _ => (pg_name (i := 4) sc_law.nd rfl (Or.inl rfl))) (fun _ _ _ _ _ => pts_nil) (fun _ _ _ _ _ => (pc c__law_any_deed hg hr (by omega) (by rfl) (pa_cons (pv 1) pa_nil))))
      (pss_cons (ps_set (i := 5) sc_law.nd rfl (Or.inl rfl) (pe_callTy call_tuple_of (by rfl) B.tuple bb_tuple (pa_cons (pe_lc (own := [("deed", 6)]) rfl sc_law.nd (pi_list (pv 3)) (blkOk_by (own := [("deed", 6)]) (N := ["script", "bag", "turn", "deeds", "k", "entries", "deed", "thing", "way", "text", "due", "again"]) (sc := (defScope slaw)) (by decide +kernel)) (fun _ _ _ _ _ => (pg_name (i := 6) sc_law.nd rfl (Or.inl rfl))) (fun _ _ _ _ _ => pts_nil) (fun _ _ _ _ _ => (pe_tup (pa_cons (pc c__law_some hg hr (by omega) (by rfl) (pa_cons (pv 1) (pa_cons (pe_lst (pa_cons pe_int (pa_cons pe_int (pa_cons (pe_un un_neg pe_int) (pa_cons pe_int (pa_cons (pe_op op_pow pe_int pe_int) pa_nil)))))) pa_nil))) (pa_cons (pv 6) pa_nil))))) pa_nil)))
      (pss_cons (ps_for PassesOwn.never rfl (pi_tup (pe_tup (pa_cons (pe_ix ix_list (pv 3) pe_int (fun _ _ => rfl)) (pa_cons (pv 5) (pa_cons (pe_tup pa_nil) pa_nil))))) (pg_name (i := 7) sc_law.nd rfl (Or.inl rfl))
        (pss_cons (ps_set (i := 8) sc_law.nd rfl (Or.inl rfl) (pc c__law_take hg hr (by omega) (by rfl) (pa_cons (pv 1) (pa_cons pe_int pa_nil))))
        (C8.pss_cut (ps_if (PW.pt (pw_and (pt_cmpR op_eq (pv 8) pe_int (nomark _)) (pw_and1 (pt_cmpR op_gt (pc c__law_units_in hg hr (by omega) (by rfl) (pa_cons (pv 7) pa_nil)) pe_int (nomark _)))))
          (pss_one (ps_set (i := 7) sc_law.nd rfl (Or.inl rfl) (pc c__law_with_truth hg hr (by omega) (by rfl) (pa_cons (pv 7) (pa_cons (pe_lst (pa_cons (pc c__law_take hg hr (by omega) (by rfl) (pa_cons (pv 1) (pa_cons (pc c__law_units_in hg hr (by omega) (by rfl) (pa_cons (pv 7) pa_nil)) pa_nil))) pa_nil)) pa_nil)))))
          (pss_one (ps_if (pt_cmpR op_lt (pv 8) pe_int (nomark _))
            (pss_one (ps_set (i := 7) sc_law.nd rfl (Or.inl rfl) (pc c__law_bent hg hr (by omega) (by rfl) (pa_cons (pv 1) (pa_cons (pv 7) (pa_cons pe_int pa_nil))))))
            pss_nil)))
        (pss_cons (ps_par (i := 9) (j := 10) rfl sc_law.nd rfl rfl (by decide) rfl rfl (pa_cons (pe_callB (call_repr hg hu) (by rfl) B.repr bb_repr (pa_cons (pv 7) pa_nil)) (pa_cons (pe_lst (pa_cons (pc c__law_is_deed hg hr (by omega) (by rfl) (pa_cons (pv 7) pa_nil)) (pa_cons (pc c__law_are_entries hg hr (by omega) (by rfl) (pa_cons (pv 7) pa_nil)) pa_nil))) pa_nil)) (by rfl))
        (pss_one (ps_for PassesOwn.never rfl (pi_range1 (by rfl) B.range (pa_cons pe_int pa_nil)) (pg_name (i := 11) sc_law.nd rfl (Or.inl rfl))
          (pss_one (ps_if (PW.pt (pw_or (pt_not (pt_val (pc c__law_alike hg hr (by omega) (by rfl) (pa_cons (pe_lst (pa_cons (pc c_is_deed hg hr (by omega) (by rfl) (pa_cons (pv 7) pa_nil)) (pa_cons (pc c_are_entries hg hr (by omega) (by rfl) (pa_cons (pv 7) pa_nil)) pa_nil))) (pa_cons (pv 10) pa_nil))))) (pw_or1 (pt_cmpR op_ne (pe_callB (call_repr hg hu) (by rfl) B.repr bb_repr (pa_cons (pv 7) pa_nil)) (pv 9) (nomark _)))))
            (pss_one (ps_ret pe_bl))
            pss_nil))))))))
      (pss_one (ps_if (pt_not (pt_val (pc c__law_alike hg hr (by omega) (by rfl) (pa_cons (pe_lst (pa_cons (pc c_is_deed hg hr (by omega) (by rfl) (pa_cons (pe_ix ix_list (pv 3) pe_int (fun _ _ => rfl)) pa_nil)) (pa_cons (pc c_are_entries hg hr (by omega) (by rfl) (pa_cons (pv 5) pa_nil)) (pa_cons (pc c_are_entries hg hr (by omega) (by rfl) (pa_cons (pe_callTy call_list_of (by rfl) B.list bb_list (pa_cons (pv 5) pa_nil)) pa_nil)) pa_nil)))) (pa_cons (pe_lst (pa_cons pe_bl (pa_cons pe_bl (pa_cons pe_bl pa_nil)))) pa_nil)))))
        (pss_one (ps_ret pe_bl))
        pss_nil))))))
    (pss_one (ps_ret pe_bl)))), ?_⟩
  refine ⟨_, rfl, a, ns, rfl, hS, hl, fun b H1 s1 nb hb => ?_⟩
  refine ⟨8, rfl, by decide, by decide, ?_⟩
  have nbp : ∀ {H : Hp} {p : Addr}, BagAt H b → H p = none → p ≠ b := fun {H p} hb np z => by
    obtain ⟨_, _, _, _, _, q, _⟩ := hb
    rw [z, q] at np
    cases np
  have mo : ∀ {H4 : Hp} {D : Addr} {xs : List V}, BagAt H4 b → H4 D = some (.lst xs) → MuOk (fun a => mF b a ∨ a = D) H4 := fun {H4 D xs} hb hD a h => by
    rcases h with h | rfl
    · exact (MuOk.bag hb) a h
    · exact .inl (by rw [hD]; exact fun z => nomatch z)
  refine for_it (walk_range (lo := 0) (n := 8)) (fun i σ H' => ∃ o2 o3 o5 o7 o8 o9 o10 o11, σ = [some (.ref a), some (.ref b), o2, o3, none, o5, none, o7, o8, o9, o10, o11] ∧ BagAt H' b) ⟨_, _, _, _, _, _, _, _, rfl, hb⟩ (fun _ _ _ _ _ => trivial) (fun i x σ H2 H3 hi h y => ?_) fun σ H2 h => ?_
  · obtain ⟨o2, o3, o5, o7, o8, o9, o10, o11, rfl, hb2⟩ := h
    obtain ⟨rfl, hx⟩ := y
    refine ⟨_, rfl, b, 3, rfl, hb2, by decide, by decide, fun m H4 m0 m1 R4 => ⟨_, _, rfl, rfl, 1 + m, rfl, by omega, by omega, fun D nD => ?_⟩⟩
    have hb4 := R4.bag
    have nDb := nbp hb4 nD
    refine lc_it (walk_range (lo := 0) (n := (1 + m).toNat)) (fun i' H' => ∃ xs ds, H' D = some (.lst xs) ∧ DtA K (fun a => mF b a ∨ a = D) H' xs ds ∧ ds.length = i' ∧ (∀ d ∈ ds, DeedD d) ∧ Rel b H4 H') ⟨[], [], upd_same, .nil, rfl, (fun d h => nomatch h), Rel.of_same hb4 (same_upd nD)⟩ (fun _ _ _ _ => True.intro) ?_ ?_
    · rintro i' x' H5 H6 hi' ⟨xs, ds, hD, hA, hlen, hcl, R5⟩ ⟨rfl, hx'⟩
      refine ⟨rfl, _, rfl, b, (fun a => mF b a ∨ a = D), rfl, .inl (.inl rfl), R5.bag, mo R5.bag hD, fun v7 H7 d7 hd7 R7 hv7 => ?_⟩
      have hD7 := R7.keep _ _ nDb hD
      have f1 : Fut (fun a => mF b a ∨ a = D) H6 H7 := R7.fut (.inl (.inl rfl)) R5.bag
      have f2 : Fut (fun a => mF b a ∨ a = D) H7 (upd H7 D (.lst (xs ++ [v7]))) := (fut_at hD7).mono fun a z => .inr z
      refine ⟨_, hD7, small1000 (by rw [hA.length]; omega), xs ++ [v7], ds ++ [d7], upd_same, ((hA.fut f1).fut f2).append (.cons (hv7.fut f2) .nil), by rw [List.length_append, hlen]; rfl, fun d hd => ?_, (R5.trans R7).at hb4 nD⟩
      rcases List.mem_append.mp hd with hd | hd
      · exact hcl d hd
      · rw [List.mem_singleton.mp hd]
        exact hd7
    rintro H5 ⟨xs, ds, hD, hA, hlen, hcl, R5⟩
    have hb5 := R5.bag
    have hxl := hA.length
    have hl4 : ds.length ≤ 3 ∧ 1 ≤ ds.length := by omega
    refine ⟨_, rfl, D, rfl, ⟨xs, .inl (.inl hD)⟩, fun D2 nD2 => ?_⟩
    have hA5 := (hA.less (mv := mF b) fun a z => .inl z).more nD2
    have nD2b := nbp hb5 nD2
    refine lc_it (walk_list (K := K) (a := D) (xs := xs)) (fun i' H' => ∃ ys es, H' D2 = some (.lst ys) ∧ DtA K (fun a => mF b a ∨ a = D2) H' ys es ∧ es.length = i' ∧ (∀ e ∈ es, EntD e) ∧ Rel b H5 H') ⟨[], [], upd_same, .nil, rfl, (fun d h => nomatch h), Rel.of_same hb5 (same_upd nD2)⟩ (fun i' H' _ h => ?_) ?_ ?_
    · obtain ⟨_, _, _, _, _, _, R⟩ := h
      exact .inl (.inl (R.keep _ _ nDb hD))
    · rintro i' x' H6 H7 hi' ⟨ys, es, hD2, hE, hel, hec, R6⟩ ⟨rfl, hx'⟩
      obtain ⟨d6, he6, hxe⟩ := hA5.get hx'
      have M6 := mo R6.bag hD2
      refine ⟨rfl, ?_⟩
      refine iteT (B := True) (iteT (tup_two ?_))
      refine gv_some (K := K) (b := b) (mu := fun a => mF b a ∨ a = D2) (D := DayD) (n := 5) (.inl (.inl rfl)) rfl (gvA_cons (.inl (.inl rfl)) (Sw.ge_int.gv (dayI (by decide +kernel))) (gvA_cons (.inl (.inl rfl)) (Sw.ge_int.gv (dayI (by decide +kernel))) (gvA_cons (.inl (.inl rfl)) (ge_neg.gv (dayI (by decide +kernel))) (gvA_cons (.inl (.inl rfl)) (Sw.ge_int.gv (dayI (by decide +kernel)))
        (gvA_cons (.inl (.inl rfl)) (fun H r m Q q => ⟨_, _, rfl, rfl, ⟨by decide, by decide, by decide⟩, q _ H (.int (10 ^ 9)) (dayI (by decide +kernel)) (.refl r.bag) (.int _) (own_not fun _ z => nomatch z)⟩) gvA_nil))))) (by decide) (by decide) H7 (.refl R6.bag) M6 _ fun v8 H8 d8 hd8 R8 hv8 _ => ?_
      obtain ⟨j8, rfl, hj8⟩ := hd8
      cases hv8
      have hD8 := R8.keep _ _ nD2b hD2
      refine ⟨_, rfl, (show 2 ≤ sizeLine by decide), fun p np => ?_⟩
      have sp := same_upd (o := .tup [.int j8, x']) np
      have hD9 := sp _ _ hD8
      have R8p := R8.same sp
      have R9 := R6.trans R8p
      have fA : Fut (fun a => mF b a ∨ a = D2) H7 (upd H8 p (.tup [.int j8, x'])) := R8p.fut (.inl (.inl rfl)) R6.bag
      have hx9 : Dt K (fun a => mF b a ∨ a = D2) (upd H8 p (.tup [.int j8, x'])) x' d6 := hxe.fut (R9.fut (.inl (.inl rfl)) hb5)
      have hp9 : SqT K (upd H8 p (.tup [.int j8, x'])) p [.int j8, x'] := .of upd_same
      revert hD9 R9 fA hx9 hp9
      generalize upd H8 p (.tup [.int j8, x']) = H9
      intro hD9 R9 fA hx9 hp9
      have f2 : Fut (fun a => mF b a ∨ a = D2) H9 (upd H9 D2 (.lst (ys ++ [.ref p]))) := (fut_at hD9).mono fun a z => .inr z
      refine ⟨ys, hD9, small1000 (by rw [hE.length]; omega), ys ++ [.ref p], es ++ [.tuple [.int j8, d6]], upd_same, ((hE.fut fA).fut f2).append (.cons (dt_tup (seqT_futL hp9 f2) (.cons (.int j8) (.cons (hx9.fut f2) .nil))) .nil), by rw [List.length_append, hel]; rfl, fun e he => ?_, R9.at hb5 nD2⟩
      rcases List.mem_append.mp he with he | he
      · exact hec e he
      · rw [List.mem_singleton.mp he]
        exact ⟨j8, d6, rfl, hj8, hcl d6 (List.mem_of_getElem? he6)⟩
    rintro H6 ⟨ys, es, hD2, hE, hel, hec, R6⟩
    have hA6 := (hA.less (mv := mF b) fun a z => .inl z).fut (R6.fut (mu := mF b) (.inl rfl) hb5)
    have hD6 := R6.keep _ _ nDb hD
    refine ⟨D2, ys, rfl, .inl ⟨.inl (.inl hD2), fun l nl => ?_⟩⟩
    have sl := same_upd (o := .tup ys) nl
    have R7 := R6.same sl
    have hA7 := hA6.fut (.of_same sl)
    have hE7 := (hE.less (mv := mF b) fun a z => .inl z).fut (.of_same sl)
    have hD7 := sl _ _ hD6
    have hl7 : SqT K (upd H6 l (.tup ys)) l ys := .of upd_same
    revert R7 hA7 hE7 hD7 hl7
    generalize upd H6 l (.tup ys) = H7
    intro R7 hA7 hE7 hD7 hl7
    obtain ⟨v0, xs0, rfl⟩ : ∃ v0 xs0, xs = v0 :: xs0 := by
      cases xs with
      | nil => rw [List.length_nil] at hxl; omega
      | cons v0 xs0 => exact ⟨v0, xs0, rfl⟩
    obtain ⟨d0, hd0, hv0⟩ := hA7.get (i := 0) rfl
    have dd0 := hcl d0 (List.mem_of_getElem? hd0)
    refine ⟨_, rfl, D, _, 0, _, rfl, rfl, .inl (.inl hD7), atI_nat (j := 0) rfl, _, rfl, Nat.zero_le _, fun q nq => ⟨(show 3 ≤ sizeLine by decide), fun T nT => ?_⟩⟩
    have s8 := same_upd (o := .tup []) nq
    have s9 := same_upd (o := .tup [v0, .ref l, .ref q]) nT
    have s89 := s8.trans s9
    have R9 := R7.same s89
    have hq9 := s9.seqT (K := K) (a := q) (xs := []) (.of upd_same)
    have hT9 : SqT K (upd (upd H7 q (.tup [])) T (.tup [v0, .ref l, .ref q])) T [v0, .ref l, .ref q] := .of upd_same
    have hE9 := hE7.fut (.of_same s89)
    have hl9 := s89.seqT hl7
    have hv9 := hv0.fut (.of_same s89)
    have hD9 := s89 _ _ hD7
    refine ⟨T, rfl, ⟨_, hT9⟩, ?_⟩
    revert R9 hq9 hT9 hE9 hl9 hv9 hD9
    generalize upd (upd H7 q (.tup [])) T (.tup [v0, .ref l, .ref q]) = H9
    intro R9 hq9 hT9 hE9 hl9 hv9 hD9
    have hb9 := R9.bag
    have hX : DtA K (mF b) H9 [v0, .ref l, .ref q] [d0, .tuple es, .tuple []] := .cons hv9 (.cons (dt_tup hl9 hE9) (.cons (dt_tup hq9 .nil) .nil))
    have hTh : ∀ d ∈ [d0, .tuple es, .tuple []], Sd 8 8000 d := fun d hd => by
      simp only [List.mem_cons, List.not_mem_nil, or_false] at hd
      rcases hd with rfl | rfl | rfl
      · exact dd0.sd.mono (by decide) (by decide)
      · exact ents_tup hec (by omega)
      · exact ⟨rfl, rfl, by decide, by decide⟩
    refine for_it (walk_tup (K := K) (a := T) (xs := [v0, .ref l, .ref q])) (fun i σ H' => ∃ o7 o8 o9 o10 o11, σ = [some (.ref a), some (.ref b), some x, some (.ref D), none, some (.ref l), none, o7, o8, o9, o10, o11] ∧ Rel b H9 H') ⟨_, _, _, _, _, rfl, .refl hb9⟩ (fun i σ H' _ h => ?_) (fun i xt σ Ha Hb hi h y => ?_) fun σ Ha h => ?_
    · obtain ⟨_, _, _, _, _, _, R⟩ := h
      exact seqT_futL hT9 (R.fut (mu := mF b) (.inl rfl) hb9)
    · obtain ⟨o7, o8, o9, o10, o11, rfl, Ra⟩ := h
      obtain ⟨rfl, hxt⟩ := y
      obtain ⟨dt, hdt, hvt⟩ := hX.get hxt
      have sdt := hTh dt (List.mem_of_getElem? hdt)
      have okt : Ok dt := ⟨sm_ok sdt.ok, Nat.le_trans sdt.dp (by decide), Nat.le_trans sdt.wt (by decide)⟩
      refine ⟨_, rfl, b, 5, rfl, Ra.bag, by decide, by decide, fun way Hw w0 w1 Rw => ?_⟩
      have Raw := Ra.trans Rw
      refine ⟨fun σ' H' => ∃ v d, σ' = [some (.ref a), some (.ref b), some x, some (.ref D), none, some (.ref l), none, some v, some (.int way), o9, o10, o11] ∧ Vd K b H' v d ∧ Od 11 17000 d ∧ Rel b H9 H', ?_, ?_⟩
      · have hvw := hvt.fut (Raw.fut (mu := mF b) (.inl rfl) hb9)
        have dp8 := sdt.dp
        have wt8 := sdt.wt
        have odt : Od 11 17000 dt := ⟨sm_ok sdt.ok, by omega, by omega⟩
        have hv0w : ∀ {G : Hp}, Rel b H9 G → Vd K b G xt dt := fun R => .inl ⟨sdt.nd, (hvt.fut (R.fut (mu := mF b) (.inl rfl) hb9)).less fun a z => .inl z⟩
        refine ⟨_, rfl, rfl, _, rfl, iteEq (fun hw => ?_) fun hw => ?_⟩
        · refine ⟨_, rfl, xt, mF b, dt, rfl, hvw, okt, by omega, fun Hu su => ⟨_, _, rfl, rfl, _, rfl, iteP (fun hu0 => ?_) fun hu0 => ?_⟩⟩
          · have Ru := Raw.same su
            have hbd := un_bd dt
            refine ⟨_, rfl, _, rfl, _, rfl, xt, mF b, dt, rfl, hvt.fut (Ru.fut (mu := mF b) (.inl rfl) hb9), okt, by omega, fun Hv sv => ⟨b, _, rfl, (Ru.same sv).bag, hu0, by omega, fun u Hz z0 z1 Rz => ⟨(show 1 ≤ sizeLine by decide), fun L nL => ?_⟩⟩⟩
            have Rz9 := (Ru.same sv).trans Rz
            have sL := same_upd (o := .lst [.int u]) nL
            have nLb := nbp Rz9.bag nL
            have hvz := (((hvt.fut (Rz9.fut (mu := mF b) (.inl rfl) hb9)).more nL)).fut (H' := upd Hz L (.lst [.int u])) (.of_same sL)
            refine ⟨xt, L, u, (fun a => mF b a ∨ a = L), dt, rfl, .inr rfl, upd_same, mo (Rz9.bag.same sL) upd_same, hvz, okt, sdt.nd, by omega, fun v' H' d' LR hv' ok' nd' dp' wt' => ?_⟩
            refine ⟨v', d', rfl, .inl ⟨nd', hv'.less fun a z => .inl (.inl z)⟩, ⟨ok', by omega, by omega⟩, Rz9.trans (lrel_rel Rz9.bag nL LR)⟩
          · have Ru := Raw.same su
            refine ⟨_, rfl, _, _, rfl, rfl, _, rfl, iteP (fun hw4 => ?_) fun hw4 => ?_⟩
            · refine ⟨_, rfl, _, rfl, b, xt, dt, rfl, Ru.bag, hvt.fut (Ru.fut (mu := mF b) (.inl rfl) hb9), sdt.ok, by omega, by omega, fun v' H' d' R' hv' hd' => ⟨v', d', rfl, hv', hd'.mono (by omega) (by omega), Ru.trans R'⟩⟩
            · exact ⟨xt, dt, rfl, hv0w Ru, odt, Ru⟩
        · refine ⟨_, rfl, _, _, rfl, rfl, _, rfl, iteP (fun hw4 => ?_) fun hw4 => ?_⟩
          · refine ⟨_, rfl, _, rfl, b, xt, dt, rfl, Raw.bag, hvw, sdt.ok, by omega, by omega, fun v' H' d' R' hv' hd' => ⟨v', d', rfl, hv', hd'.mono (by omega) (by omega), Raw.trans R'⟩⟩
          · exact ⟨xt, dt, rfl, hv0w Raw, odt, Raw⟩
      · rintro σ' Hm ⟨v, d, rfl, hv, hd, Rm⟩
        obtain ⟨mu, hmb, hv, hdd⟩ : ∃ mu : Addr → Prop, mu b ∧ Dt K mu Hm v d ∧ (d.hasDict = false ∨ mu sysModules) := by
          rcases hv with ⟨n, h⟩ | h
          · exact ⟨fun a => a = b, rfl, h, .inl n⟩
          · exact ⟨mF b, .inl rfl, h, .inr (.inr rfl)⟩
        have okv : Ok d := ⟨hd.ok, Nat.le_trans hd.dp (by decide), Nat.le_trans hd.wt (by decide)⟩
        refine ⟨_, rfl, v, mu, d, rfl, hv, okv.show, hdd, by have := okv.dp; omega, okv.fits, _, rfl, v, mu, d, rfl, hv, okv, fun Hx sx => ⟨_, rfl, v, mu, d, rfl, hv.fut (.of_same sx), okv, fun Hy sy => ⟨(show 2 ≤ sizeLine by decide), fun p np => ⟨_, _, rfl, ?_⟩⟩⟩⟩
        have s3 := (sx.trans sy).trans (same_upd (o := .lst [.bl (isDeed d), .bl (areEnt d)]) np)
        have hv3 := hv.fut (.of_same s3)
        have R3 := Rm.same s3
        have npb := nbp ((Rm.same sx).same sy).bag np
        have hp3 : upd Hy p (.lst [.bl (isDeed d), .bl (areEnt d)]) p = some (.lst [.bl (isDeed d), .bl (areEnt d)]) := upd_same
        revert hv3 R3 hp3
        generalize upd Hy p (.lst [.bl (isDeed d), .bl (areEnt d)]) = H3'
        intro hv3 R3 hp3
        refine ⟨2, rfl, by decide, by decide, ?_⟩
        refine for_it (walk_range (lo := 0) (n := 2)) (fun i' σ H' => ∃ o11, σ = [some (.ref a), some (.ref b), some x, some (.ref D), none, some (.ref l), none, some v, some (.int way), some (.str d.shown), some (.ref p), o11] ∧ Same H3' H') ⟨_, rfl, .refl _⟩ (fun _ _ _ _ _ => trivial) (fun i' x' σ Hc Hd hi' h y => ?_) fun σ Hc h => ?_
        · obtain ⟨o11, rfl, sc⟩ := h
          obtain ⟨rfl, hx'⟩ := y
          have hv4 := hv3.fut (.of_same sc)
          refine ⟨_, rfl, v, mu, d, rfl, hv4, okv, fun H5' s5 => ⟨_, rfl, v, mu, d, rfl, hv4.fut (.of_same s5), okv, fun H6' s6 => ⟨(show 2 ≤ sizeLine by decide), fun p2 np2 => ⟨_, rfl, ?_⟩⟩⟩⟩
          have s7 := (s5.trans s6).trans (same_upd (o := .lst [.bl (isDeed d), .bl (areEnt d)]) np2)
          have b6 := (((R3.same sc).same s5).same s6).bag
          have np2b := nbp b6 np2
          refine ⟨.ref p2, .ref p, (fun a => a = b), .list [.bool (isDeed d), .bool (areEnt d)], rfl, .lst np2b (.inl upd_same) (.cons (.bl _) (.cons (.bl _) .nil)), .lst npb (.inl (s7 _ _ (sc _ _ hp3))) (.cons (.bl _) (.cons (.bl _) .nil)), ⟨rfl, by simp [PyData.depth, PyData.depthAll], by simp [PyData.weight, PyData.weightAll]⟩, .inl rfl, ?_⟩
          have hv7 := hv4.fut (.of_same s7)
          refine ⟨true, rfl, iteF ?_⟩
          refine ⟨_, rfl, v, mu, d, rfl, hv7, okv.show, hdd, by have := okv.dp; omega, okv.fits, ?_⟩
          refine ⟨_, rfl, rfl, _, rfl, ?_⟩
          rw [show (!decide (V.str d.shown = V.str d.shown)) = false by rw [decide_eq_true rfl]; rfl]
          exact iteF ⟨_, rfl, sc.trans s7⟩
        · obtain ⟨o11, rfl, sc⟩ := h
          exact ⟨_, _, _, _, _, rfl, R3.same sc⟩
    · obtain ⟨o7, o8, o9, o10, o11, rfl, Ra⟩ := h
      have fa := Ra.fut (mu := mF b) (.inl rfl) hb9
      have hva := hv9.fut fa
      have hEa := hE9.fut fa
      have hla := seqT_futL hl9 fa
      have ok0 : Ok d0 := ⟨sm_ok dd0.sd.ok, Nat.le_trans dd0.sd.dp (by decide), Nat.le_trans dd0.sd.wt (by decide)⟩
      have es8 := ents_tup hec (by omega)
      have okE : Ok (.tuple es) := ⟨sm_ok es8.ok, Nat.le_trans es8.dp (by decide), Nat.le_trans es8.wt (by decide)⟩
      have okL : Ok (.list es) := ⟨by have := okE.ok; simpa only [okD] using this, by have := okE.dp; simpa only [PyData.depth] using this, by have := okE.wt; simpa only [PyData.weight] using this⟩
      refine ⟨_, rfl, D, _, 0, _, rfl, rfl, .inl (.inl (Ra.keep _ _ nDb hD9)), atI_nat (j := 0) rfl, v0, mF b, d0, rfl, hva, ok0, fun Hx sx => ⟨_, rfl, .ref l, mF b, .tuple es, rfl, (dt_tup hla hEa).fut (.of_same sx), okE, fun Hy sy => ?_⟩⟩
      have sxy := sx.trans sy
      refine ⟨_, rfl, l, ys, rfl, .inr (sxy.seqT hla), fun L nL => ?_⟩
      have bL := ((Ra.same sx).same sy).bag
      have sL := same_upd (o := .lst ys) nL
      refine ⟨.ref L, (fun a => a = b), .list es, rfl, .lst (nbp bL nL) (.inl upd_same) ((hEa.less fun a z => .inl z).fut (.of_same (sxy.trans sL))), okL, fun Hz sz => ⟨(show 3 ≤ sizeLine by decide), fun p np => ⟨(show 3 ≤ sizeLine by decide), fun p2 np2 => ?_⟩⟩⟩
      have bz := (bL.same sL).same sz
      have npb := nbp bz np
      have s1p := same_upd (o := .lst [.bl (isDeed d0), .bl (areEnt (.tuple es)), .bl (areEnt (.list es))]) np
      have np2b := nbp (bz.same s1p) np2
      have e1 : areEnt (.tuple es) = true := ents_are hec
      have e2 : areEnt (.list es) = false := rfl
      have e0 := dd0.dd
      have s2p := same_upd (o := .lst [.bl true, .bl true, .bl false]) np2
      refine ⟨.ref p, .ref p2, (fun a => a = b), .list [.bool true, .bool true, .bool false], rfl, .lst npb (.inl (s2p _ _ (by rw [e0, e1, e2]; exact upd_same))) (.cons (.bl _) (.cons (.bl _) (.cons (.bl _) .nil))), .lst np2b (.inl upd_same) (.cons (.bl _) (.cons (.bl _) (.cons (.bl _) .nil))), by decide +kernel, .inl rfl, ?_⟩
      refine ⟨true, rfl, iteF ⟨_, _, _, _, _, _, _, _, rfl, ?_⟩⟩
      exact (bz.same s1p).same s2p
  · exact k _
end
end K16
namespace K16
open PySem PySem.Spec PyProof.Rows L2 Sw StX RZ
section
variable {P : Program} {w : World} {K : PySem.W.Frag} {mg : Str → Option Value} {base : Heap}
theorem isclaim_chain {f : Addr} {fd : FuncData} (F : Fun K "_law_is_claim" "_law_is_claim" s_law_is_claim f fd) (B : Bt mg) (c1 : CalG P w K mg base 1 "_law_is_int" (spP K isInt)) (c2 : CalG P w K mg base 2 "_law_is_above" (spP K isAb))
    (mk : ∀ j sp, FnG P w K mg base j f fd ["thing"] sp → CalG P w K mg base j "_law_is_claim" sp) : ∀ n, CalG P w K mg base (4 + n) "_law_is_claim" (spClmL K n)
  | 0 => mk _ _ (ok__law_is_claim (sp := fun _ _ _ _ => False) (by decide) (.inl rfl) F B c1 c2 (mk _ _ ⟨fun _ _ _ _ h => h.elim, fun _ _ _ _ _ h => h.elim⟩))
  | n + 1 => mk _ _ (ok__law_is_claim (show 3 ≤ 4 + n by omega) (.inr ⟨n, rfl, rfl⟩) F B c1 c2 (isclaim_chain F B c1 c2 mk n))
theorem bent_chain {f : Addr} {fd : FuncData} (F : Fun K "_law_bent" "_law_bent" s_law_bent f fd) (B : Bt mg) (c1 : CalG P w K mg base 1 "_law_take" spTake) (c2 : CalG P w K mg base 2 "_law_some" spSome) (c3 : CalG P w K mg base 1 "_law_is_int" (spP K isInt)) (c4 : CalG P w K mg base 5 "_law_value" (spValue K 1))
    (mk : ∀ j sp, FnG P w K mg base j f fd ["bag", "thing", "deep"] sp → CalG P w K mg base j "_law_bent" sp) : ∀ n, CalG P w K mg base (6 + n) "_law_bent" (spBent K n)
  | 0 => mk _ _ (ok__law_bent (sp := fun _ _ _ _ => False) (by decide) (.inl rfl) F B c1 c2 c3 c4 (mk _ _ ⟨fun _ _ _ _ h => h.elim, fun _ _ _ _ _ h => h.elim⟩))
  | n + 1 => mk _ _ (ok__law_bent (show 5 ≤ 6 + n by omega) (.inr ⟨n, rfl, rfl⟩) F B c1 c2 c3 c4 (bent_chain F B c1 c2 c3 c4 mk n))
theorem units_chain {f : Addr} {fd : FuncData} (F : Fun K "_law_units_in" "_law_units_in" s_law_units_in f fd) (B : Bt mg) (TS : mg "sum" = none) (c1 : CalG P w K mg base 1 "_law_is_int" (spP K isInt))
    (mk : ∀ j sp, FnG P w K mg base j f fd ["thing"] sp → CalG P w K mg base j "_law_units_in" sp) : ∀ n, CalG P w K mg base (4 + n) "_law_units_in" (spUnits K n)
  | 0 => mk _ _ (ok__law_units_in (sp := fun _ _ _ _ => False) (by decide) (.inl rfl) F B TS c1 (mk _ _ ⟨fun _ _ _ _ h => h.elim, fun _ _ _ _ _ h => h.elim⟩))
  | n + 1 => mk _ _ (ok__law_units_in (show 3 ≤ 4 + n by omega) (.inr ⟨n, rfl, rfl⟩) F B TS c1 (units_chain F B TS c1 mk n))
theorem truth_chain {f : Addr} {fd : FuncData} (F : Fun K "_law_with_truth" "_law_with_truth" s_law_with_truth f fd) (B : Bt mg) (c1 : CalG P w K mg base 1 "_law_is_int" (spP K isInt))
    (mk : ∀ j sp, FnG P w K mg base j f fd ["thing", "left"] sp → CalG P w K mg base j "_law_with_truth" sp) : ∀ n, CalG P w K mg base (4 + n) "_law_with_truth" (spTruth K n)
  | 0 => mk _ _ (ok__law_with_truth (sp := fun _ _ _ _ => False) (by decide) (.inl rfl) F B c1 (mk _ _ ⟨fun _ _ _ _ h => h.elim, fun _ _ _ _ _ h => h.elim⟩))
  | n + 1 => mk _ _ (ok__law_with_truth (show 3 ≤ 4 + n by omega) (.inr ⟨n, rfl, rfl⟩) F B c1 (truth_chain F B c1 mk n))
end
end K16
namespace Sw
open PySem PySem.Spec PyProof.Rows L2
/-- entries whose keys are these texts, in order -/
def KeyL : List DictEntry → List Str → Prop
  | [], [] => True
  | e :: r, k :: ks => (∃ t, e.key = .str k t) ∧ KeyL r ks
  | _, _ => False
theorem keyL_find {z : Str} : ∀ {l : List DictEntry} {ks : List Str}, KeyL l ks → (l.find? (·.key.isStr z)).map (·.val) = (ks.zip (l.map (·.val))).lookup z ∧ l.any (·.refKey) = false
  | [], [], _ => ⟨rfl, rfl⟩
  | e :: r, k :: ks, ⟨⟨t, h⟩, q⟩ => by
    obtain ⟨i1, i2⟩ := keyL_find (z := z) q
    have e1 : e.key.isStr z = (k == z) := by rw [h]; rfl
    have e2 : e.refKey = false := by unfold DictEntry.refKey; rw [h]
    refine ⟨?_, ?_⟩
    · rw [List.find?_cons, e1, List.map_cons, List.zip_cons_cons, List.lookup_cons]
      by_cases c : k = z
      · subst c
        rw [beq_self_eq_true]
        rfl
      · have c1 : (k == z) = false := by rw [beq_eq_false_iff_ne]; exact c
        have c2 : (z == k) = false := by rw [beq_eq_false_iff_ne]; exact fun y => c y.symm
        rw [c1, c2]
        exact i1
    · rw [List.any_cons, e2, i2]
      rfl
  | [], _ :: _, h => h.elim
  | _ :: _, [], h => h.elim
theorem nsIn_tab {K : PySem.W.Frag} {d0 : Addr} {c : Value} {od : Option Addr} {es : Array DictEntry} {n : Nat} {sl : Array (Option Value)} {ks : List Str} (l : K.lookup d0 = some ⟨c, od, .dict es n, sl⟩) (h : KeyL es.toList ks) (z : Str) :
    PySem.W.nsIn K d0 z = some ((ks.zip (es.toList.map (·.val))).lookup z) := by
  obtain ⟨i1, i2⟩ := keyL_find (z := z) h
  unfold PySem.W.nsIn
  rw [l]
  show (match es.toList.find? (·.key.isStr z) with
      | some e => some (some e.val)
      | none => if es.toList.any (·.refKey) then none else some none) = _
  rw [← i1, i2]
  cases es.toList.find? (·.key.isStr z) <;> rfl
/-- the values are tuples of texts -/
inductive TabV (K : PySem.W.Frag) : List (Str × List Str) → List Value → Prop
  | nil : TabV K [] []
  | cons {z : Str} {ks : List Str} {a : Addr} {r : List (Str × List Str)} {vs : List Value} : KTup K a (ks.map V.str) → TabV K r vs → TabV K ((z, ks) :: r) (.ref a :: vs)
theorem TabV.get {K : PySem.W.Frag} {z : Str} : ∀ {T : List (Str × List Str)} {vs : List Value}, TabV K T vs → (T.lookup z = none → ((T.map (·.1)).zip vs).lookup z = none) ∧ ∀ ks, T.lookup z = some ks → ∃ a, ((T.map (·.1)).zip vs).lookup z = some (.ref a) ∧ KTup K a (ks.map V.str)
  | [], _, .nil => ⟨fun _ => rfl, fun _ h => nomatch h⟩
  | (k, ks0) :: r, _, .cons (a := a) (vs := vs) h t => by
    obtain ⟨i1, i2⟩ := t.get (z := z)
    rw [List.lookup_cons, List.map_cons, List.zip_cons_cons, List.lookup_cons]
    show ((match z == k with | true => some ks0 | false => r.lookup z) = none → (match z == k with | true => some (Value.ref a) | false => ((r.map (·.1)).zip vs).lookup z) = none) ∧ ∀ ks, (match z == k with | true => some ks0 | false => r.lookup z) = some ks → ∃ a', (match z == k with | true => some (Value.ref a) | false => ((r.map (·.1)).zip vs).lookup z) = some (.ref a') ∧ KTup K a' (ks.map V.str)
    cases z == k with
    | true =>
      refine ⟨fun e => (nomatch e), fun ks e => ?_⟩
      cases e
      exact ⟨a, rfl, h⟩
    | false => exact ⟨i1, i2⟩
theorem kt1 {K : PySem.W.Frag} {a : Addr} {od : Option Addr} {x0 : Str} {t0 : Tok} {k : Nat} {osl : Array (Option Value)} (l : K.lookup a = some ⟨.type "tuple", od, .seq #[.str x0 t0] k, osl⟩) : KTup K a [.str x0] :=
  ⟨_, _, _, l, rfl, rfl, (show 1 ≤ sizeLine by decide), (.cons ⟨_, rfl⟩ .nil)⟩
theorem kt2 {K : PySem.W.Frag} {a : Addr} {od : Option Addr} {x0 x1 : Str} {t0 t1 : Tok} {k : Nat} {osl : Array (Option Value)} (l : K.lookup a = some ⟨.type "tuple", od, .seq #[.str x0 t0, .str x1 t1] k, osl⟩) : KTup K a [.str x0, .str x1] :=
  ⟨_, _, _, l, rfl, rfl, (show 2 ≤ sizeLine by decide), (.cons ⟨_, rfl⟩ (.cons ⟨_, rfl⟩ .nil))⟩
theorem kt3 {K : PySem.W.Frag} {a : Addr} {od : Option Addr} {x0 x1 x2 : Str} {t0 t1 t2 : Tok} {k : Nat} {osl : Array (Option Value)} (l : K.lookup a = some ⟨.type "tuple", od, .seq #[.str x0 t0, .str x1 t1, .str x2 t2] k, osl⟩) : KTup K a [.str x0, .str x1, .str x2] :=
  ⟨_, _, _, l, rfl, rfl, (show 3 ≤ sizeLine by decide), (.cons ⟨_, rfl⟩ (.cons ⟨_, rfl⟩ (.cons ⟨_, rfl⟩ .nil)))⟩
theorem kt4 {K : PySem.W.Frag} {a : Addr} {od : Option Addr} {x0 x1 x2 x3 : Str} {t0 t1 t2 t3 : Tok} {k : Nat} {osl : Array (Option Value)} (l : K.lookup a = some ⟨.type "tuple", od, .seq #[.str x0 t0, .str x1 t1, .str x2 t2, .str x3 t3] k, osl⟩) : KTup K a [.str x0, .str x1, .str x2, .str x3] :=
  ⟨_, _, _, l, rfl, rfl, (show 4 ≤ sizeLine by decide), (.cons ⟨_, rfl⟩ (.cons ⟨_, rfl⟩ (.cons ⟨_, rfl⟩ (.cons ⟨_, rfl⟩ .nil))))⟩
theorem kt5 {K : PySem.W.Frag} {a : Addr} {od : Option Addr} {x0 x1 x2 x3 x4 : Str} {t0 t1 t2 t3 t4 : Tok} {k : Nat} {osl : Array (Option Value)} (l : K.lookup a = some ⟨.type "tuple", od, .seq #[.str x0 t0, .str x1 t1, .str x2 t2, .str x3 t3, .str x4 t4] k, osl⟩) : KTup K a [.str x0, .str x1, .str x2, .str x3, .str x4] :=
  ⟨_, _, _, l, rfl, rfl, (show 5 ≤ sizeLine by decide), (.cons ⟨_, rfl⟩ (.cons ⟨_, rfl⟩ (.cons ⟨_, rfl⟩ (.cons ⟨_, rfl⟩ (.cons ⟨_, rfl⟩ .nil)))))⟩
theorem kt6 {K : PySem.W.Frag} {a : Addr} {od : Option Addr} {x0 x1 x2 x3 x4 x5 : Str} {t0 t1 t2 t3 t4 t5 : Tok} {k : Nat} {osl : Array (Option Value)} (l : K.lookup a = some ⟨.type "tuple", od, .seq #[.str x0 t0, .str x1 t1, .str x2 t2, .str x3 t3, .str x4 t4, .str x5 t5] k, osl⟩) : KTup K a [.str x0, .str x1, .str x2, .str x3, .str x4, .str x5] :=
  ⟨_, _, _, l, rfl, rfl, (show 6 ≤ sizeLine by decide), (.cons ⟨_, rfl⟩ (.cons ⟨_, rfl⟩ (.cons ⟨_, rfl⟩ (.cons ⟨_, rfl⟩ (.cons ⟨_, rfl⟩ (.cons ⟨_, rfl⟩ .nil))))))⟩
end Sw
namespace K16
open PySem PySem.Spec PyProof.Rows L2 Sw
def DPE (K : PySem.W.Frag) (w : World) (mg : Str → Option Value) : Prop := ∃ d0 es n, DPs K w mg d0 es n
theorem dpe_mk {K : PySem.W.Frag} {w : World} {h : Heap} {mg : Str → Option Value} {d0 : Addr} {es : Array DictEntry} {n : Nat} {vs : List Value} (X : K.In h) (G : h.Ns mainGlobals mg) (a : PySem.W.nsIn K mainGlobals "DEED_PARTS" = some (some (.ref d0)))
    (l : K.lookup d0 = some ⟨.type "dict", none, .dict es n, #[]⟩) (hk : PySem.W.KeysLit w.params es.toList) (hl : KeyL es.toList (deedT.map (·.1))) (low : (d0 == sysModules) = false) (hv : es.toList.map (·.val) = vs) (t : TabV K deedT vs) : DPE K w mg := by
  subst hv
  refine ⟨d0, es, n, PySem.W.mg_of X G a, ⟨l, hk, low⟩, fun z e => ?_, fun z ks e => ?_⟩
  · rw [nsIn_tab l hl z, (t.get (z := z)).1 e]
  · obtain ⟨b, e1, e2⟩ := (t.get (z := z)).2 ks e
    exact ⟨b, by rw [nsIn_tab l hl z, e1], e2⟩
theorem intE_u {K : PySem.W.Frag} {h : Heap} {mg : Str → Option Value} {x : Str} {n : Int} (X : K.In h) (G : h.Ns mainGlobals mg) (e : ∃ t : Tok, PySem.W.nsIn K mainGlobals x = some (some (.int n t))) : ∃ u, mg x = some u ∧ RelV (.int n) u := by
  obtain ⟨t, a⟩ := e
  exact ⟨_, PySem.W.mg_of X G a, ⟨t, rfl⟩⟩
end K16
namespace K16
open PySem PySem.Spec PyProof.Rows L2 Sw
section
variable {K : PySem.W.Frag} {h : Heap} {mg : Str → Option Value}
/-- the top has written the def x -/
def DefE (K : PySem.W.Frag) (mg : Str → Option Value) (x : Str) (st : Stmt) : Prop := ∃ (f : Addr) (fd : FuncData), Fun K x x st f fd ∧ mg x = some (.ref f) ∧ PySem.W.keepIn K (.ref f) = true
theorem def_mk {x : Str} {st : Stmt} {f : Addr} {oc : Value} {od an : Option Addr} {osl : Array (Option Value)} {kV doc pm cdv ct : Value} (X : K.In h) (G : h.Ns mainGlobals mg) (a : PySem.W.nsIn K mainGlobals x = some (some (.ref f)))
    (l : K.lookup f = some ⟨oc, od, .func (PySem.W.fnOf x x (defArgs st) (defBody st) (defScope st) .none kV doc pm an cdv ct), osl⟩) (c : PySem.W.codeIn K cdv x = true) (k : PySem.W.keepIn K (.ref f) = true) : DefE K mg x st :=
  ⟨f, _, fun_mk l c k, PySem.W.mg_of X G a, k⟩
def DefL (K : PySem.W.Frag) (mg : Str → Option Value) : Prop := ∃ (f : Addr) (fd : FuncData), Fun K "law" "law" slaw f fd ∧ mg "law" = some (.ref f) ∧ ∀ (s : Shared) (v : Value), BindsTo s fd ⟨[v], []⟩ [("script", v)]
theorem law_mk {f : Addr} {oc : Value} {od an : Option Addr} {osl : Array (Option Value)} {kV doc pm cdv ct : Value} (X : K.In h) (G : h.Ns mainGlobals mg) (a : PySem.W.nsIn K mainGlobals "law" = some (some (.ref f)))
    (l : K.lookup f = some ⟨oc, od, .func (PySem.W.fnOf "law" "law" (defArgs slaw) (defBody slaw) (defScope slaw) .none kV doc pm an cdv ct), osl⟩) (c : PySem.W.codeIn K cdv "law" = true) (k : PySem.W.keepIn K (.ref f) = true) : DefL K mg :=
  ⟨f, _, fun_mk l c k, PySem.W.mg_of X G a, fun s v => .of_eq rfl⟩
def BtE (K : PySem.W.Frag) : Prop := ∀ x ∈ (["len", "int", "bool", "str", "tuple", "list", "dict", "isinstance", "repr", "abs", "max", "min", "range", "enumerate", "zip", "all", "sum"] : List Str), PySem.W.nsIn K mainGlobals x = some none
theorem BtE.get (b : BtE K) (X : K.In h) (G : h.Ns mainGlobals mg) {x : Str} (hx : x ∈ (["len", "int", "bool", "str", "tuple", "list", "dict", "isinstance", "repr", "abs", "max", "min", "range", "enumerate", "zip", "all", "sum"] : List Str)) : mg x = none := PySem.W.mg_none_of X G (b x hx)
theorem bte_mk (z0 : PySem.W.nsIn K mainGlobals "len" = some none) (z1 : PySem.W.nsIn K mainGlobals "int" = some none) (z2 : PySem.W.nsIn K mainGlobals "bool" = some none) (z3 : PySem.W.nsIn K mainGlobals "str" = some none) (z4 : PySem.W.nsIn K mainGlobals "tuple" = some none) (z5 : PySem.W.nsIn K mainGlobals "list" = some none) (z6 : PySem.W.nsIn K mainGlobals "dict" = some none) (z7 : PySem.W.nsIn K mainGlobals "isinstance" = some none) (z8 : PySem.W.nsIn K mainGlobals "repr" = some none) (z9 : PySem.W.nsIn K mainGlobals "abs" = some none) (z10 : PySem.W.nsIn K mainGlobals "max" = some none) (z11 : PySem.W.nsIn K mainGlobals "min" = some none) (z12 : PySem.W.nsIn K mainGlobals "range" = some none) (z13 : PySem.W.nsIn K mainGlobals "enumerate" = some none) (z14 : PySem.W.nsIn K mainGlobals "zip" = some none) (z15 : PySem.W.nsIn K mainGlobals "all" = some none) (z16 : PySem.W.nsIn K mainGlobals "sum" = some none) : BtE K := by
  intro x hx
  simp only [List.mem_cons, List.not_mem_nil, or_false] at hx
  rcases hx with rfl | rfl | rfl | rfl | rfl | rfl | rfl | rfl | rfl | rfl | rfl | rfl | rfl | rfl | rfl | rfl | rfl <;> assumption
/-- .. a tuple of two integers -/
def TupE (K : PySem.W.Frag) (mg : Str → Option Value) (x : Str) (n d : Int) : Prop := ∃ z, mg x = some (.ref z) ∧ KTup K z [.int n, .int d]
theorem tup_mk {x : Str} {n d : Int} {z : Addr} {od : Option Addr} {t t' : Tok} {k : Nat} {osl : Array (Option Value)} (X : K.In h) (G : h.Ns mainGlobals mg) (a : PySem.W.nsIn K mainGlobals x = some (some (.ref z)))
    (l : K.lookup z = some ⟨.type "tuple", od, .seq #[.int n t, .int d t'] k, osl⟩) : TupE K mg x n d :=
  ⟨z, PySem.W.mg_of X G a, _, _, _, l, rfl, rfl, (show 2 ≤ sizeLine by decide), .cons ⟨_, rfl⟩ (.cons ⟨_, rfl⟩ .nil)⟩
def GcE (K : PySem.W.Frag) (x : Str) (b : String) : Prop := PySem.W.nsIn K mainGlobals x = some (some (.builtin b))
theorem gc_mk {x : Str} {b : String} (a : PySem.W.nsIn K mainGlobals x = some (some (.builtin b))) : GcE K x b := a
def IntE (K : PySem.W.Frag) (x : Str) (n : Int) : Prop := ∃ t : Tok, PySem.W.nsIn K mainGlobals x = some (some (.int n t))
theorem int_mk {x : Str} {n : Int} {t : Tok} (a : PySem.W.nsIn K mainGlobals x = some (some (.int n t))) : IntE K x n := ⟨t, a⟩
/-- all that the top has written, put together -/
theorem all_mk {P : Program} {w : World} {fa : Addr} (X : K.In h) (G : h.Ns mainGlobals mg) (hfa : mg "law" = some (.ref fa))
    (D0 : DefE K mg "is_integer" sis_integer)
    (D1 : DefE K mg "is_fraction" sis_fraction)
    (D2 : DefE K mg "is_above_zero" sis_above_zero)
    (D3 : DefE K mg "is_name" sis_name)
    (D4 : DefE K mg "is_ranks" sis_ranks)
    (D5 : DefE K mg "claims_below" sclaims_below)
    (D6 : DefE K mg "is_claim" sis_claim)
    (D7 : DefE K mg "is_claim_but_within" sis_claim_but_within)
    (D8 : DefE K mg "is_deed" sis_deed)
    (D9 : DefE K mg "is_part" sis_part)
    (D10 : DefE K mg "are_options" sare_options)
    (D11 : DefE K mg "are_entries" sare_entries)
    (D12 : DefE K mg "is_entry" sis_entry)
    (D13 : DefE K mg "_law_bag" s_law_bag)
    (D14 : DefE K mg "_law_take" s_law_take)
    (D15 : DefE K mg "_law_some" s_law_some)
    (D16 : DefE K mg "_law_alike" s_law_alike)
    (D17 : DefE K mg "_law_is_int" s_law_is_int)
    (D18 : DefE K mg "_law_common" s_law_common)
    (D19 : DefE K mg "_law_reduced" s_law_reduced)
    (D20 : DefE K mg "_law_number" s_law_number)
    (D21 : DefE K mg "_law_claim" s_law_claim)
    (D22 : DefE K mg "_law_units" s_law_units)
    (D23 : DefE K mg "_law_sort_options" s_law_sort_options)
    (D24 : DefE K mg "_law_is_above" s_law_is_above)
    (D25 : DefE K mg "_law_is_name" s_law_is_name)
    (D26 : DefE K mg "_law_is_claim" s_law_is_claim)
    (D27 : DefE K mg "_law_is_part" s_law_is_part)
    (D28 : DefE K mg "_law_signs" s_law_signs)
    (D29 : DefE K mg "_law_is_deed" s_law_is_deed)
    (D30 : DefE K mg "_law_are_entries" s_law_are_entries)
    (D31 : DefE K mg "_law_value" s_law_value)
    (D32 : DefE K mg "_law_bent" s_law_bent)
    (D33 : DefE K mg "_law_units_in" s_law_units_in)
    (D34 : DefE K mg "_law_with_truth" s_law_with_truth)
    (D35 : DefE K mg "_law_any_deed" s_law_any_deed)
    (DL : DefL K mg)
    (GC : GcE K "gcd" "math.gcd")
    (LN : IntE K "LONGEST_NAME" 12)
    (MR : IntE K "MOST_RANKS" 6)
    (MO : IntE K "MOST_OPTIONS" 4)
    (ME : IntE K "MOST_EVERY" 3000)
    (MT : IntE K "MOST_TIMES" 60)
    (DP : DPE K w mg)
    (Z : BtE K) :
    ∃ fd : FuncData, (∀ (s : Shared) (v : Value), BindsTo s fd ⟨[v], []⟩ [("script", v)]) ∧ ∀ base : Heap, K.In base → base.Ns mainGlobals mg → FnG P w K mg base 60 fa fd ["script"] (spLaw K) := by
  obtain ⟨fL, fdL, FL, mL, bL⟩ := DL
  have e := hfa.symm.trans mL
  cases e
  obtain ⟨f0, fd0, F0, m0, k0⟩ := D0
  have b0 := F0.binds (ps := ["thing"]) fun _ _ _ _ _ _ us hl => match us, hl with | [_], _ => rfl
  obtain ⟨f1, fd1, F1, m1, k1⟩ := D1
  have b1 := F1.binds (ps := ["thing"]) fun _ _ _ _ _ _ us hl => match us, hl with | [_], _ => rfl
  obtain ⟨f2, fd2, F2, m2, k2⟩ := D2
  have b2 := F2.binds (ps := ["thing"]) fun _ _ _ _ _ _ us hl => match us, hl with | [_], _ => rfl
  obtain ⟨f3, fd3, F3, m3, k3⟩ := D3
  have b3 := F3.binds (ps := ["thing"]) fun _ _ _ _ _ _ us hl => match us, hl with | [_], _ => rfl
  obtain ⟨f4, fd4, F4, m4, k4⟩ := D4
  have b4 := F4.binds (ps := ["thing"]) fun _ _ _ _ _ _ us hl => match us, hl with | [_], _ => rfl
  obtain ⟨f5, fd5, F5, m5, k5⟩ := D5
  have b5 := F5.binds (ps := ["claim"]) fun _ _ _ _ _ _ us hl => match us, hl with | [_], _ => rfl
  obtain ⟨f6, fd6, F6, m6, k6⟩ := D6
  have b6 := F6.binds (ps := ["ranks", "thing"]) fun _ _ _ _ _ _ us hl => match us, hl with | [_, _], _ => rfl
  obtain ⟨f7, fd7, F7, m7, k7⟩ := D7
  have b7 := F7.binds (ps := ["ranks", "thing"]) fun _ _ _ _ _ _ us hl => match us, hl with | [_, _], _ => rfl
  obtain ⟨f8, fd8, F8, m8, k8⟩ := D8
  have b8 := F8.binds (ps := ["thing"]) fun _ _ _ _ _ _ us hl => match us, hl with | [_], _ => rfl
  obtain ⟨f9, fd9, F9, m9, k9⟩ := D9
  have b9 := F9.binds (ps := ["kind", "thing"]) fun _ _ _ _ _ _ us hl => match us, hl with | [_, _], _ => rfl
  obtain ⟨f10, fd10, F10, m10, k10⟩ := D10
  have b10 := F10.binds (ps := ["thing"]) fun _ _ _ _ _ _ us hl => match us, hl with | [_], _ => rfl
  obtain ⟨f11, fd11, F11, m11, k11⟩ := D11
  have b11 := F11.binds (ps := ["thing"]) fun _ _ _ _ _ _ us hl => match us, hl with | [_], _ => rfl
  obtain ⟨f12, fd12, F12, m12, k12⟩ := D12
  have b12 := F12.binds (ps := ["thing"]) fun _ _ _ _ _ _ us hl => match us, hl with | [_], _ => rfl
  obtain ⟨f13, fd13, F13, m13, k13⟩ := D13
  have b13 := F13.binds (ps := ["script"]) fun _ _ _ _ _ _ us hl => match us, hl with | [_], _ => rfl
  obtain ⟨f14, fd14, F14, m14, k14⟩ := D14
  have b14 := F14.binds (ps := ["bag", "many"]) fun _ _ _ _ _ _ us hl => match us, hl with | [_, _], _ => rfl
  obtain ⟨f15, fd15, F15, m15, k15⟩ := D15
  have b15 := F15.binds (ps := ["bag", "things"]) fun _ _ _ _ _ _ us hl => match us, hl with | [_, _], _ => rfl
  obtain ⟨f16, fd16, F16, m16, k16⟩ := D16
  have b16 := F16.binds (ps := ["found", "due"]) fun _ _ _ _ _ _ us hl => match us, hl with | [_, _], _ => rfl
  obtain ⟨f17, fd17, F17, m17, k17⟩ := D17
  have b17 := F17.binds (ps := ["thing"]) fun _ _ _ _ _ _ us hl => match us, hl with | [_], _ => rfl
  obtain ⟨f18, fd18, F18, m18, k18⟩ := D18
  have b18 := F18.binds (ps := ["one", "other"]) fun _ _ _ _ _ _ us hl => match us, hl with | [_, _], _ => rfl
  obtain ⟨f19, fd19, F19, m19, k19⟩ := D19
  have b19 := F19.binds (ps := ["n", "d"]) fun _ _ _ _ _ _ us hl => match us, hl with | [_, _], _ => rfl
  obtain ⟨f20, fd20, F20, m20, k20⟩ := D20
  have b20 := F20.binds (ps := ["bag", "most"]) fun _ _ _ _ _ _ us hl => match us, hl with | [_, _], _ => rfl
  obtain ⟨f21, fd21, F21, m21, k21⟩ := D21
  have b21 := F21.binds (ps := ["bag", "ranks", "deep", "may_due"]) fun _ _ _ _ _ _ us hl => match us, hl with | [_, _, _, _], _ => rfl
  obtain ⟨f22, fd22, F22, m22, k22⟩ := D22
  have b22 := F22.binds (ps := ["bag"]) fun _ _ _ _ _ _ us hl => match us, hl with | [_], _ => rfl
  obtain ⟨f23, fd23, F23, m23, k23⟩ := D23
  have b23 := F23.binds (ps := ["bag", "ranks"]) fun _ _ _ _ _ _ us hl => match us, hl with | [_, _], _ => rfl
  obtain ⟨f24, fd24, F24, m24, k24⟩ := D24
  have b24 := F24.binds (ps := ["thing"]) fun _ _ _ _ _ _ us hl => match us, hl with | [_], _ => rfl
  obtain ⟨f25, fd25, F25, m25, k25⟩ := D25
  have b25 := F25.binds (ps := ["thing"]) fun _ _ _ _ _ _ us hl => match us, hl with | [_], _ => rfl
  obtain ⟨f26, fd26, F26, m26, k26⟩ := D26
  have b26 := F26.binds (ps := ["thing"]) fun _ _ _ _ _ _ us hl => match us, hl with | [_], _ => rfl
  obtain ⟨f27, fd27, F27, m27, k27⟩ := D27
  have b27 := F27.binds (ps := ["sign", "thing"]) fun _ _ _ _ _ _ us hl => match us, hl with | [_, _], _ => rfl
  obtain ⟨f28, fd28, F28, m28, k28⟩ := D28
  have b28 := F28.binds (ps := []) fun _ _ _ _ _ _ us hl => match us, hl with | [], _ => rfl
  obtain ⟨f29, fd29, F29, m29, k29⟩ := D29
  have b29 := F29.binds (ps := ["thing"]) fun _ _ _ _ _ _ us hl => match us, hl with | [_], _ => rfl
  obtain ⟨f30, fd30, F30, m30, k30⟩ := D30
  have b30 := F30.binds (ps := ["thing"]) fun _ _ _ _ _ _ us hl => match us, hl with | [_], _ => rfl
  obtain ⟨f31, fd31, F31, m31, k31⟩ := D31
  have b31 := F31.binds (ps := ["bag", "deep"]) fun _ _ _ _ _ _ us hl => match us, hl with | [_, _], _ => rfl
  obtain ⟨f32, fd32, F32, m32, k32⟩ := D32
  have b32 := F32.binds (ps := ["bag", "thing", "deep"]) fun _ _ _ _ _ _ us hl => match us, hl with | [_, _, _], _ => rfl
  obtain ⟨f33, fd33, F33, m33, k33⟩ := D33
  have b33 := F33.binds (ps := ["thing"]) fun _ _ _ _ _ _ us hl => match us, hl with | [_], _ => rfl
  obtain ⟨f34, fd34, F34, m34, k34⟩ := D34
  have b34 := F34.binds (ps := ["thing", "left"]) fun _ _ _ _ _ _ us hl => match us, hl with | [_, _], _ => rfl
  obtain ⟨f35, fd35, F35, m35, k35⟩ := D35
  have b35 := F35.binds (ps := ["bag"]) fun _ _ _ _ _ _ us hl => match us, hl with | [_], _ => rfl
  have B : Bt mg := ⟨Z.get X G (by decide +kernel), Z.get X G (by decide +kernel), Z.get X G (by decide +kernel), Z.get X G (by decide +kernel), Z.get X G (by decide +kernel), Z.get X G (by decide +kernel), Z.get X G (by decide +kernel), Z.get X G (by decide +kernel), Z.get X G (by decide +kernel), Z.get X G (by decide +kernel), Z.get X G (by decide +kernel), Z.get X G (by decide +kernel), Z.get X G (by decide +kernel), Z.get X G (by decide +kernel), Z.get X G (by decide +kernel)⟩
  have T_all : mg "all" = none := Z.get X G (by decide +kernel)
  have T_sum : mg "sum" = none := Z.get X G (by decide +kernel)
  obtain ⟨d0, es0, n0, TD⟩ := DP
  have T : Tx mg := ⟨PySem.W.mg_of X G GC, intE_u X G LN⟩
  have T2 : Tx2 mg := ⟨intE_u X G MR⟩
  have T3 : Tx3 mg := ⟨intE_u X G MR, intE_u X G MO, intE_u X G ME, intE_u X G MT⟩
  refine ⟨fdL, bL, fun base hKb _ => ?_⟩
  have C_is_integer : CalG P w K mg base 1 "is_integer" (spP K isInt) := ⟨f0, fd0, _, ok_is_integer F0 B, m0, k0, b0⟩
  have C_is_fraction : CalG P w K mg base 2 "is_fraction" (spP K isFrac) := ⟨f1, fd1, _, ok_is_fraction F1 B T C_is_integer, m1, k1, b1⟩
  have C_is_above_zero : CalG P w K mg base 3 "is_above_zero" (spP K isAb) := ⟨f2, fd2, _, ok_is_above_zero F2 B C_is_fraction, m2, k2, b2⟩
  have C_is_name : CalG P w K mg base 1 "is_name" (spP K isNm) := ⟨f3, fd3, _, ok_is_name F3 B T, m3, k3, b3⟩
  have C_is_ranks : CalG P w K mg base 2 "is_ranks" (spP K (isIn 0 6)) := ⟨f4, fd4, _, ok_is_ranks F4 B T2 C_is_integer, m4, k4, b4⟩
  have C_claims_below : CalG P w K mg base 1 "claims_below" (spBelow K) := ⟨f5, fd5, _, ok_claims_below F5 B, m5, k5, b5⟩
  have C_is_claim_but_within : CalG P w K mg base 4 "is_claim_but_within" (spLoc K) := ⟨f7, fd7, _, ok_is_claim_but_within F7 B C_is_integer C_is_above_zero, m7, k7, b7⟩
  have C_is_claim : CalG P w K mg base 5 "is_claim" (spClm K) := ⟨f6, fd6, _, ok_is_claim F6 B C_is_claim_but_within C_claims_below, m6, k6, b6⟩
  have C_are_options : CalG P w K mg base 6 "are_options" (spP K (optD 6)) := ⟨f10, fd10, _, ok_are_options F10 B T_all T3 C_is_claim, m10, k10, b10⟩
  have C_is_part : CalG P w K mg base 7 "is_part" (spPart K) := ⟨f9, fd9, _, ok_is_part F9 B T3 C_is_name C_is_above_zero C_is_ranks C_are_options C_is_integer, m9, k9, b9⟩
  have C_is_deed : CalG P w K mg base 8 "is_deed" (spP K isDeed) := ⟨f8, fd8, _, ok_is_deed F8 B T_all TD C_is_part, m8, k8, b8⟩
  have C_is_entry : CalG P w K mg base 9 "is_entry" (spP K isEnt) := ⟨f12, fd12, _, ok_is_entry F12 B C_is_integer C_is_deed, m12, k12, b12⟩
  have C_are_entries : CalG P w K mg base 10 "are_entries" (spP K areEnt) := ⟨f11, fd11, _, ok_are_entries F11 B T_all C_is_entry, m11, k11, b11⟩
  have C__law_bag : CalG P w K mg base 1 "_law_bag" (spBag K) := ⟨f13, fd13, _, ok__law_bag F13 B, m13, k13, b13⟩
  have C__law_take : CalG P w K mg base 1 "_law_take" (spTake) := ⟨f14, fd14, _, ok__law_take F14 B, m14, k14, b14⟩
  have C__law_some : CalG P w K mg base 2 "_law_some" (spSome) := ⟨f15, fd15, _, ok__law_some F15 B C__law_take, m15, k15, b15⟩
  have C__law_alike : CalG P w K mg base 1 "_law_alike" (spAlike K) := ⟨f16, fd16, _, ok__law_alike F16 B, m16, k16, b16⟩
  have C__law_is_int : CalG P w K mg base 1 "_law_is_int" (spP K isInt) := ⟨f17, fd17, _, ok__law_is_int F17 B, m17, k17, b17⟩
  have C__law_common : CalG P w K mg base 1 "_law_common" (spCommon) := ⟨f18, fd18, _, ok__law_common F18 B, m18, k18, b18⟩
  have C__law_reduced : CalG P w K mg base 2 "_law_reduced" (spRed) := ⟨f19, fd19, _, ok__law_reduced F19 B C__law_common, m19, k19, b19⟩
  have C__law_number : CalG P w K mg base 3 "_law_number" (spNum K) := ⟨f20, fd20, _, ok__law_number F20 B C__law_take C__law_some C__law_reduced, m20, k20, b20⟩
  have C_lcF : CalG P w K mg base 3 "_law_claim" (fun _ _ _ _ => False) := ⟨f21, fd21, _, ⟨fun _ _ _ _ h => h.elim, fun _ _ _ _ _ h => h.elim⟩, m21, k21, b21⟩
  have C_lc0 : CalG P w K mg base 4 "_law_claim" (spClaim K 0) := ⟨f21, fd21, _, ok__law_claim (by decide) (by decide) (.inl rfl) F21 B C__law_take C__law_number C_lcF, m21, k21, b21⟩
  have C_lc1 : CalG P w K mg base 5 "_law_claim" (spClaim K 1) := ⟨f21, fd21, _, ok__law_claim (n := 1) (by decide) (by decide) (.inr ⟨0, rfl, rfl⟩) F21 B C__law_take C__law_number C_lc0, m21, k21, b21⟩
  have C_lcA : CalG P w K mg base 5 "_law_claim" (spClaimA K) := ⟨f21, fd21, _, claim_any fun n hn => match n, hn with | 0, _ => (ok__law_claim (by decide) (by decide) (.inl rfl) F21 B C__law_take C__law_number C_lcF).mono (by decide) | 1, _ => ok__law_claim (n := 1) (by decide) (by decide) (.inr ⟨0, rfl, rfl⟩) F21 B C__law_take C__law_number C_lc0 | n + 2, h => absurd h (by omega), m21, k21, b21⟩
  have C__law_units : CalG P w K mg base 4 "_law_units" (spG K [] NumD) := ⟨f22, fd22, _, ok__law_units F22 B C__law_some C__law_number, m22, k22, b22⟩
  have C__law_sort_options : CalG P w K mg base 6 "_law_sort_options" (spOpts K) := ⟨f23, fd23, _, ok__law_sort_options F23 B C__law_some C__law_take C_lcA, m23, k23, b23⟩
  have C__law_any_deed : CalG P w K mg base 7 "_law_any_deed" (spDeed K) := ⟨f35, fd35, _, ok__law_any_deed F35 B C__law_some C__law_units C__law_sort_options, m35, k35, b35⟩
  have C__law_is_above : CalG P w K mg base 2 "_law_is_above" (spP K isAb) := ⟨f24, fd24, _, ok__law_is_above F24 B C__law_is_int C__law_common, m24, k24, b24⟩
  have C__law_is_name : CalG P w K mg base 1 "_law_is_name" (spP K isNm) := ⟨f25, fd25, _, ok__law_is_name F25 B, m25, k25, b25⟩
  have C_lclm : CalG P w K mg base 54 "_law_is_claim" (spClmL K 50) := isclaim_chain F26 B C__law_is_int C__law_is_above (fun j sp h => ⟨f26, fd26, _, h, m26, k26, b26⟩) 50
  have C__law_signs : CalG P w K mg base 1 "_law_signs" (spSigns) := ⟨f28, fd28, _, ok__law_signs F28 B, m28, k28, b28⟩
  have C__law_is_part : CalG P w K mg base 55 "_law_is_part" (spPartL K) := ⟨f27, fd27, _, ok__law_is_part F27 B C__law_is_name C__law_is_above C_lclm C__law_is_int, m27, k27, b27⟩
  have C__law_is_deed : CalG P w K mg base 56 "_law_is_deed" (spP K isDeed) := ⟨f29, fd29, _, ok__law_is_deed F29 B C__law_signs C__law_is_part, m29, k29, b29⟩
  have C__law_are_entries : CalG P w K mg base 57 "_law_are_entries" (spP K areEnt) := ⟨f30, fd30, _, ok__law_are_entries F30 B C__law_is_int C__law_is_deed, m30, k30, b30⟩
  have C_lvF : CalG P w K mg base 3 "_law_value" (fun _ _ _ _ => False) := ⟨f31, fd31, _, ⟨fun _ _ _ _ h => h.elim, fun _ _ _ _ _ h => h.elim⟩, m31, k31, b31⟩
  have C_lv0 : CalG P w K mg base 4 "_law_value" (spValue K 0) := ⟨f31, fd31, _, ok__law_value (by decide) (by decide) (.inl rfl) F31 B C__law_take C__law_some C_lvF, m31, k31, b31⟩
  have C_lv1 : CalG P w K mg base 5 "_law_value" (spValue K 1) := ⟨f31, fd31, _, ok__law_value (by decide) (by decide) (.inr rfl) F31 B C__law_take C__law_some C_lv0, m31, k31, b31⟩
  have C_bent : CalG P w K mg base 12 "_law_bent" (spBent K 6) := bent_chain F32 B C__law_take C__law_some C__law_is_int C_lv1 (fun j sp h => ⟨f32, fd32, _, h, m32, k32, b32⟩) 6
  have C_units : CalG P w K mg base 14 "_law_units_in" (spUnits K 10) := units_chain F33 B T_sum C__law_is_int (fun j sp h => ⟨f33, fd33, _, h, m33, k33, b33⟩) 10
  have C_truth : CalG P w K mg base 14 "_law_with_truth" (spTruth K 10) := truth_chain F34 B C__law_is_int (fun j sp h => ⟨f34, fd34, _, h, m34, k34, b34⟩) 10
  exact ok_law FL B ⟨C__law_bag, C__law_take, C__law_some, C__law_alike, C__law_any_deed, C_units, C_truth, C_bent, C__law_is_deed, C__law_are_entries, C_is_deed, C_are_entries⟩
end
end K16
open PySem PySem.W PyProof.Rows
set_option maxRecDepth 100000 in
set_option maxHeartbeats 0 in
theorem PySem.Challenge.cw_soldwhole_k16_deeds_of_any_value_holds : PySem.Challenge.rw_soldwhole_k16_deeds_of_any_value.Holds := by
  w_on; o_law; k_head; (case hw => w_witness2)
  k_fill
  refine Sw.walkG (l := PySem.Challenge.rw_soldwhole_k16_deeds_of_any_value) (n := 63) (k := 60) (x := "script") (sp := fun w => K16.spLaw _) rfl (by decide) rfl ⟨rfl, by decide, by decide⟩ (fun w h Y => PySem.W.kIn_of Y) ?F (fun _ _ a ns hl _ _ hS => ⟨a, ns, rfl, hS, hl, fun _ => rfl⟩)
  case F =>
    intro w mg fa h KX G hmg
    refine' K16.all_mk KX G hmg ?D0 ?D1 ?D2 ?D3 ?D4 ?D5 ?D6 ?D7 ?D8 ?D9 ?D10 ?D11 ?D12 ?D13 ?D14 ?D15 ?D16 ?D17 ?D18 ?D19 ?D20 ?D21 ?D22 ?D23 ?D24 ?D25 ?D26 ?D27 ?D28 ?D29 ?D30 ?D31 ?D32 ?D33 ?D34 ?D35 ?DL ?GC ?LN ?MR ?MO ?ME ?MT ?DP ?Z
    (case D0 => (refine' K16.def_mk KX G ?a ?l ?c ?k; (case a => k_is); (case l => k_is); (case c => k_is); (case k => k_is)))
    (case D1 => (refine' K16.def_mk KX G ?a ?l ?c ?k; (case a => k_is); (case l => k_is); (case c => k_is); (case k => k_is)))
    (case D2 => (refine' K16.def_mk KX G ?a ?l ?c ?k; (case a => k_is); (case l => k_is); (case c => k_is); (case k => k_is)))
    (case D3 => (refine' K16.def_mk KX G ?a ?l ?c ?k; (case a => k_is); (case l => k_is); (case c => k_is); (case k => k_is)))
    (case D4 => (refine' K16.def_mk KX G ?a ?l ?c ?k; (case a => k_is); (case l => k_is); (case c => k_is); (case k => k_is)))
    (case D5 => (refine' K16.def_mk KX G ?a ?l ?c ?k; (case a => k_is); (case l => k_is); (case c => k_is); (case k => k_is)))
    (case D6 => (refine' K16.def_mk KX G ?a ?l ?c ?k; (case a => k_is); (case l => k_is); (case c => k_is); (case k => k_is)))
    (case D7 => (refine' K16.def_mk KX G ?a ?l ?c ?k; (case a => k_is); (case l => k_is); (case c => k_is); (case k => k_is)))
    (case D8 => (refine' K16.def_mk KX G ?a ?l ?c ?k; (case a => k_is); (case l => k_is); (case c => k_is); (case k => k_is)))
    (case D9 => (refine' K16.def_mk KX G ?a ?l ?c ?k; (case a => k_is); (case l => k_is); (case c => k_is); (case k => k_is)))
    (case D10 => (refine' K16.def_mk KX G ?a ?l ?c ?k; (case a => k_is); (case l => k_is); (case c => k_is); (case k => k_is)))
    (case D11 => (refine' K16.def_mk KX G ?a ?l ?c ?k; (case a => k_is); (case l => k_is); (case c => k_is); (case k => k_is)))
    (case D12 => (refine' K16.def_mk KX G ?a ?l ?c ?k; (case a => k_is); (case l => k_is); (case c => k_is); (case k => k_is)))
    (case D13 => (refine' K16.def_mk KX G ?a ?l ?c ?k; (case a => k_is); (case l => k_is); (case c => k_is); (case k => k_is)))
    (case D14 => (refine' K16.def_mk KX G ?a ?l ?c ?k; (case a => k_is); (case l => k_is); (case c => k_is); (case k => k_is)))
    (case D15 => (refine' K16.def_mk KX G ?a ?l ?c ?k; (case a => k_is); (case l => k_is); (case c => k_is); (case k => k_is)))
    (case D16 => (refine' K16.def_mk KX G ?a ?l ?c ?k; (case a => k_is); (case l => k_is); (case c => k_is); (case k => k_is)))
    (case D17 => (refine' K16.def_mk KX G ?a ?l ?c ?k; (case a => k_is); (case l => k_is); (case c => k_is); (case k => k_is)))
    (case D18 => (refine' K16.def_mk KX G ?a ?l ?c ?k; (case a => k_is); (case l => k_is); (case c => k_is); (case k => k_is)))
    (case D19 => (refine' K16.def_mk KX G ?a ?l ?c ?k; (case a => k_is); (case l => k_is); (case c => k_is); (case k => k_is)))
    (case D20 => (refine' K16.def_mk KX G ?a ?l ?c ?k; (case a => k_is); (case l => k_is); (case c => k_is); (case k => k_is)))
    (case D21 => (refine' K16.def_mk KX G ?a ?l ?c ?k; (case a => k_is); (case l => k_is); (case c => k_is); (case k => k_is)))
    (case D22 => (refine' K16.def_mk KX G ?a ?l ?c ?k; (case a => k_is); (case l => k_is); (case c => k_is); (case k => k_is)))
    (case D23 => (refine' K16.def_mk KX G ?a ?l ?c ?k; (case a => k_is); (case l => k_is); (case c => k_is); (case k => k_is)))
    (case D24 => (refine' K16.def_mk KX G ?a ?l ?c ?k; (case a => k_is); (case l => k_is); (case c => k_is); (case k => k_is)))
    (case D25 => (refine' K16.def_mk KX G ?a ?l ?c ?k; (case a => k_is); (case l => k_is); (case c => k_is); (case k => k_is)))
    (case D26 => (refine' K16.def_mk KX G ?a ?l ?c ?k; (case a => k_is); (case l => k_is); (case c => k_is); (case k => k_is)))
    (case D27 => (refine' K16.def_mk KX G ?a ?l ?c ?k; (case a => k_is); (case l => k_is); (case c => k_is); (case k => k_is)))
    (case D28 => (refine' K16.def_mk KX G ?a ?l ?c ?k; (case a => k_is); (case l => k_is); (case c => k_is); (case k => k_is)))
    (case D29 => (refine' K16.def_mk KX G ?a ?l ?c ?k; (case a => k_is); (case l => k_is); (case c => k_is); (case k => k_is)))
    (case D30 => (refine' K16.def_mk KX G ?a ?l ?c ?k; (case a => k_is); (case l => k_is); (case c => k_is); (case k => k_is)))
    (case D31 => (refine' K16.def_mk KX G ?a ?l ?c ?k; (case a => k_is); (case l => k_is); (case c => k_is); (case k => k_is)))
    (case D32 => (refine' K16.def_mk KX G ?a ?l ?c ?k; (case a => k_is); (case l => k_is); (case c => k_is); (case k => k_is)))
    (case D33 => (refine' K16.def_mk KX G ?a ?l ?c ?k; (case a => k_is); (case l => k_is); (case c => k_is); (case k => k_is)))
    (case D34 => (refine' K16.def_mk KX G ?a ?l ?c ?k; (case a => k_is); (case l => k_is); (case c => k_is); (case k => k_is)))
    (case D35 => (refine' K16.def_mk KX G ?a ?l ?c ?k; (case a => k_is); (case l => k_is); (case c => k_is); (case k => k_is)))
    (case DL => (refine' K16.law_mk KX G ?a ?l ?c ?k; (case a => k_is); (case l => k_is); (case c => k_is); (case k => k_is)))
    (case GC => (refine' K16.gc_mk ?a; (case a => k_is)))
    (case LN => (refine' K16.int_mk ?a; (case a => k_is)))
    (case MR => (refine' K16.int_mk ?a; (case a => k_is)))
    (case MO => (refine' K16.int_mk ?a; (case a => k_is)))
    (case ME => (refine' K16.int_mk ?a; (case a => k_is)))
    (case MT => (refine' K16.int_mk ?a; (case a => k_is)))
    (case DP => (refine' K16.dpe_mk KX G ?qA ?qL ?qK ?qN ?qO ?qV ?qT; (case qA => k_is); (case qL => k_is); (case qK => exact ⟨⟨_, _, rfl, rfl⟩, ⟨⟨_, _, rfl, rfl⟩, ⟨⟨_, _, rfl, rfl⟩, ⟨⟨_, _, rfl, rfl⟩, ⟨⟨_, _, rfl, rfl⟩, ⟨⟨_, _, rfl, rfl⟩, ⟨⟨_, _, rfl, rfl⟩, ⟨⟨_, _, rfl, rfl⟩, ⟨⟨_, _, rfl, rfl⟩, trivial⟩⟩⟩⟩⟩⟩⟩⟩⟩); (case qN => exact ⟨⟨_, rfl⟩, ⟨⟨_, rfl⟩, ⟨⟨_, rfl⟩, ⟨⟨_, rfl⟩, ⟨⟨_, rfl⟩, ⟨⟨_, rfl⟩, ⟨⟨_, rfl⟩, ⟨⟨_, rfl⟩, ⟨⟨_, rfl⟩, trivial⟩⟩⟩⟩⟩⟩⟩⟩⟩); (case qO => first | exact rfl | decide | with_unfolding_all rfl); (case qV => exact rfl); (case qT => (refine' (.cons (Sw.kt2 ?qU0) (.cons (Sw.kt3 ?qU1) (.cons (Sw.kt4 ?qU2) (.cons (Sw.kt5 ?qU3) (.cons (Sw.kt4 ?qU4) (.cons (Sw.kt3 ?qU5) (.cons (Sw.kt6 ?qU6) (.cons (Sw.kt2 ?qU7) (.cons (Sw.kt1 ?qU8) .nil))))))))); (case qU0 => k_is); (case qU1 => k_is); (case qU2 => k_is); (case qU3 => k_is); (case qU4 => k_is); (case qU5 => k_is); (case qU6 => k_is); (case qU7 => k_is); (case qU8 => k_is)))))
    (case Z => (refine' K16.bte_mk ?z0 ?z1 ?z2 ?z3 ?z4 ?z5 ?z6 ?z7 ?z8 ?z9 ?z10 ?z11 ?z12 ?z13 ?z14 ?z15 ?z16; (case z0 => k_is); (case z1 => k_is); (case z2 => k_is); (case z3 => k_is); (case z4 => k_is); (case z5 => k_is); (case z6 => k_is); (case z7 => k_is); (case z8 => k_is); (case z9 => k_is); (case z10 => k_is); (case z11 => k_is); (case z12 => k_is); (case z13 => k_is); (case z14 => k_is); (case z15 => k_is); (case z16 => k_is)))
