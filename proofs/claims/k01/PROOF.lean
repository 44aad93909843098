import PyProof.Rows.All
import Wide.All
import OpenK.AllK
import Wide.FinOn
import HandS.ForMost
import HandS.IsInst
import HandS.Gcd
import HandS.Wide
import HandS.WideBits
import HandS.Flow
import HandS.TupAny
import HandS.StrMore
import HandS.Conv
import HandS.RaiseMore
import HandS.ExcInit
import HandS.ExcIs
import HandS.ExcField
import HandS.ExcValue
import HandS.EndBits
import HandS.DeepEq
import HandS.Walk
import HandS.Codes
import KE.KExcIs
import HandS.Rev
import HandS.MapJoin
import HandS.Text
import PyProof.Rows.StrAscii
import PyProof.Rows.StrDigitsNeg
import PyProof.StrLawsAffix
import KE.IntTextLaws
import HandS.ReplaceLit
import PySem.Challenge.RW_soldwhole_k01_whole_fractions
set_option Elab.async false
set_option linter.all false
set_option maxRecDepth 100000
set_option maxHeartbeats 8000000
/-! The guarded layer: a def's promise where no repr is under way (guards = []), so that repr of data may be asked. -/
namespace Sw
open PySem PySem.Spec PyProof.Rows L2

/-- no repr is under way -/
def Gd (A : Around) : Prop := A.guards = some []
theorem Gd.deeper {A : Around} (g : Gd A) (env : Env) : Gd (A.deeper env) := by
  unfold Gd at *
  first
    | exact g
    | (simp [Around.deeper, g])
theorem Gd.make {A : Around} (g : Gd A) (C : Addr) (us : List Value) (kw : List (Str × Value)) : Gd (A.under (.builtin "type.__call__" ⟨.ref C :: us, kw⟩)) := by
  unfold Gd at *
  first
    | exact g
    | (simp [Around.under, Code.guards, Code.isGuard, guardIds, pushGuards, g])
theorem gd_caller : Gd callerA := rfl

/-- the def at f keeps the promise sp, where no repr is under way -/
structure FnG (P : Program) (w : World) (K : PySem.W.Frag) (mg : Str → Option Value) (base : Heap) (k : Nat) (f : Addr) (fd : FuncData) (ps : List Str) (sp : Sp) : Prop where
  len : ∀ vs H Q E, sp vs H Q E → vs.length = ps.length
  go : ∀ {A : Around} {outer : List Env} {s : Shared} {H : Hp} {args : Args} {us : List Value} {vs : List V} {Q : VK} {E : XK},
    Gd A → Room k A → Env0 P w K mg base A outer s H → BindsTo s fd args (ps.zip us) → Vals vs us → sp vs H Q E →
    codeAny (model P w) A (.call (.ref f) args) (CR CX0 outer P w H s Q E) s
section
variable {P : Program} {w : World} {K : PySem.W.Frag} {mg : Str → Option Value} {base : Heap}
theorem FnG.of {k : Nat} {f : Addr} {fd : FuncData} {ps : List Str} {sp : Sp} (F : FnOk P w K mg base CX0 k f fd ps sp) : FnG P w K mg base k f fd ps sp :=
  ⟨F.len, fun _ hr e0 hb hv hs => F.run _ _ _ _ _ _ _ _ _ hr e0 hb hv hs⟩
theorem FnG.mono {j k : Nat} {f : Addr} {fd : FuncData} {ps : List Str} {sp : Sp} (F : FnG P w K mg base j f fd ps sp) (h : j ≤ k) : FnG P w K mg base k f fd ps sp :=
  ⟨F.len, fun g hr => F.go g (hr.mono h)⟩
end
section
variable {X : Cx} {k : Nat} {f : Addr} {fd : FuncData} {ps : List Str} {sp : Sp} {ds : List Value} {dvs : List V} {x : Str} {e : Expr} {es : List Expr} {t : TA} {p pos : Pos}
theorem runG {pins : List (Addr × Obj)} {σ : L2.St} {H : Hp} {s : Shared} {Q : VK} {us : List Value} {vs : List V} (F : FnG X.prog X.w X.K X.mg X.base k f fd ps sp) (g : Gd X.A) (hr : Room k X.A)
    (hb : Binds X.K fd ps ds) (hd : Vals dvs ds) (I : Inv X pins σ H s) (r : Vals vs us) (h : sp (vs ++ dvs) H Q E0) : wpAny (model X.prog X.w) X.A (call (.ref f) us) (EP X pins σ Q) X.xe s := by
  have rr : Vals (vs ++ dvs) (us ++ ds) := r.append hd
  have hz : (us ++ ds).length = ps.length := rr.length.symm.trans (F.len _ _ _ _ h)
  refine wpAny_call (codeAny_mono (F.go g hr I.env0 (hb s us I.kIn hz) rr h) fun res s' z => ?_)
  match res, z with
  | .ok (.ret u), z => exact I.after z
/-- f(e, ..), f a def of the text -/
theorem peG (F : FnG X.prog X.w X.K X.mg X.base k f fd ps sp) (g : Gd X.A) (hr : Room k X.A) (hg : Gl X x) (hm : X.mg x = some (.ref f)) (hk : PySem.W.keepIn X.K (.ref f) = true) (hb : Binds X.K fd ps ds) (hd : Vals dvs ds) (ha : PA X (e :: es) t)
    (hdb : (x == ("__debug__" : Str)) = false := by decide) (he : starEach (e :: es) X.env = (false, eval e X.env) :: starEach es X.env := by rfl) (hpl : (backTo pos (starEach es X.env)).any (·.1) = false := by rfl) :
    PE X (.Call (.Name x p) (e :: es) [] pos) (tCall sp dvs E0 t) :=
  ⟨fun pins s σ H Q I h => wpAny_Call_Name_kw (ld_glob I hg hm (PySem.W.callWith_K (h₀ := X.base) I.ok.mod.kin hk
    (thn (ha.run pos pins s σ H _ I h) fun us s1 z => by obtain ⟨vs, H1, I1, r, q⟩ := z; exact ⟨I1.kIn, runG F g hr hb hd I1 r q⟩) he hpl) hdb)⟩
theorem peG0 (F : FnG X.prog X.w X.K X.mg X.base k f fd ps sp) (g : Gd X.A) (hr : Room k X.A) (hg : Gl X x) (hm : X.mg x = some (.ref f)) (hk : PySem.W.keepIn X.K (.ref f) = true) (hb : Binds X.K fd ps ds) (hd : Vals dvs ds)
    (hdb : (x == ("__debug__" : Str)) = false := by decide) : PE X (.Call (.Name x p) [] [] pos) (tCall sp dvs E0 tNil) :=
  ⟨fun pins s σ H Q I h => wpAny_Call_Name_kw (ld_glob I hg hm (PySem.W.callWith_K0 I.kIn hk (runG (us := []) F g hr hb hd I .nil h)) hdb)⟩
end
section
variable {P : Program} {w : World} {K : PySem.W.Frag} {mg : Str → Option Value} {base : Heap}
/-- a def by its body, where no repr is under way -/
theorem Fun.okG {x qual : Str} {st : Stmt} {f : Addr} {fd : FuncData} {N ps : List Str} {k : Nat} {sp : Sp} (F : Fun K x qual st f fd) (S : FnScope N ps (defScope st)) (len : ∀ vs H Q E, sp vs H Q E → vs.length = ps.length)
    (hbody : ∀ (cdv : Value) (A : Around) (outer : List Env) (s : Shared) (H : Hp) (vs : List V) (Q : VK) (E : XK), Gd (A.deeper (envOfC qual (defScope st) s.heap.objs.size f cdv)) → Room k (A.deeper (envOfC qual (defScope st) s.heap.objs.size f cdv)) → sp vs H Q E →
      ∃ t, PSs (cxOf CX0 P w K mg base N qual (defScope st) f cdv A outer s H E).nox (defBody st) t ∧ t { nx := fun _ H' => Q .non H', rt := Q } (start N vs) H) : FnG P w K mg base (k + 1) f fd ps sp := by
  obtain ⟨oc, od, kV, doc, pm, an, cdv, ct, osl, rfl, lk, hcd⟩ := F.ex
  refine ⟨len, ?_⟩
  intro A outer s H args us vs Q E g hr e0 hb r hs
  have hz := len _ _ _ _ hs
  have up : ∀ b o, base.get? b = some o → s.heap.get? b = some o := fun b o z => (e0.bs b o z).1
  refine codeAny_call_function hr.depth ((e0.mod.kin.keeps up) _ _ lk) rfl S.co S.gen rfl (PySem.W.codeRec_of (e0.mod.kin.keeps up) hcd) (hb _ _ _ _ (wpAny_newFunctionEnv_cells S.kind (fun y hy => ?_) fun env he s1 x1 => ?_))
  · rcases S.par y.1 (List.of_mem_zip (show (y.1, y.2) ∈ ps.zip us from hy)).1 with q | q
    · exact .inl q
    · exact .inr ⟨q, PySem.W.cellsFrom_some _ _ _ (.inl q)⟩
  · subst he
    obtain ⟨t, ht, hq⟩ := hbody cdv A outer s H vs Q E (g.deeper _) (hr.deeper _) hs
    refine ⟨(e0.mod.nolimit.keeps up).keeps x1.toInCall.keep, codeAny_func (wpAny_mono (ht.nox.run [] s1 (start N vs) H _ (inv_start S hr.hd e0 hz r x1) hq) ?_ fun _ _ z => z)⟩
    intro fl s' z
    match fl, z with
    | .ret u, ⟨v, σ', H', J, rv, q⟩ => exact ⟨v, H', J.os, J.bare, J.base, J.hok, rv, q⟩
    | .next, ⟨σ', H', J, q⟩ => exact ⟨.non, H', J.os, J.bare, J.base, J.hok, rfl, q⟩
    | .brk, ⟨_, _, _, q⟩ => exact q.elim
    | .cont, ⟨_, _, _, q⟩ => exact q.elim
end
/-! ### the law's own call -/
section
variable {P : Program} {w : World} {K : PySem.W.Frag} {mg mb : Str → Option Value} {k : Nat} {fa a : Addr} {fd : FuncData} {x : Str} {sp : Sp} {s₁ : Shared} {vs : List Value} {ns : List Int}
/-- the abstract heap in which the script alone is known -/
def scr (a : Addr) (ob : Obj) (ns : List Int) : Hp := fun b => if b = a then some (.frz ob (.lst (ns.map V.int))) else none
theorem scr_at {ob : Obj} : scr a ob ns a = some (.frz ob (.lst (ns.map V.int))) := if_pos rfl
theorem scr_ne {ob : Obj} {b : Addr} (h : b ≠ a) : scr a ob ns b = none := if_neg h
theorem lawFrom (H : Hp) (hO : Only H) (KX : K.In s₁.heap) (hns : s₁.heap.Ns mainGlobals mg) (hb : s₁.heap.Ns builtinsNs mb) (hbb : ∀ y : Str, y ≠ "__name__" → mb y = bootBuiltins y) (hlim : s₁.heap.NoLimit) (hg : s₁.gens = #[])
    (ok : HOk P w H s₁.heap) (nk : ∀ b o, K.lookup b = some o → H b = none) (nd : ∀ b o es ep, s₁.heap.get? b = some o → o.data = .dict es ep → H b = none) (hr : Room k callerA)
    (F : ∀ base : Heap, K.In base → base.Ns mainGlobals mg → FnG P w K mg base k fa fd [x] sp) (hbind : ∀ (s : Shared) (u : Value), BindsTo s fd ⟨[u], []⟩ [(x, u)])
    (hs : sp [.ref a] H (fun v _ => v = .bl true) fun _ _ _ => False) :
    codeAny (model P w) callerA (.call (.ref fa) ⟨[.ref a], []⟩) (fun r s' => r = .ok (.ret (.bool true)) ∧ OldK s₁.heap s'.heap ∧ s'.os = s₁.os ∧ AllBare s'.gens) s₁ := by
  have kIn : K.In (hidT s₁.heap H) := fun b o z => hidT_get (KX b o z) (nk b o z)
  have nsIn : ∀ {b : Addr} {m : Str → Option Value}, s₁.heap.Ns b m → (hidT s₁.heap H).Ns b m := fun {b m} z => by
    obtain ⟨o, es, ep, z1, z2, z3⟩ := z
    exact ⟨o, es, ep, hidT_get z1 (nd b o es ep z1 z2), z2, z3⟩
  have lim : (hidT s₁.heap H).NoLimit := by
    obtain ⟨mc, z1, z2⟩ := hlim
    exact ⟨mc, nsIn z1, z2⟩
  have e0 : Env0 P w K mg (hidT s₁.heap H) callerA [] s₁ H :=
    { frames := rfl, mod := ⟨kIn, nsIn hns, ⟨mb, nsIn hb, hbb⟩, lim⟩, bs := fun _ _ z => of_hidT z, bsz := Nat.le_of_eq (hidT_size _ _), funs := trivial, frf := (fun b z => nomatch z), hok := ok, bare := .of_eq hg }
  refine codeAny_mono ((F _ kIn (nsIn hns)).go (us := [.ref a]) (vs := [.ref a]) gd_caller hr e0 (hbind s₁ (.ref a)) (.cons rfl .nil) hs) fun r s' z => ?_
  match r, z with
  | .ok (.ret u), z =>
    obtain ⟨v, H', zo, zb, un, ok', rv, q⟩ := z
    have q : v = .bl true := q
    subst q
    have eu : u = Value.bool true := rv
    subst eu
    refine ⟨rfl, .of_keep fun b o e => ?_, zo, zb⟩
    rcases hO b with n | ⟨ob, xs, n⟩
    · exact un.keep b o e n (fun z => nomatch z) (fun z => nomatch z)
    · have e1 := (ok b _ n).1
      have e2 := (ok' b _ (un.frzs b ob _ n)).1
      have e3 : o = ob := Option.some.inj (e.symm.trans e1)
      rw [e3]
      exact e2
theorem lawG (KX : K.In s₁.heap) (hns : s₁.heap.Ns mainGlobals mg) (hb : s₁.heap.Ns builtinsNs mb) (hbb : ∀ y : Str, y ≠ "__name__" → mb y = bootBuiltins y) (hlim : s₁.heap.NoLimit) (hg : s₁.gens = #[])
    (ha : s₁.heap.get? a = some { cls := .type "list", data := .seq vs.toArray }) (hi : IntsAre vs ns) (hl : ns.length ≤ sizeLine) (hr : Room k callerA)
    (F : ∀ base : Heap, K.In base → base.Ns mainGlobals mg → FnG P w K mg base k fa fd [x] sp) (hbind : ∀ (s : Shared) (u : Value), BindsTo s fd ⟨[u], []⟩ [(x, u)])
    (hsp : ∀ H : Hp, Only H → SqL K H a (ns.map V.int) → sp [.ref a] H (fun v _ => v = .bl true) fun _ _ _ => False) :
    codeAny (model P w) callerA (.call (.ref fa) ⟨[.ref a], []⟩) (fun r s' => r = .ok (.ret (.bool true)) ∧ OldK s₁.heap s'.heap ∧ s'.os = s₁.os ∧ AllBare s'.gens) s₁ := by
  have rv := vals_ints hi
  have hln := hi.length
  rcases hk : K.lookup a with _ | o
  · refine lawFrom (scr a { cls := .type "list", data := .seq vs.toArray } ns) ?_ KX hns hb hbb hlim hg ?_ ?_ ?_ hr F hbind (hsp _ ?_ (.inl (.inr ⟨_, scr_at⟩)))
    rotate_left
    · intro b u z
      by_cases e : b = a
      · rw [e, scr_at] at z
        cases z
        rw [e]
        exact ⟨ha, by rw [List.length_map]; exact hl, vs, _, rv, ha⟩
      · rw [scr_ne e] at z
        cases z
    · intro b o z
      refine scr_ne fun e => ?_
      rw [e, hk] at z
      cases z
    · intro b o es ep z1 z2
      refine scr_ne fun e => ?_
      rw [e, ha] at z1
      cases z1
      cases z2
    all_goals
      intro b
      by_cases e : b = a
      · exact .inr ⟨_, _, by rw [e]; exact scr_at⟩
      · exact .inl (scr_ne e)
  · have z := KX a o hk
    rw [ha] at z
    cases z
    exact lawFrom (fun _ => none) (fun _ => .inl rfl) KX hns hb hbb hlim hg (fun _ _ z => nomatch z) (fun _ _ _ => rfl) (fun _ _ _ _ _ _ => rfl) hr F hbind
      (hsp _ (fun _ => .inl rfl) (.inr ⟨_, vs.toArray, _, hk, rfl, rfl, rfl, by rw [List.size_toArray, hln]; exact hl, by simpa using rv⟩))
end
theorem walkG {l : PySem.W.OpenLaw} {n k : Nat} {q : Program} {loose : List Str} {XP : (Str → Option Value) → Heap → Prop} {YP : World → Heap → Prop} {d : DefRec} {K : Params → PySem.W.Frag} {sp : World → Sp} {x : Str}
    (hn : l.most = some n) (hn2 : n ≤ sizeLine) (hdf : d.params.defaults = []) (hr : Room k callerA) (hY : ∀ (w : World) (h : Heap), YP w h → (K w.params).In h)
    (F : ∀ (w : World) (mg : Str → Option Value) (fa : Addr) (h : Heap), (K w.params).In h → h.Ns mainGlobals mg → mg d.name = some (.ref fa) →
      ∃ fd : FuncData, (∀ (s : Shared) (u : Value), BindsTo s fd ⟨[u], []⟩ [(x, u)]) ∧
        ∀ base : Heap, (K w.params).In base → base.Ns mainGlobals mg → FnG l.prog w (K w.params) mg base k fa fd [x] (sp w))
    (hsp : ∀ (w : World) (H : Hp) (a : Addr) (ns : List Int), ns.length ≤ n → (∀ z ∈ ns, Builtin.Int.intBits z ≤ 1048576) → Only H → SqL (K w.params) H a (ns.map V.int) → sp w [.ref a] H (fun v _ => v = .bl true) fun _ _ _ => False) :
    PySem.W.WalkO q loose XP YP l.row.toRowW d [] (fun f vs => PySem.call f vs) :=
  Att.attach_callB hn hdf fun w s₀ s₁ mg mb fa o pm cd doc a vs ns G Y ho hd hcd hmg hobj hints hlen hbits hg => by
    obtain ⟨fd, hb, hF⟩ := F w mg fa _ (hY w _ Y) G.T.g hmg
    exact lawG (hY w _ Y) G.T.g G.T.b G.T.builtins G.T.nolimit hg hobj hints (Nat.le_trans hlen hn2) hr hF hb fun H hO hS => hsp w H a ns hlen hbits hO hS
end Sw
/-! Data as a whole over the abstract heap (Dt), what stays (Fut), == and repr of data. -/
namespace Sw
open PySem PySem.Spec PyProof.Rows L2

/-- a tuple of the written part -/
def KTup (K : PySem.W.Frag) (a : Addr) (xs : List V) : Prop :=
  ∃ (o : Obj) (its : Array Value) (n : Nat), K.lookup a = some o ∧ o.cls = .type "tuple" ∧ o.data = .seq its n ∧ its.size ≤ sizeLine ∧ Vals xs its.toList
def keyD : Key → PyData
  | .inl i => .int i
  | .inr x => .str x
mutual
/-- v is the datum d; mu: the lists and dicts that are about to change (none of them is part of d) -/
inductive Dt (K : PySem.W.Frag) (mu : Addr → Prop) (H : Hp) : V → PyData → Prop
  | non : Dt K mu H .non .none
  | bl (b : Bool) : Dt K mu H (.bl b) (.bool b)
  | int (i : Int) : Dt K mu H (.int i) (.int i)
  | str (x : Str) : Dt K mu H (.str x) (.str x)
  | lst {a : Addr} {xs : List V} {ds : List PyData} : ¬ mu a → Rd H a (.lst xs) → DtA K mu H xs ds → Dt K mu H (.ref a) (.list ds)
  | tup {a : Addr} {xs : List V} {ds : List PyData} : Rd H a (.tup xs) → DtA K mu H xs ds → Dt K mu H (.ref a) (.tuple ds)
  | tupK {a : Addr} {xs : List V} {ds : List PyData} : KTup K a xs → DtA K mu H xs ds → Dt K mu H (.ref a) (.tuple ds)
  | dct {a : Addr} {kvs : List (Key × V)} {ds : List (PyData × PyData)} : ¬ mu a → Rd H a (.dK kvs) → DtK K mu H kvs ds → Dt K mu H (.ref a) (.dict ds)
inductive DtA (K : PySem.W.Frag) (mu : Addr → Prop) (H : Hp) : List V → List PyData → Prop
  | nil : DtA K mu H [] []
  | cons {v : V} {vs : List V} {d : PyData} {ds : List PyData} : Dt K mu H v d → DtA K mu H vs ds → DtA K mu H (v :: vs) (d :: ds)
inductive DtK (K : PySem.W.Frag) (mu : Addr → Prop) (H : Hp) : List (Key × V) → List (PyData × PyData) → Prop
  | nil : DtK K mu H [] []
  | cons {k : Key} {v : V} {kvs : List (Key × V)} {d : PyData} {ds : List (PyData × PyData)} : Dt K mu H v d → DtK K mu H kvs ds → DtK K mu H ((k, v) :: kvs) ((keyD k, d) :: ds)
end

/-- what is not about to change stays, and tuples do -/
def Fut (mu : Addr → Prop) (H H' : Hp) : Prop := ∀ a o, H a = some o → (¬ mu a ∨ (∃ xs, o = .tup xs) ∨ ∃ ob u, o = .frz ob u) → H' a = some o
theorem Fut.refl {mu : Addr → Prop} (H : Hp) : Fut mu H H := fun _ _ e _ => e
theorem Fut.trans {mu : Addr → Prop} {H H1 H2 : Hp} (a : Fut mu H H1) (b : Fut mu H1 H2) : Fut mu H H2 := fun x o e h => b x o (a x o e h) h
theorem Fut.of_same {mu : Addr → Prop} {H H' : Hp} (s : Same H H') : Fut mu H H' := fun a o e _ => s a o e
theorem Fut.mono {mu mv : Addr → Prop} {H H' : Hp} (f : Fut mu H H') (h : ∀ a, mu a → mv a) : Fut mv H H' := fun a o e z => f a o e (z.imp (fun n m => n (h a m)) id)
theorem Fut.rd {mu : Addr → Prop} {H H' : Hp} (f : Fut mu H H') {a : Addr} {o : HO} (hm : ¬ mu a) (r : Rd H a o) : Rd H' a o := by
  rcases r with r | ⟨ob, r⟩
  · exact .inl (f a _ r (.inl hm))
  · exact .inr ⟨ob, f a _ r (.inl hm)⟩
theorem Fut.rdT {mu : Addr → Prop} {H H' : Hp} (f : Fut mu H H') {a : Addr} {xs : List V} (r : Rd H a (.tup xs)) : Rd H' a (.tup xs) := by
  rcases r with r | ⟨ob, r⟩
  · exact .inl (f a _ r (.inr (.inl ⟨xs, rfl⟩)))
  · exact .inr ⟨ob, f a _ r (.inr (.inr ⟨ob, _, rfl⟩))⟩
section
variable {K : PySem.W.Frag} {mu mv : Addr → Prop} {H H' : Hp}
mutual
theorem Dt.fut (f : Fut mu H H') : ∀ {v : V} {d : PyData}, Dt K mu H v d → Dt K mu H' v d
  | _, _, .non => .non
  | _, _, .bl b => .bl b
  | _, _, .int i => .int i
  | _, _, .str x => .str x
  | _, _, .lst n r h => .lst n (f.rd n r) (DtA.fut f h)
  | _, _, .tup r h => .tup (f.rdT r) (DtA.fut f h)
  | _, _, .tupK r h => .tupK r (DtA.fut f h)
  | _, _, .dct n r h => .dct n (f.rd n r) (DtK.fut f h)
theorem DtA.fut (f : Fut mu H H') : ∀ {vs : List V} {ds : List PyData}, DtA K mu H vs ds → DtA K mu H' vs ds
  | _, _, .nil => .nil
  | _, _, .cons h t => .cons (Dt.fut f h) (DtA.fut f t)
theorem DtK.fut (f : Fut mu H H') : ∀ {vs : List (Key × V)} {ds : List (PyData × PyData)}, DtK K mu H vs ds → DtK K mu H' vs ds
  | _, _, .nil => .nil
  | _, _, .cons h t => .cons (Dt.fut f h) (DtK.fut f t)
end
mutual
/-- fewer that change -/
theorem Dt.less (f : ∀ a, mv a → mu a) : ∀ {v : V} {d : PyData}, Dt K mu H v d → Dt K mv H v d
  | _, _, .non => .non
  | _, _, .bl b => .bl b
  | _, _, .int i => .int i
  | _, _, .str x => .str x
  | _, _, .lst n r h => .lst (fun z => n (f _ z)) r (DtA.less f h)
  | _, _, .tup r h => .tup r (DtA.less f h)
  | _, _, .tupK r h => .tupK r (DtA.less f h)
  | _, _, .dct n r h => .dct (fun z => n (f _ z)) r (DtK.less f h)
theorem DtA.less (f : ∀ a, mv a → mu a) : ∀ {vs : List V} {ds : List PyData}, DtA K mu H vs ds → DtA K mv H vs ds
  | _, _, .nil => .nil
  | _, _, .cons h t => .cons (Dt.less f h) (DtA.less f t)
theorem DtK.less (f : ∀ a, mv a → mu a) : ∀ {vs : List (Key × V)} {ds : List (PyData × PyData)}, DtK K mu H vs ds → DtK K mv H vs ds
  | _, _, .nil => .nil
  | _, _, .cons h t => .cons (Dt.less f h) (DtK.less f t)
end
mutual
/-- one more that changes, not tracked as yet -/
theorem Dt.more {l : Addr} (n : H l = Option.none) : ∀ {v : V} {d : PyData}, Dt K mu H v d → Dt K (fun a => mu a ∨ a = l) H v d
  | _, _, .non => .non
  | _, _, .bl b => .bl b
  | _, _, .int i => .int i
  | _, _, .str x => .str x
  | _, _, .lst m r h => .lst (fun z => z.elim m fun e => by
      rw [e] at r
      rcases r with r | ⟨_, r⟩ <;> (rw [n] at r; cases r)) r (DtA.more n h)
  | _, _, .tup r h => .tup r (DtA.more n h)
  | _, _, .tupK r h => .tupK r (DtA.more n h)
  | _, _, .dct m r h => .dct (fun z => z.elim m fun e => by
      rw [e] at r
      rcases r with r | ⟨_, r⟩ <;> (rw [n] at r; cases r)) r (DtK.more n h)
theorem DtA.more {l : Addr} (n : H l = Option.none) : ∀ {vs : List V} {ds : List PyData}, DtA K mu H vs ds → DtA K (fun a => mu a ∨ a = l) H vs ds
  | _, _, .nil => .nil
  | _, _, .cons h t => .cons (Dt.more n h) (DtA.more n t)
theorem DtK.more {l : Addr} (n : H l = Option.none) : ∀ {vs : List (Key × V)} {ds : List (PyData × PyData)}, DtK K mu H vs ds → DtK K (fun a => mu a ∨ a = l) H vs ds
  | _, _, .nil => .nil
  | _, _, .cons h t => .cons (Dt.more n h) (DtK.more n t)
end
theorem DtA.length : ∀ {vs : List V} {ds : List PyData}, DtA K mu H vs ds → vs.length = ds.length
  | _, _, .nil => rfl
  | _, _, .cons _ t => by rw [List.length_cons, List.length_cons, DtA.length t]
theorem DtA.get : ∀ {vs : List V} {ds : List PyData} {i : Nat} {v : V}, DtA K mu H vs ds → vs[i]? = some v → ∃ d, ds[i]? = some d ∧ Dt K mu H v d
  | _, _, _, _, .nil, e => by simp at e
  | _, _, 0, _, .cons h _, e => by
    simp at e
    subst e
    exact ⟨_, rfl, h⟩
  | _, _, i + 1, v, .cons _ t, e => by
    obtain ⟨d, h1, h2⟩ := DtA.get (i := i) (v := v) t (by simpa using e)
    exact ⟨d, by simpa using h1, h2⟩
theorem DtA.getD : ∀ {vs : List V} {ds : List PyData} {i : Nat} {d : PyData}, DtA K mu H vs ds → ds[i]? = some d → ∃ v, vs[i]? = some v ∧ Dt K mu H v d
  | _, _, _, _, .nil, e => by simp at e
  | _, _, 0, _, .cons h _, e => by
    simp at e
    subst e
    exact ⟨_, rfl, h⟩
  | _, _, i + 1, v, .cons _ t, e => by
    obtain ⟨d, h1, h2⟩ := DtA.getD (i := i) (d := v) t (by simpa using e)
    exact ⟨d, by simpa using h1, h2⟩
theorem DtA.append : ∀ {vs ws : List V} {ds es : List PyData}, DtA K mu H vs ds → DtA K mu H ws es → DtA K mu H (vs ++ ws) (ds ++ es)
  | _, _, _, _, .nil, s => s
  | _, _, _, _, .cons h t, s => .cons h (DtA.append t s)
theorem DtA.drop : ∀ {vs : List V} {ds : List PyData} (n : Nat), DtA K mu H vs ds → DtA K mu H (vs.drop n) (ds.drop n)
  | _, _, 0, r => r
  | _, _, _ + 1, .nil => .nil
  | _, _, n + 1, .cons _ t => DtA.drop n t
theorem DtA.take : ∀ {vs : List V} {ds : List PyData} (n : Nat), DtA K mu H vs ds → DtA K mu H (vs.take n) (ds.take n)
  | _, _, 0, _ => .nil
  | _, _, _ + 1, .nil => .nil
  | _, _, n + 1, .cons h t => .cons h (DtA.take n t)
theorem DtA.one {vs : List V} {ds : List PyData} (h : DtA K mu H vs ds) (e : ds.length = 1) : ∃ x d, vs = [x] ∧ ds = [d] ∧ Dt K mu H x d := by
  cases h with
  | nil => simp at e
  | cons r1 t =>
    cases t with
    | nil => exact ⟨_, _, rfl, rfl, r1⟩
    | cons _ _ => simp at e
theorem DtA.two {vs : List V} {ds : List PyData} (h : DtA K mu H vs ds) (e : ds.length = 2) : ∃ x y d f, vs = [x, y] ∧ ds = [d, f] ∧ Dt K mu H x d ∧ Dt K mu H y f := by
  cases h with
  | nil => simp at e
  | cons r1 t =>
    obtain ⟨y, f, rfl, rfl, r2⟩ := t.one (by simpa using e)
    exact ⟨_, _, _, _, rfl, rfl, r1, r2⟩
theorem DtA.three {vs : List V} {ds : List PyData} (h : DtA K mu H vs ds) (e : ds.length = 3) : ∃ x y z d f g, vs = [x, y, z] ∧ ds = [d, f, g] ∧ Dt K mu H x d ∧ Dt K mu H y f ∧ Dt K mu H z g := by
  cases h with
  | nil => simp at e
  | cons r1 t =>
    obtain ⟨y, z, f, g, rfl, rfl, r2, r3⟩ := t.two (by simpa using e)
    exact ⟨_, _, _, _, _, _, rfl, rfl, r1, r2, r3⟩
theorem DtA.ints : ∀ (ns : List Int), DtA K mu H (ns.map V.int) (ns.map PyData.int)
  | [] => .nil
  | n :: ns => .cons (.int n) (DtA.ints ns)
theorem DtA.strs : ∀ (ns : List Str), DtA K mu H (ns.map V.str) (ns.map PyData.str)
  | [] => .nil
  | n :: ns => .cons (.str n) (DtA.strs ns)
theorem _root_.L2.Same.seqT {H1 H2 : Hp} (e : Same H1 H2) {a : Addr} {xs : List V} (h : SqT K H1 a xs) : SqT K H2 a xs := by
  rcases h with (h | ⟨o, h⟩) | h
  · exact .inl (.inl (e _ _ h))
  · exact .inl (.inr ⟨o, e _ _ h⟩)
  · exact .inr h
theorem DtA.bls : ∀ (bs : List Bool), DtA K mu H (bs.map V.bl) (bs.map PyData.bool)
  | [] => .nil
  | n :: ns => .cons (.bl n) (DtA.bls ns)
end

/-! ### what the library reads -/
theorem nmem_app {p : Addr → Prop} {as bs : List Addr} (ha : ∀ a ∈ as, ¬ p a) (hb : ∀ a ∈ bs, ¬ p a) : ∀ a ∈ as ++ bs, ¬ p a := fun a h => (List.mem_append.mp h).elim (ha a) (hb a)
theorem nmem_cons {p : Addr → Prop} {b : Addr} {as : List Addr} (hb : ¬ p b) (ha : ∀ a ∈ as, ¬ p a) : ∀ a ∈ b :: as, ¬ p a := fun a h => (List.mem_cons.mp h).elim (fun e => by rw [e]; exact hb) (ha a)
section
variable {X : Cx} {pins : List (Addr × Obj)} {σ : L2.St} {H : Hp} {s : Shared} {mu : Addr → Prop}
theorem Rd.sqL {K : PySem.W.Frag} {a : Addr} {xs : List V} (r : Rd H a (.lst xs)) : SqL K H a xs := .inl r
theorem Rd.sqT {K : PySem.W.Frag} {a : Addr} {xs : List V} (r : Rd H a (.tup xs)) : SqT K H a xs := .inl r
theorem KTup.sqT {K : PySem.W.Frag} {a : Addr} {xs : List V} (r : KTup K a xs) : SqT K H a xs := .inr r
mutual
theorem Dt.reads (I : Inv X pins σ H s) : ∀ (d : PyData) (v : V) (u : Value), Dt X.K mu H v d → RelV v u → ∃ as, Reads s.heap u d as ∧ ∀ a ∈ as, ¬ mu a
  | .none, _, _, h, r => by
    cases h
    cases r
    exact ⟨_, Reads.none, fun _ z => nomatch z⟩
  | .bool b, _, _, h, r => by
    cases h
    cases r
    exact ⟨_, Reads.bool b, fun _ z => nomatch z⟩
  | .int i, _, _, h, r => by
    cases h
    obtain ⟨t, rfl⟩ := r
    exact ⟨_, Reads.int i t, fun _ z => nomatch z⟩
  | .str x, _, _, h, r => by
    cases h
    obtain ⟨t, rfl⟩ := r
    exact ⟨_, Reads.str x t, fun _ z => nomatch z⟩
  | .list ds, _, _, h, r => by
    cases h with
    | lst n rd ha =>
      cases r
      obtain ⟨its, rv, ⟨o, m, ho, hc, _, hd⟩, _⟩ := I.list (Rd.sqL rd)
      obtain ⟨as, hr, hn⟩ := DtA.reads I ds _ its ha rv
      exact ⟨_, Reads.list ho hc hd hr, nmem_cons n hn⟩
  | .tuple ds, _, _, h, r => by
    have key : ∀ {a : Addr} {xs : List V} {u : Value}, SqT X.K H a xs → DtA X.K mu H xs ds → RelV (.ref a) u → ∃ as, Reads s.heap u (.tuple ds) as ∧ ∀ a ∈ as, ¬ mu a := fun {a xs u} hs ha r => by
      cases r
      obtain ⟨its, rv, ⟨o, ho, hc, n, hd⟩, _⟩ := I.tuple hs
      obtain ⟨as, hr, hn⟩ := DtA.reads I ds _ its ha rv
      exact ⟨_, Reads.tuple ho hc hd hr, hn⟩
    cases h with
    | tup rd ha => exact key (Rd.sqT rd) ha r
    | tupK rd ha => exact key (KTup.sqT rd) ha r
  | .dict ds, _, _, h, r => by
    cases h with
    | @dct a kvs _ n rd ha =>
      cases r
      have z : ObjOk X.prog X.w H s.heap a (.dK kvs) := rd.ok I.hok
      obtain ⟨_, _, vs, rel, o, es, ep, ho, hx, hd, _, hp, _⟩ := z
      obtain ⟨as, bs, h1, h2, m1, m2⟩ := DtK.reads I ds kvs vs es.toList ha rel hp
      exact ⟨_, Reads.dict ho hx.1 hd h1 h2, nmem_cons n (nmem_app m1 m2)⟩
theorem DtA.reads (I : Inv X pins σ H s) : ∀ (ds : List PyData) (vs : List V) (us : List Value), DtA X.K mu H vs ds → Vals vs us → ∃ as, ReadsAll s.heap us ds as ∧ ∀ a ∈ as, ¬ mu a
  | [], _, _, h, r => by
    cases h
    cases r
    exact ⟨_, ReadsAll.nil, fun _ z => nomatch z⟩
  | d :: ds, _, _, h, r => by
    cases h with
    | cons h1 h2 =>
      cases r with
      | cons r1 r2 =>
        obtain ⟨as, q1, m1⟩ := Dt.reads I d _ _ h1 r1
        obtain ⟨bs, q2, m2⟩ := DtA.reads I ds _ _ h2 r2
        exact ⟨_, ReadsAll.cons q1 q2, nmem_app m1 m2⟩
theorem DtK.reads (I : Inv X pins σ H s) : ∀ (ds : List (PyData × PyData)) (kvs : List (Key × V)) (vs : List (Key × Value)) (es : List DictEntry), DtK X.K mu H kvs ds → KV kvs vs → Pairs (mixKind X.prog X.w) es vs →
    ∃ as bs, ReadsAll s.heap (es.map (·.key)) (ds.map (·.1)) as ∧ ReadsAll s.heap (es.map (·.val)) (ds.map (·.2)) bs ∧ (∀ a ∈ as, ¬ mu a) ∧ ∀ a ∈ bs, ¬ mu a
  | [], _, _, _, h, r, p => by
    cases h
    cases r
    cases p
    exact ⟨_, _, ReadsAll.nil, ReadsAll.nil, (fun _ z => nomatch z), (fun _ z => nomatch z)⟩
  | (dk, d) :: ds, _, _, _, h, r, p => by
    cases h with
    | @cons k v kvs _ _ h1 h2 =>
      cases r with
      | @cons _ q _ vs r1 r2 =>
        cases p with
        | @cons e _ es _ p1 p2 p3 =>
          obtain ⟨as, q1, m1⟩ := Dt.reads I d _ q.2 h1 r1.2
          obtain ⟨cs, bs, q2, q3, m2, m3⟩ := DtK.reads I ds _ _ _ h2 r2 p3
          have ek : keyIs k e.key = true := by
            have z : keyIs q.1 e.key = true := p1
            rw [← r1.1] at z
            exact z
          have q4 : ∃ as, Reads s.heap e.key (keyD k) as ∧ ∀ a ∈ as, ¬ mu a := by
            rcases keyIs_shape ek with ⟨i, t, z1, z2⟩ | ⟨x, t, z1, z2⟩
            · rw [z1, z2]
              exact ⟨_, Reads.int i t, fun _ z => nomatch z⟩
            · rw [z1, z2]
              exact ⟨_, Reads.str x t, fun _ z => nomatch z⟩
          obtain ⟨a0, q4, m4⟩ := q4
          refine ⟨_, _, ReadsAll.cons q4 q2, ReadsAll.cons (as := as) (by show Reads s.heap e.val d as; rw [p2]; exact q1) q3, nmem_app m4 m2, nmem_app m1 m3⟩
end
end
/-! ### == and repr of data -/
section
variable {X : Cx}
def rEqW (K : PySem.W.Frag) : R2 := fun x y H Q => ∃ mu d e, Dt K mu H x d ∧ Dt K mu H y e ∧ SeqAt.shaped d = true ∧ SeqAt.shaped e = true ∧ Q (.bl (PyData.eqv d e)) H
def rNeW (K : PySem.W.Frag) : R2 := fun x y H Q => ∃ mu d e, Dt K mu H x d ∧ Dt K mu H y e ∧ SeqAt.shaped d = true ∧ SeqAt.shaped e = true ∧ Q (.bl (!PyData.eqv d e)) H
theorem op_eqW (hu : X.A.units + 64 < cLine) : OpR X (compareOp .Eq) (rEqW X.K) := by
  intro pins s σ H x y v u Q I rx ry h
  obtain ⟨mu, d, e, hd, he, sd, se, q⟩ := h
  obtain ⟨as, r1, _⟩ := Dt.reads I d x v hd rx
  obtain ⟨bs, r2, _⟩ := Dt.reads I e y u he ry
  exact SeqAt.compareEq_shaped r1 r2 sd se hu ⟨.bl _, H, I, rfl, q⟩
theorem op_neW (hu : X.A.units + 64 < cLine) : OpR X (compareOp .NotEq) (rNeW X.K) := by
  intro pins s σ H x y v u Q I rx ry h
  obtain ⟨mu, d, e, hd, he, sd, se, q⟩ := h
  obtain ⟨as, r1, _⟩ := Dt.reads I d x v hd rx
  obtain ⟨bs, r2, _⟩ := Dt.reads I e y u he ry
  exact SeqAt.compareNe_shaped r1 r2 sd se hu ⟨.bl _, H, I, rfl, q⟩
/-- == of data, or of one thing with itself -/
def rEqA (K : PySem.W.Frag) : R2 := fun x y H Q => rEqW K x y H Q ∨ (rEqV K x y H Q ∨ rEq x y H Q)
theorem op_eqA (hu : X.A.units + 64 < cLine) : OpR X (compareOp .Eq) (rEqA X.K) := OpR.or (op_eqW hu) (OpR.or (op_eqV hu) op_eq)
def rRepr (K : PySem.W.Frag) : List V → Hp → VK → Prop := fun xs H Q => ∃ (x : V) (mu : Addr → Prop) (d : PyData), xs = [x] ∧ Dt K mu H x d ∧ d.showable = true ∧ (d.hasDict = false ∨ mu sysModules) ∧ d.depth ≤ 60 ∧ d.shown.length ≤ sizeLine ∧ Q (.str d.shown) H
theorem call_repr (hg : Gd X.A) (hu : X.A.units + 64 < cLine) : CallR X (.builtin "repr") (rRepr X.K) := by
  intro pins s σ H xs us Q I r h
  obtain ⟨x, mu, d, rfl, hd, hs, hm, hdp, hl, q⟩ := h
  cases r with
  | @cons _ u _ _ r1 r2 =>
    cases r2
    have fin : ∀ {t : Tok} {tk : Nat}, EP X pins σ Q (.str d.shown t) { s with toks := tk } := fun {t tk} => ⟨.str _, H, I.tok tk, ⟨t, rfl⟩, q⟩
    cases d with
    | none =>
      cases hd
      cases r1
      exact P.repr_of_none fin
    | bool b =>
      cases hd
      cases r1
      exact P.repr_of_bool fin
    | int i =>
      cases hd
      obtain ⟨t, rfl⟩ := r1
      exact P.repr_of_int (of_decide_eq_true hs) fin
    | str y =>
      cases hd
      obtain ⟨t, rfl⟩ := r1
      exact P.repr_of_str fin hl
    | _ =>
      obtain ⟨as, hr, hn⟩ := Dt.reads I _ x u hd r1
      have hu' : ∃ a, u = .ref a := by
        cases hd <;> exact ⟨_, r1⟩
      obtain ⟨a, rfl⟩ := hu'
      exact repr_of_reads' hr hs (fun hz => hm.elim (fun z => by rw [z] at hz; cases hz) fun z y => hn _ y z) hg (by omega) (fun _ _ e => e) (fun h' t tk hk => ⟨.str _, H, (I.kept (h' := h') (t' := tk) hk), ⟨t, rfl⟩, q⟩) hl
end
end Sw
/-! Calls of defs by what they promise; isinstance, len, items of data; the built-ins' names. -/
namespace Sw
open PySem PySem.Spec PyProof.Rows L2

/-- the module's name x is a def that keeps sp -/
structure CalG (P : Program) (w : World) (K : PySem.W.Frag) (mg : Str → Option Value) (base : Heap) (k : Nat) (x : Str) (sp : Sp) : Prop where
  ex : ∃ (f : Addr) (fd : FuncData) (ps : List Str), FnG P w K mg base k f fd ps sp ∧ mg x = some (.ref f) ∧ PySem.W.keepIn K (.ref f) = true ∧ Binds K fd ps []
section
variable {X : Cx} {k j : Nat} {sp : Sp} {x : Str} {e : Expr} {es : List Expr} {t : TA} {p pos : Pos}
theorem pc (c : CalG X.prog X.w X.K X.mg X.base k x sp) (g : Gd X.A) (hr : Room j X.A) (hk : k ≤ j) (hg : Gl X x) (ha : PA X (e :: es) t)
    (hdb : (x == ("__debug__" : Str)) = false := by decide) (he : starEach (e :: es) X.env = (false, eval e X.env) :: starEach es X.env := by rfl) (hpl : (backTo pos (starEach es X.env)).any (·.1) = false := by rfl) :
    PE X (.Call (.Name x p) (e :: es) [] pos) (tCall sp [] E0 t) := by
  obtain ⟨f, fd, ps, F, hm, kp, b⟩ := c.ex
  exact peG F g (hr.mono hk) hg hm kp b .nil ha hdb he hpl
theorem pc0 (c : CalG X.prog X.w X.K X.mg X.base k x sp) (g : Gd X.A) (hr : Room j X.A) (hk : k ≤ j) (hg : Gl X x) (hdb : (x == ("__debug__" : Str)) = false := by decide) :
    PE X (.Call (.Name x p) [] [] pos) (tCall sp [] E0 tNil) := by
  obtain ⟨f, fd, ps, F, hm, kp, b⟩ := c.ex
  exact peG0 F g (hr.mono hk) hg hm kp b .nil hdb
end
theorem Room.u64 {k : Nat} {A : Around} (r : Room k A) : A.units + 64 < cLine := by
  have := r.un
  omega

/-! ### isinstance of data -/
def tyName : PyData → String
  | .none => "NoneType" | .bool _ => "bool" | .int _ => "int" | .str _ => "str" | .list _ => "list" | .tuple _ => "tuple" | .dict _ => "dict"
def isT (T : String) (d : PyData) : Bool := tyName d == T || (tyName d == "bool" && T == "int")
section
variable {K : PySem.W.Frag} {mu : Addr → Prop} {H : Hp}
theorem Dt.tyx {v : V} {d : PyData} (h : Dt K mu H v d) : TyX K H v (.type (tyName d)) := by
  cases h with
  | non => exact .base .non
  | bl b => exact .base (.bl b)
  | int i => exact .base (.int i)
  | str x => exact .base (.str x)
  | lst n r _ =>
    rcases r with r | ⟨o, r⟩
    · exact .base (.lst r)
    · exact .base (.frz r)
  | tup r _ =>
    rcases r with r | ⟨o, r⟩
    · exact .base (.tup r)
    · exact .fTuple r
  | tupK r _ =>
    obtain ⟨o, its, n, h1, h2, _⟩ := r
    exact .kTuple h1 h2
  | dct n r _ =>
    rcases r with r | ⟨o, r⟩
    · exact .base (.dK r)
    · exact .fDict r
end
def tyAsk (T : String) : Bool := ["int", "bool", "str", "list", "tuple", "dict"].contains T
theorem kit_tab : ∀ T ∈ ["int", "bool", "str", "list", "tuple", "dict"], ∀ S ∈ ["NoneType", "bool", "int", "str", "list", "tuple", "dict"], kitB S T = some (S == T || (S == "bool" && T == "int")) := by decide +kernel
theorem tyName_mem (d : PyData) : tyName d ∈ ["NoneType", "bool", "int", "str", "list", "tuple", "dict"] := by
  cases d <;> simp [tyName]
def rIsD (K : PySem.W.Frag) : List V → Hp → VK → Prop := fun xs H Q => ∃ (x : V) (T : String) (mu : Addr → Prop) (d : PyData), xs = [x, .ty T] ∧ T ∈ ["int", "bool", "str", "list", "tuple", "dict"] ∧ Dt K mu H x d ∧ Q (.bl (isT T d)) H
section
variable {X : Cx}
theorem call_isD : CallR X (.builtin "isinstance") (rIsD X.K) := by
  intro pins s σ H xs us Q I r h
  obtain ⟨x, T, mu, d, rfl, hT, hd, q⟩ := h
  exact call_isi pins s σ H _ us Q I r ⟨x, .ty T, _, .type T, _, rfl, .ty T, hd.tyx, kit_ty (kit_tab T hT _ (tyName_mem d)), q⟩

/-! ### len, items -/
def lenD : PyData → Option Nat
  | .str x => some x.length | .list ds => some ds.length | .tuple ds => some ds.length | _ => none
theorem call_lenA : CallR X (.builtin "len") (fun xs H Q => ∃ (x : V) (n : Nat), xs = [x] ∧ LenV X.K x H n ∧ Q (.int n) H) := call_len
theorem lenV_of {K : PySem.W.Frag} {mu : Addr → Prop} {H : Hp} {v : V} {d : PyData} {n : Nat} (h : Dt K mu H v d) (hn : lenD d = some n) (hs : n ≤ sizeLine) : LenV K v H n := by
  cases h with
  | str x =>
    cases hn
    exact ⟨hs, rfl⟩
  | lst m r ha =>
    cases hn
    exact .inl ⟨_, Rd.sqL r, ha.length.symm⟩
  | tup r ha =>
    cases hn
    exact .inr ⟨_, Rd.sqT r, ha.length.symm⟩
  | tupK r ha =>
    cases hn
    exact .inr ⟨_, KTup.sqT r, ha.length.symm⟩
  | _ => cases hn
/-- an item of a tuple, of a list -/
theorem Dt.tupAt {K : PySem.W.Frag} {mu : Addr → Prop} {H : Hp} {v : V} {ds : List PyData} (h : Dt K mu H v (.tuple ds)) : ∃ a xs, v = .ref a ∧ SqT K H a xs ∧ DtA K mu H xs ds := by
  cases h with
  | tup r ha => exact ⟨_, _, rfl, Rd.sqT r, ha⟩
  | tupK r ha => exact ⟨_, _, rfl, KTup.sqT r, ha⟩
theorem Dt.lstAt {K : PySem.W.Frag} {mu : Addr → Prop} {H : Hp} {v : V} {ds : List PyData} (h : Dt K mu H v (.list ds)) : ∃ a xs, v = .ref a ∧ ¬ mu a ∧ Rd H a (.lst xs) ∧ DtA K mu H xs ds := by
  cases h with
  | lst n r ha => exact ⟨_, _, rfl, n, r, ha⟩
/-- o[i] of a list by values (in o[i] op= e), i from 0 on -/
def rGetL (K : PySem.W.Frag) : R2 := fun o i H Q => ∃ (p : Addr) (xs : List V) (j : Nat) (v : V), o = .ref p ∧ i = .int j ∧ SqL K H p xs ∧ xs[j]? = some v ∧ Q v H
theorem get_list : PGet X (rGetL X.K) := by
  intro pins s σ H o i ov iv Q I ro ri h
  obtain ⟨p, xs, j, v, rfl, rfl, hq, he, q⟩ := h
  cases ro
  obtain ⟨t, rfl⟩ := ri
  obtain ⟨its, r, pl, hz⟩ := I.list hq
  obtain ⟨u, eu, ru⟩ := r.get he
  have hn := line63
  have hl := (List.getElem?_eq_some_iff.mp he).1
  exact wpAny_getItem_list pl.isList (by omega) (by omega) (by simpa using eu) ⟨v, H, I, ru, q⟩
end

/-! ### the built-ins' names, not taken by the module -/
structure Bt (mg : Str → Option Value) : Prop where
  len : mg "len" = none
  int : mg "int" = none
  bool : mg "bool" = none
  str : mg "str" = none
  tuple : mg "tuple" = none
  list : mg "list" = none
  dict : mg "dict" = none
  isin : mg "isinstance" = none
  repr : mg "repr" = none
  abs : mg "abs" = none
  max : mg "max" = none
  min : mg "min" = none
  range : mg "range" = none
  enum : mg "enumerate" = none
  zip : mg "zip" = none
theorem bb_abs : bootBuiltins "abs" = some (.builtin "abs") := by decide +kernel
theorem bb_isin : bootBuiltins "isinstance" = some (.builtin "isinstance") := by decide +kernel
theorem bb_repr : bootBuiltins "repr" = some (.builtin "repr") := by decide +kernel
theorem bb_max : bootBuiltins "max" = some (.builtin "max") := by decide +kernel
theorem bb_min : bootBuiltins "min" = some (.builtin "min") := by decide +kernel
theorem bb_len : bootBuiltins "len" = some (.builtin "len") := PySem.boot_len
theorem bb_sum : bootBuiltins "sum" = some (.builtin "sum") := by decide +kernel
theorem bb_all : bootBuiltins "all" = some (.builtin "all") := by decide +kernel
theorem bb_any : bootBuiltins "any" = some (.builtin "any") := by decide +kernel
theorem bb_sorted : bootBuiltins "sorted" = some (.builtin "sorted") := by decide +kernel
theorem bb_divmod : bootBuiltins "divmod" = some (.builtin "divmod") := by decide +kernel
theorem bb_int : bootBuiltins "int" = some (.type "int") := by decide +kernel
theorem bb_bool : bootBuiltins "bool" = some (.type "bool") := by decide +kernel
theorem bb_str : bootBuiltins "str" = some (.type "str") := by decide +kernel
theorem bb_tuple : bootBuiltins "tuple" = some (.type "tuple") := by decide +kernel
theorem bb_list : bootBuiltins "list" = some (.type "list") := by decide +kernel
theorem bb_dict : bootBuiltins "dict" = some (.type "dict") := by decide +kernel
theorem bb_set : bootBuiltins "set" = some (.type "set") := by decide +kernel
theorem bb_VE : bootBuiltins "ValueError" = some (.type "ValueError") := by decide +kernel

/-! ### data of a size that may be shown and compared -/
mutual
def okD : PyData → Bool
  | .none | .bool _ => true
  | .int i => decide (i.natAbs < 10 ^ 500)
  | .str x => PyData.strOk x
  | .list xs | .tuple xs => okA xs
  | .dict kvs => okK kvs
def okA : List PyData → Bool
  | [] => true
  | x :: xs => okD x && okA xs
def okK : List (PyData × PyData) → Bool
  | [] => true
  | (k, v) :: r => okD k && okD v && okK r
end
structure Ok (d : PyData) : Prop where
  ok : okD d = true
  dp : d.depth ≤ 50
  wt : d.weight ≤ 27000
instance (d : PyData) : Decidable (Ok d) := decidable_of_iff (okD d = true ∧ d.depth ≤ 50 ∧ d.weight ≤ 27000) ⟨fun h => ⟨h.1, h.2.1, h.2.2⟩, fun h => ⟨h.ok, h.dp, h.wt⟩⟩
theorem int_short {i : Int} (h : i.natAbs < 10 ^ 500) : (PyData.shown (.int i)).length ≤ 600 := by
  have e := int_text_length_le10 (k := 500) (by decide) h
  show (Str.ofString (toString i)).length ≤ 600
  rw [PySem.ofString_length]
  omega
theorem int_log {i : Int} (h : i.natAbs < 10 ^ 500) : i.natAbs.log2 < 1920 := by
  have e : (10 : Nat) ^ 500 ≤ 2 ^ 1900 := by decide +kernel
  by_cases z : i.natAbs = 0
  · rw [z]
    decide
  · exact Nat.lt_trans ((Nat.log2_lt z).mpr (Nat.lt_of_lt_of_le h e)) (by decide)
mutual
theorem ok_show : ∀ d : PyData, okD d = true → d.showable = true ∧ d.leavesShort 600 = true
  | .none, _ => ⟨rfl, rfl⟩
  | .bool _, _ => ⟨rfl, rfl⟩
  | .int i, h => by
    have h1 : i.natAbs < 10 ^ 500 := by simpa only [okD, decide_eq_true_eq] using h
    exact ⟨by simp only [PyData.showable, decide_eq_true_eq]; exact int_log h1, by simp only [PyData.leavesShort, decide_eq_true_eq]; exact int_short h1⟩
  | .str x, h => ⟨rfl, PyData.leavesShort_of_canLay0 600 (.str x) (by simpa only [okD, PyData.canLay0] using h) rfl⟩
  | .list xs, h => by simpa only [PyData.showable, PyData.leavesShort] using ok_showA xs (by simpa only [okD] using h)
  | .tuple xs, h => by simpa only [PyData.showable, PyData.leavesShort] using ok_showA xs (by simpa only [okD] using h)
  | .dict kvs, h => by simpa only [PyData.showable, PyData.leavesShort] using ok_showK kvs (by simpa only [okD] using h)
theorem ok_showA : ∀ xs : List PyData, okA xs = true → PyData.showableAll xs = true ∧ PyData.leavesShortAll 600 xs = true
  | [], _ => ⟨rfl, rfl⟩
  | x :: xs, h => by
    have h' : okD x = true ∧ okA xs = true := by simpa only [okA, Bool.and_eq_true] using h
    have a := ok_show x h'.1
    have b := ok_showA xs h'.2
    simp only [PyData.showableAll, PyData.leavesShortAll, a.1, a.2, b.1, b.2, Bool.and_self, and_self]
theorem ok_showK : ∀ xs : List (PyData × PyData), okK xs = true → PyData.showableKv xs = true ∧ PyData.leavesShortKv 600 xs = true
  | [], _ => ⟨rfl, rfl⟩
  | (k, v) :: xs, h => by
    have h' : (okD k = true ∧ okD v = true) ∧ okK xs = true := by simpa only [okK, Bool.and_eq_true] using h
    have a := ok_show k h'.1.1
    have c := ok_show v h'.1.2
    have b := ok_showK xs h'.2
    simp only [PyData.showableKv, PyData.leavesShortKv, a.1, a.2, b.1, b.2, c.1, c.2, Bool.and_self, and_self]
end
mutual
theorem ok_lay : ∀ d : PyData, okD d = true → d.hasDict = false → d.canLay0 = true
  | .none, _, _ => rfl
  | .bool _, _, _ => rfl
  | .int i, _, _ => rfl
  | .str x, h, _ => by simpa only [okD, PyData.canLay0] using h
  | .list xs, h, n => by simpa only [PyData.canLay0] using ok_layA xs (by simpa only [okD] using h) (by simpa only [PyData.hasDict] using n)
  | .tuple xs, h, n => by simpa only [PyData.canLay0] using ok_layA xs (by simpa only [okD] using h) (by simpa only [PyData.hasDict] using n)
  | .dict kvs, _, n => by simp [PyData.hasDict] at n
theorem ok_layA : ∀ xs : List PyData, okA xs = true → PyData.hasDictAll xs = false → PyData.canLayAll0 xs = true
  | [], _, _ => rfl
  | x :: xs, h, n => by
    have h' : okD x = true ∧ okA xs = true := by simpa only [okA, Bool.and_eq_true] using h
    have n' : x.hasDict = false ∧ PyData.hasDictAll xs = false := by simpa only [PyData.hasDictAll, Bool.or_eq_false_iff] using n
    simp only [PyData.canLayAll0, ok_lay x h'.1 n'.1, ok_layA xs h'.2 n'.2, Bool.and_self]
end
theorem Ok.show {d : PyData} (h : Ok d) : d.showable = true := (ok_show d h.ok).1
theorem Ok.fits {d : PyData} (h : Ok d) : d.shown.length ≤ sizeLine := by
  have e := PyData.shown_le 600 (by decide) d (ok_show d h.ok).2
  have w := h.wt
  rw [sizeLine_eq]
  omega
theorem Ok.shaped {d : PyData} (h : Ok d) (n : d.hasDict = false) : SeqAt.shaped d = true := by
  have := h.dp
  unfold SeqAt.shaped
  rw [ok_lay d h.ok n, decide_eq_true (by omega)]
  rfl
theorem Ok.repr {K : PySem.W.Frag} {mu : Addr → Prop} {H : Hp} {v : V} {d : PyData} {Q : VK} (h : Ok d) (r : Dt K mu H v d) (n : d.hasDict = false ∨ mu sysModules) (q : Q (.str d.shown) H) : rRepr K [v] H Q :=
  ⟨v, mu, d, rfl, r, h.show, n, by have := h.dp; omega, h.fits, q⟩
theorem eqv_same {d : PyData} (h : d.canLay0 = true) : PyData.eqv d d = true := SeqAt.eqv_refl d h
theorem lay_strs : ∀ {xs : List Str}, (∀ z ∈ xs, PyData.strOk z = true) → PyData.canLayAll0 (xs.map PyData.str) = true ∧ PyData.depthAll (xs.map PyData.str) = 0
  | [], _ => ⟨rfl, rfl⟩
  | x :: xs, h => by
    have e1 : PyData.canLay0 (.str x) = true := by simpa only [PyData.canLay0] using h x List.mem_cons_self
    have e2 := lay_strs fun z hz => h z (List.mem_cons_of_mem _ hz)
    simp only [List.map_cons, PyData.canLayAll0, PyData.depthAll, e1, e2.1, e2.2, PyData.depth, Bool.and_self, Nat.max_self, and_self]
theorem shaped_strs {xs : List Str} (h : ∀ z ∈ xs, PyData.strOk z = true) : SeqAt.shaped (.list (xs.map PyData.str)) = true := by
  have e := lay_strs h
  unfold SeqAt.shaped
  simp only [PyData.canLay0, PyData.depth, e.1, e.2, Bool.true_and]
  decide
/-! ### short words for tests -/
theorem iteNe {A B : Prop} {i j : Int} (h1 : i ≠ j → A) (h2 : i = j → B) : if (!decide (V.int i = V.int j)) = true then A else B := by
  by_cases e : i = j
  · have z : (!decide (V.int i = V.int j)) = false := by rw [e, decide_eq_true rfl]; rfl
    rw [z]
    exact iteF (h2 e)
  · have z : (!decide (V.int i = V.int j)) = true := by rw [decide_eq_false fun q => e (V.int.inj q)]; rfl
    rw [z]
    exact iteT (h1 e)
theorem iteEq {A B : Prop} {i j : Int} (h1 : i = j → A) (h2 : i ≠ j → B) : if decide (V.int i = V.int j) = true then A else B := by
  by_cases e : i = j
  · rw [e, decide_eq_true rfl]
    exact iteT (h1 e)
  · rw [decide_eq_false fun q => e (V.int.inj q)]
    exact iteF (h2 e)
theorem iteP {A B : Prop} {p : Prop} [Decidable p] (h1 : p → A) (h2 : ¬ p → B) : if decide p = true then A else B := by
  by_cases e : p
  · rw [decide_eq_true e]
    exact iteT (h1 e)
  · rw [decide_eq_false e]
    exact iteF (h2 e)
theorem iteB {A B : Prop} {b : Bool} (h1 : b = true → A) (h2 : b = false → B) : if b = true then A else B := by
  cases b with
  | true => exact iteT (h1 rfl)
  | false => exact iteF (h2 rfl)
theorem iteN {A B : Prop} {b : Bool} (h1 : b = false → A) (h2 : b = true → B) : if (!b) = true then A else B := by
  cases b with
  | true => exact iteF (h2 rfl)
  | false => exact iteT (h1 rfl)
theorem dec_int (i j : Int) : decide (V.int i = V.int j) = decide (i = j) := by
  rw [decide_eq_decide]
  exact ⟨V.int.inj, fun e => by rw [e]⟩
theorem okA_mem : ∀ {ds : List PyData} {d : PyData}, okA ds = true → d ∈ ds → okD d = true
  | x :: xs, d, h, m => by
    have h' : okD x = true ∧ okA xs = true := by simpa only [okA, Bool.and_eq_true] using h
    rcases List.mem_cons.mp m with rfl | m
    · exact h'.1
    · exact okA_mem h'.2 m
theorem depthAll_mem : ∀ {ds : List PyData} {d : PyData}, d ∈ ds → d.depth ≤ PyData.depthAll ds
  | x :: xs, d, m => by
    simp only [PyData.depthAll]
    rcases List.mem_cons.mp m with rfl | m
    · omega
    · have := depthAll_mem m
      omega
theorem weightAll_mem : ∀ {ds : List PyData} {d : PyData}, d ∈ ds → d.weight + 1 ≤ PyData.weightAll ds
  | x :: xs, d, m => by
    simp only [PyData.weightAll]
    rcases List.mem_cons.mp m with rfl | m
    · omega
    · have := weightAll_mem m
      omega
theorem Ok.inT {ds : List PyData} {d : PyData} (h : Ok (.tuple ds)) (m : d ∈ ds) : Ok d := by
  have z1 := h.dp
  have z2 := h.wt
  have z3 := h.ok
  simp only [PyData.depth] at z1
  simp only [PyData.weight] at z2
  simp only [okD] at z3
  have y1 := depthAll_mem m
  have y2 := weightAll_mem m
  exact ⟨okA_mem z3 m, by omega, by omega⟩
theorem Ok.inL {ds : List PyData} {d : PyData} (h : Ok (.list ds)) (m : d ∈ ds) : Ok d := by
  have z1 := h.dp
  have z2 := h.wt
  have z3 := h.ok
  simp only [PyData.depth] at z1
  simp only [PyData.weight] at z2
  simp only [okD] at z3
  have y1 := depthAll_mem m
  have y2 := weightAll_mem m
  exact ⟨okA_mem z3 m, by omega, by omega⟩
theorem weight_len : ∀ ds : List PyData, ds.length ≤ PyData.weightAll ds
  | [] => Nat.le_refl _
  | x :: xs => by
    have := weight_len xs
    simp only [PyData.weightAll, List.length_cons]
    omega
theorem Ok.strLen {x : Str} (h : Ok (.str x)) : x.length ≤ 27000 := by
  have := h.wt
  simp only [PyData.weight] at this
  exact this
theorem isTup (d : PyData) : isT "tuple" d = true ↔ ∃ ds, d = .tuple ds := by
  cases d <;> simp [isT, tyName]
theorem isStr (d : PyData) : isT "str" d = true ↔ ∃ x, d = .str x := by
  cases d <;> simp [isT, tyName]
theorem isLst (d : PyData) : isT "list" d = true ↔ ∃ ds, d = .list ds := by
  cases d <;> simp [isT, tyName]
theorem isIntD (d : PyData) : (isT "int" d && !isT "bool" d) = true ↔ ∃ i, d = .int i := by
  cases d <;> simp [isT, tyName]
end Sw
/-! Mathematics of names and common divisors. -/
namespace Sw
open PySem PySem.Spec PyProof.Rows L2

def low (c : Nat) : Bool := decide (97 ≤ c ∧ c ≤ 122)
theorem low_tab : ∀ c, c < 128 → (Unicode.isAlpha c && !(Unicode.isUpper c || Unicode.isTitle c)) = low c ∧ (low c = true → Unicode.isLower c = true) := by decide +kernel
theorem low_lt {c : Nat} (h : low c = true) : c < 128 := by
  have z := of_decide_eq_true h
  omega
/-- what is_name asks of a text's signs, both ways -/
theorem name_two (cs : List Nat) (h : cs ≠ []) : (cs.all (· < 128) && (cs.all Unicode.isAlpha && (cs.any Unicode.isLower && !cs.any fun c => Unicode.isUpper c || Unicode.isTitle c))) = cs.all low := by
  rw [Bool.eq_iff_iff]
  constructor
  · intro z
    simp only [Bool.and_eq_true, List.all_eq_true, decide_eq_true_eq, Bool.not_eq_true', List.any_eq_false] at z
    obtain ⟨z1, z2, z3, z4⟩ := z
    rw [List.all_eq_true]
    intro c hc
    have e := (low_tab c (z1 c hc)).1
    rw [← e, z2 c hc]
    simpa using z4 c hc
  · intro z
    rw [List.all_eq_true] at z
    have key : ∀ c ∈ cs, c < 128 ∧ Unicode.isAlpha c = true ∧ (Unicode.isUpper c || Unicode.isTitle c) = false ∧ Unicode.isLower c = true := fun c hc => by
      have l := low_lt (z c hc)
      have e := low_tab c l
      rw [z c hc] at e
      have e1 := e.1
      rw [Bool.and_eq_true, Bool.not_eq_true'] at e1
      exact ⟨l, e1.1, e1.2, e.2 rfl⟩
    simp only [Bool.and_eq_true, List.all_eq_true, decide_eq_true_eq, Bool.not_eq_true', List.any_eq_false, List.any_eq_true]
    obtain ⟨c, hc⟩ := List.exists_mem_of_ne_nil cs h
    exact ⟨fun c hc => (key c hc).1, fun c hc => (key c hc).2.1, ⟨c, hc, (key c hc).2.2.2⟩, fun c hc => by simpa using (key c hc).2.2.1⟩
/-- a NAME's text -/
def nameS (x : Str) : Bool := decide (1 ≤ x.length) && decide (x.length ≤ 12) && x.cps.toList.all low
theorem name_txt (x : Str) (h : 1 ≤ x.length) : (Txt.isascii x && (Txt.isalpha x && Txt.islower x)) = x.cps.toList.all low := by
  have hl : x.cps.toList ≠ [] := fun z => by
    have e : x.length = x.cps.toList.length := rfl
    rw [z] at e
    simp at e
    omega
  have e := name_two x.cps.toList hl
  rw [← e]
  unfold Txt.isascii Txt.isalpha Txt.islower
  have h2 : decide (x.length > 0) = true := decide_eq_true h
  rw [h2, Bool.true_and, ← Array.all_toList, ← Array.all_toList, ← Array.any_toList, ← Array.any_toList]
def az : Str := "abcdefghijklmnopqrstuvwxyz"
theorem az_mem (c : Nat) : decide (c ∈ az.cps.toList) = low c := by
  have h : az.cps.toList = (List.range 26).map (· + 97) := by decide +kernel
  rw [h]
  unfold low
  rw [decide_eq_decide]
  simp only [List.mem_map, List.mem_range]
  constructor
  · rintro ⟨i, hi, rfl⟩
    omega
  · intro z
    exact ⟨c - 97, by omega, by omega⟩

/-! ### the common divisor by rests -/
theorem gcd_step (a b : Nat) : Nat.gcd b (a % b) = Nat.gcd a b := by
  rw [Nat.gcd_comm a b, Nat.gcd_rec b a, Nat.gcd_comm]
/-- the size of the common divisor -/
def gI (n d : Int) : Int := ((Nat.gcd n.natAbs d.natAbs : Nat) : Int)
def sh (n d : Int) : Int := if gI n d > 1 then gI n d else 1
def redI (n d : Int) : Int × Int := if d < 0 then ((-n) / sh n d, (-d) / sh n d) else (n / sh n d, d / sh n d)
theorem sh_pos (n d : Int) : 0 < sh n d := by
  unfold sh
  split <;> omega
theorem sh_eq {n d : Int} (h : d ≠ 0) : sh n d = gI n d := by
  have : 0 < Nat.gcd n.natAbs d.natAbs := Nat.gcd_pos_of_pos_right _ (by omega)
  unfold sh gI
  split <;> omega
theorem sh_le {n d : Int} (h : d ≠ 0) : (sh n d).natAbs ≤ d.natAbs := by
  rw [sh_eq h]
  unfold gI
  rw [Int.natAbs_natCast]
  exact Nat.le_of_dvd (by omega) (Nat.gcd_dvd_right _ _)
/-- small positive ones, reduced -/
theorem redI_pos {n d : Int} (hn : 0 < n) (hd : 0 < d) : 1 ≤ (redI n d).1 ∧ (redI n d).1 ≤ n ∧ 1 ≤ (redI n d).2 ∧ (redI n d).2 ≤ d ∧ gI (redI n d).1 (redI n d).2 = 1 := by
  obtain ⟨a, rfl⟩ : ∃ a : Nat, n = (a : Int) := ⟨n.toNat, by omega⟩
  obtain ⟨c, rfl⟩ : ∃ c : Nat, d = (c : Int) := ⟨d.toNat, by omega⟩
  have ha : 0 < a := by omega
  have hc : 0 < c := by omega
  have hg : 0 < Nat.gcd a c := Nat.gcd_pos_of_pos_right _ hc
  have e : redI (a : Int) (c : Int) = (((a / Nat.gcd a c : Nat) : Int), ((c / Nat.gcd a c : Nat) : Int)) := by
    unfold redI
    rw [if_neg (by omega), sh_eq (by omega)]
    unfold gI
    rw [Int.natAbs_natCast, Int.natAbs_natCast, Int.natCast_ediv, Int.natCast_ediv]
  rw [e]
  have d1 : Nat.gcd a c ≤ a := Nat.le_of_dvd ha (Nat.gcd_dvd_left a c)
  have d2 : Nat.gcd a c ≤ c := Nat.le_of_dvd hc (Nat.gcd_dvd_right a c)
  have p1 : 0 < a / Nat.gcd a c := Nat.div_pos d1 hg
  have p2 : 0 < c / Nat.gcd a c := Nat.div_pos d2 hg
  have p3 : a / Nat.gcd a c ≤ a := Nat.div_le_self _ _
  have p4 : c / Nat.gcd a c ≤ c := Nat.div_le_self _ _
  have p5 : Nat.gcd (a / Nat.gcd a c) (c / Nat.gcd a c) = 1 := Nat.coprime_div_gcd_div_gcd hg
  refine ⟨by show (1 : Int) ≤ ((a / Nat.gcd a c : Nat) : Int); omega, by show ((a / Nat.gcd a c : Nat) : Int) ≤ _; omega, by show (1 : Int) ≤ ((c / Nat.gcd a c : Nat) : Int); omega, by show ((c / Nat.gcd a c : Nat) : Int) ≤ _; omega, ?_⟩
  unfold gI
  show ((Nat.gcd (((a / Nat.gcd a c : Nat) : Int)).natAbs (((c / Nat.gcd a c : Nat) : Int)).natAbs : Nat) : Int) = 1
  rw [Int.natAbs_natCast, Int.natAbs_natCast, p5]
  rfl

/-! ### the bag of draws -/
/-- the bag at b: what is left of a great cell, the stirred number, how many cells were taken, the cells -/
def BagAt (H : Hp) (b : Addr) : Prop := ∃ (x y z : Int) (l : Addr) (cs : List Int), H b = some (.lst [.int x, .int y, .int z, .ref l]) ∧ H l = some (.lst (cs.map V.int)) ∧ l ≠ b ∧ 0 ≤ x ∧ 0 ≤ y ∧ y < 2147483647 ∧ 0 ≤ z ∧ cs.length ≤ 63 ∧ ∀ c ∈ cs, 0 ≤ c
/-- its cells lie at l -/
def BagL (H : Hp) (b l : Addr) : Prop := ∃ x y z : Int, H b = some (.lst [.int x, .int y, .int z, .ref l])
theorem BagL.eq {H : Hp} {b l k : Addr} {x y z : Int} (h : BagL H b l) (e : H b = some (.lst [.int x, .int y, .int z, .ref k])) : l = k := by
  obtain ⟨x', y', z', e'⟩ := h
  rw [e] at e'
  cases e'
  rfl
/-- the bag alone has changed -/
structure Rel (b : Addr) (H H' : Hp) : Prop where
  keep : ∀ a o, a ≠ b → H a = some o → H' a = some o
  cell : ∀ l, BagL H b l → BagL H' b l
  bag : BagAt H' b
theorem Rel.refl {b : Addr} {H : Hp} (h : BagAt H b) : Rel b H H := ⟨fun _ _ _ e => e, fun _ h => h, h⟩
theorem Rel.trans {b : Addr} {H H1 H2 : Hp} (r : Rel b H H1) (s : Rel b H1 H2) : Rel b H H2 := ⟨fun a o n e => s.keep a o n (r.keep a o n e), fun l h => s.cell l (r.cell l h), s.bag⟩
theorem BagAt.same {b : Addr} {H H' : Hp} (h : BagAt H b) (s : Same H H') : BagAt H' b := by
  obtain ⟨x, y, z, l, cs, h1, h2, r⟩ := h
  exact ⟨x, y, z, l, cs, s _ _ h1, s _ _ h2, r⟩
theorem BagL.same {b l : Addr} {H H' : Hp} (h : BagL H b l) (s : Same H H') : BagL H' b l := by
  obtain ⟨x, y, z, e⟩ := h
  exact ⟨x, y, z, s _ _ e⟩
theorem Rel.same {b : Addr} {H H1 H2 : Hp} (r : Rel b H H1) (s : Same H1 H2) : Rel b H H2 := ⟨fun a o n e => s a o (r.keep a o n e), fun l h => (r.cell l h).same s, r.bag.same s⟩
theorem Rel.of_same {b : Addr} {H H1 : Hp} (h : BagAt H b) (s : Same H H1) : Rel b H H1 := ⟨fun a o n e => s a o e, fun l h => h.same s, h.same s⟩
theorem Rel.fut {b : Addr} {mu : Addr → Prop} {H H' : Hp} (r : Rel b H H') (h : mu b) (hb : BagAt H b) : Fut mu H H' := fun a o e z => r.keep a o (fun q => by
  rcases z with z | z | z
  · exact z (by rw [q]; exact h)
  · obtain ⟨x, y, z', l, cs, h1, _⟩ := hb
    obtain ⟨xs, rfl⟩ := z
    rw [q, h1] at e
    cases e
  · obtain ⟨x, y, z', l, cs, h1, _⟩ := hb
    obtain ⟨ob, u, rfl⟩ := z
    rw [q, h1] at e
    cases e) e
theorem Rel.some {b : Addr} {H H' : Hp} (r : Rel b H H') {a : Addr} (h : H' a = Option.none) : H a = Option.none := by
  by_cases e : a = b
  · obtain ⟨x, y, z', l, cs, h1, _⟩ := r.bag
    rw [e, h1] at h
    cases h
  · cases q : H a with
    | none => rfl
    | some o =>
      rw [r.keep a o e q] at h
      cases h
theorem same_upd {H : Hp} {p : Addr} {o : HO} (h : H p = Option.none) : Same H (upd H p o) := fun b x e => by
  rw [upd_ne (ne_of_none e h)]
  exact e
theorem cut_mem {xs : List V} {lo hi : Option Int} {v : V} (h : v ∈ cutV xs lo hi) : v ∈ xs := by
  unfold cutV at h
  exact List.mem_of_mem_drop (List.mem_of_mem_take h)
theorem cut_len (xs : List V) (lo hi : Option Int) : (cutV xs lo hi).length ≤ xs.length := by
  unfold cutV
  rw [List.length_take, List.length_drop]
  omega
theorem head_cell {cs : List Int} (h : ∀ c ∈ cs, 0 ≤ c) (lo hi : Option Int) : ∃ c : Int, 0 ≤ c ∧ (cutV (cs.map V.int) lo hi ++ [V.int 0])[0]? = some (.int c) := by
  cases e : cutV (cs.map V.int) lo hi with
  | nil => exact ⟨0, Int.le_refl _, rfl⟩
  | cons v r =>
    have m : v ∈ cutV (cs.map V.int) lo hi := by
      rw [e]
      exact List.mem_cons_self
    obtain ⟨c, hc, rfl⟩ := List.mem_map.mp (cut_mem m)
    exact ⟨c, h c hc, rfl⟩
/-- a drawn integer from 0 to many less 1 -/
def spTake : Sp := fun vs H Q _ => ∃ (b : Addr) (many : Int), vs = [.ref b, .int many] ∧ BagAt H b ∧ 0 < many ∧ many < 1073741824 ∧ ∀ v H', 0 ≤ v → v < many → Rel b H H' → Q (.int v) H'
end Sw
/-! What an expression that draws from the bag gives as a datum (Ge exactly, Gv by a word of it). -/
namespace Sw
open PySem PySem.Spec PyProof.Rows L2

def tLstN (t : TA) : TE := fun σ H Q => t σ H fun xs H1 => xs.length ≤ sizeLine ∧ ∀ p, H1 p = none → p ≠ sysModules → Q (.ref p) (upd H1 p (.lst xs))
/-- a list display: its place is new, and not that of sys.modules -/
theorem pe_lstN {X : Cx} {es : List Expr} {t : TA} {pos : Pos} (h : PA X es t) : PE X (.List es pos) (tLstN t) :=
  ⟨fun pins s σ H Q I hq => wpAny_List_spliced (thn (h.run pos pins s σ H _ I hq) fun us s1 g => by
    obtain ⟨xs, H1, I1, r, z, q⟩ := g
    exact ⟨by rw [← r.length]; exact z, .ref s1.heap.objs.size, upd H1 s1.heap.objs.size (.lst xs), I1.laid (t' := s1.toks) (fun b u e => Heap.get?_push_of_some _ e) (Nat.le_refl _) ⟨z, us, 0, r, Heap.get?_push_size _ rfl⟩, rfl,
      q _ (I1.hok.fresh (Nat.le_refl _)) (Nat.ne_of_gt I1.big)⟩)⟩
def tDNewN : TE := fun _ H Q => ∀ p, H p = none → p ≠ sysModules → Q (.ref p) (upd H p (.dK []))
theorem pe_dnewN {X : Cx} {pos : Pos} : PE X (.Dict [] [] pos) tDNewN := ⟨fun pins s σ H Q I h =>
  wpAny_Dict_empty ⟨.ref s.heap.objs.size, _, I.laid (a := s.heap.objs.size) (o := .dK []) (t' := s.toks) (fun _ _ q => Heap.get?_push_of_some _ q) (Nat.le_refl _) (dk_empty s.heap I.big), rfl, h _ (I.hok.fresh (Nat.le_refl _)) (Nat.ne_of_gt I.big)⟩⟩
/-- what may change is tracked (or sys.modules) -/
def MuOk (mu : Addr → Prop) (H : Hp) : Prop := ∀ a, mu a → H a ≠ none ∨ a = sysModules
theorem MuOk.rel {mu : Addr → Prop} {b : Addr} {H H' : Hp} (m : MuOk mu H) (r : Rel b H H') : MuOk mu H' := fun a h => by
  rcases m a h with z | z
  · refine .inl fun e => z (r.some e)
  · exact .inr z
theorem MuOk.same {mu : Addr → Prop} {H H' : Hp} (m : MuOk mu H) (s : Same H H') : MuOk mu H' := fun a h => by
  rcases m a h with z | z
  · exact .inl fun e => z (s.free e)
  · exact .inr z
theorem MuOk.new {mu : Addr → Prop} {H : Hp} (m : MuOk mu H) {p : Addr} (n : H p = none) (s : p ≠ sysModules) : ¬ mu p := fun h => (m p h).elim (fun z => z n) s
theorem MuOk.bag {H : Hp} {b : Addr} (h : BagAt H b) : MuOk (fun a => a = b ∨ a = sysModules) H := fun a z => by
  rcases z with rfl | z
  · obtain ⟨x, y, z, l, cs, h1, _⟩ := h
    exact .inl (by rw [h1]; exact fun z => nomatch z)
  · exact .inr z

/-- a list may be changed -/
def Own (H : Hp) (v : V) (d : PyData) : Prop := (∀ ds, d = .list ds → ∃ a xs, v = .ref a ∧ H a = some (.lst xs)) ∧ (d = .dict [] → ∃ a, v = .ref a ∧ H a = some (.dK []))
theorem Own.fut {K : PySem.W.Frag} {mu : Addr → Prop} {H H' : Hp} {v : V} {d : PyData} (o : Own H v d) (h : Dt K mu H v d) (f : Fut mu H H') : Own H' v d := ⟨fun ds e => by
  subst e
  obtain ⟨a, xs, rfl, e⟩ := o.1 ds rfl
  obtain ⟨a', _, e2, n, _, _⟩ := h.lstAt
  cases e2
  exact ⟨a, xs, rfl, f a _ e (.inl n)⟩, fun e => by
  subst e
  obtain ⟨a, rfl, e⟩ := o.2 rfl
  cases h with
  | dct n _ _ => exact ⟨a, rfl, f a _ e (.inl n)⟩⟩
theorem own_not {H : Hp} {v : V} {d : PyData} (h : ∀ ds, d ≠ .list ds) (h2 : d ≠ .dict [] := by intro z; cases z) : Own H v d := ⟨fun ds e => absurd e (h ds), fun e => absurd e h2⟩
/-- .. all of them -/
def OwnA (H : Hp) (vs : List V) (ds : List PyData) : Prop := ∀ (i : Nat) (v : V) (d : PyData), vs[i]? = some v → ds[i]? = some d → Own H v d
theorem OwnA.nil {H : Hp} {ds : List PyData} : OwnA H [] ds := fun i v d e => by simp at e
theorem OwnA.cons {H : Hp} {v : V} {vs : List V} {d : PyData} {ds : List PyData} (h : Own H v d) (t : OwnA H vs ds) : OwnA H (v :: vs) (d :: ds) := fun i x y e1 e2 => by
  cases i with
  | zero =>
    cases e1
    cases e2
    exact h
  | succ i => exact t i x y (by simpa using e1) (by simpa using e2)
section
variable (K : PySem.W.Frag) (b : Addr) (mu : Addr → Prop) (σ : L2.St) (H0 : Hp)
/-- the expression gives the datum d -/
def Ge (te : TE) (d : PyData) : Prop := ∀ H, Rel b H0 H → MuOk mu H → ∀ Q : VK, (∀ v H', Rel b H H' → Dt K mu H' v d → Q v H') → te σ H Q
/-- .. a datum of which D holds -/
def Gv (te : TE) (D : PyData → Prop) : Prop := ∀ H, Rel b H0 H → MuOk mu H → ∀ Q : VK, (∀ v H' d, D d → Rel b H H' → Dt K mu H' v d → Own H' v d → Q v H') → te σ H Q
def GeA (ta : TA) (ds : List PyData) : Prop := ∀ H, Rel b H0 H → MuOk mu H → ∀ Q : List V → Hp → Prop, (∀ vs H', Rel b H H' → DtA K mu H' vs ds → Q vs H') → ta σ H Q
def GvA (ta : TA) (D : PyData → Prop) (n : Nat) : Prop := ∀ H, Rel b H0 H → MuOk mu H → ∀ Q : List V → Hp → Prop, (∀ vs H' ds, ds.length = n → (∀ d ∈ ds, D d) → Rel b H H' → DtA K mu H' vs ds → OwnA H' vs ds → Q vs H') → ta σ H Q
end
section
variable {K : PySem.W.Frag} {b : Addr} {mu : Addr → Prop} {σ : L2.St} {H0 : Hp} {te : TE} {ta tr : TA} {d : PyData} {ds : List PyData} {D : PyData → Prop} {n : Nat}
theorem Ge.gv (h : Ge K b mu σ H0 te d) (hd : D d) (hn : ∀ ds, d ≠ .list ds := by intro _ z; cases z) (hn2 : d ≠ .dict [] := by intro z; cases z) : Gv K b mu σ H0 te D := fun H hb m Q q => h H hb m Q fun v H' r e => q v H' d hd r e (own_not hn hn2)
theorem gv_lst (hm : mu b) (h : GeA K b mu σ H0 ta ds) (hl : ds.length ≤ 1000) (hd : D (.list ds)) : Gv K b mu σ H0 (tLstN ta) D := fun H hb m Q q =>
  h H hb m _ fun vs H1 r e => ⟨Nat.le_of_lt (small1000 (by rw [e.length]; exact hl)), fun p np ns => q _ _ _ hd (r.same (same_upd np)) (.lst ((m.rel r).new np ns) (.inl upd_same) (e.fut (.of_same (same_upd np)))) ⟨fun _ _ => ⟨p, vs, rfl, upd_same⟩, fun z => nomatch z⟩⟩
theorem ge_int {i : Int} : Ge K b mu σ H0 (tC (.int i)) (.int i) := fun H hb _ _ q => q _ H (.refl hb.bag) (.int i)
theorem ge_bl {i : Bool} : Ge K b mu σ H0 (tC (.bl i)) (.bool i) := fun H hb _ _ q => q _ H (.refl hb.bag) (.bl i)
theorem ge_str {i : Str} : Ge K b mu σ H0 (tC (.str i)) (.str i) := fun H hb _ _ q => q _ H (.refl hb.bag) (.str i)
theorem ge_non : Ge K b mu σ H0 (tC .non) .none := fun H hb _ _ q => q _ H (.refl hb.bag) .non
theorem ge_neg {i : Int} : Ge K b mu σ H0 (tUn (rU fun i => .int (-i)) (tC (.int i))) (.int (-i)) := fun H hb _ _ q => ⟨i, rfl, q _ H (.refl hb.bag) (.int _)⟩
theorem geA_nil : GeA K b mu σ H0 tNil [] := fun H hb _ _ q => q _ H (.refl hb.bag) .nil
theorem geA_cons (hm : mu b) (h : Ge K b mu σ H0 te d) (t : GeA K b mu σ H0 tr ds) : GeA K b mu σ H0 (tCons te tr) (d :: ds) := fun H hb m _ q =>
  h H hb m _ fun v H1 r1 e1 => t H1 (hb.trans r1) (m.rel r1) _ fun vs H2 r2 e2 => q _ H2 (r1.trans r2) (.cons (e1.fut (r2.fut hm r1.bag)) e2)
theorem gvA_nil : GvA K b mu σ H0 tNil D 0 := fun H hb _ _ q => q _ H [] rfl (fun _ z => nomatch z) (.refl hb.bag) .nil .nil
theorem gvA_cons (hm : mu b) (h : Gv K b mu σ H0 te D) (t : GvA K b mu σ H0 tr D n) : GvA K b mu σ H0 (tCons te tr) D (n + 1) := fun H hb m _ q =>
  h H hb m _ fun v H1 d hd r1 e1 o1 => t H1 (hb.trans r1) (m.rel r1) _ fun vs H2 ds hl hds r2 e2 o2 => q _ H2 (d :: ds) (by rw [List.length_cons, hl]) (fun x z => by
    rcases List.mem_cons.mp z with rfl | z
    · exact hd
    · exact hds x z) (r1.trans r2) (.cons (e1.fut (r2.fut hm r1.bag)) e2) (.cons (o1.fut e1 (r2.fut hm r1.bag)) o2)
theorem ge_tup (hm : mu b) (h : GeA K b mu σ H0 ta ds) (hl : ds.length ≤ 1000) : Ge K b mu σ H0 (tTup ta) (.tuple ds) := fun H hb m _ q =>
  h H hb m _ fun vs H1 r e => ⟨Nat.le_of_lt (small1000 (by rw [e.length]; exact hl)), fun p np => q _ _ (r.same (same_upd np)) (.tup (.inl upd_same) (e.fut (.of_same (same_upd np))))⟩
theorem ge_lst (hm : mu b) (h : GeA K b mu σ H0 ta ds) (hl : ds.length ≤ 1000) : Ge K b mu σ H0 (tLstN ta) (.list ds) := fun H hb m _ q =>
  h H hb m _ fun vs H1 r e => ⟨Nat.le_of_lt (small1000 (by rw [e.length]; exact hl)), fun p np ns => q _ _ (r.same (same_upd np)) (.lst ((m.rel r).new np ns) (.inl upd_same) (e.fut (.of_same (same_upd np))))⟩
end
theorem gv_dict {K : PySem.W.Frag} {b : Addr} {mu : Addr → Prop} {σ : L2.St} {H0 : Hp} {D : PyData → Prop} (hd : D (.dict [])) : Gv K b mu σ H0 tDNewN D := fun H hb m Q q =>
  fun p np ns => q _ _ _ hd (Rel.of_same hb.bag (same_upd np)) (.dct (m.new np ns) (.inl upd_same) .nil) ⟨(fun _ z => nomatch z), fun _ => ⟨p, rfl, upd_same⟩⟩
/-- a menu of drawn things: t is a list, one of its items comes back -/
def spSome : Sp := fun vs H Q _ => ∃ (b t : Addr) (xs : List V), vs = [.ref b, .ref t] ∧ BagAt H b ∧ t ≠ b ∧ H t = some (.lst xs) ∧ 0 < xs.length ∧ xs.length ≤ 1000 ∧ ∀ (i : Nat) v H', xs[i]? = some v → Rel b H H' → Q v H'
/-- a menu is asked -/
theorem gv_some {K : PySem.W.Frag} {b : Addr} {mu : Addr → Prop} {σ : L2.St} {H0 : Hp} {ta : TA} {D : PyData → Prop} {n i : Nat} (hm : mu b) (hσ : σ[i]? = some (some (.ref b))) (h : GvA K b mu σ H0 ta D n) (h0 : 0 < n) (h1 : n ≤ 1000) :
    Gv K b mu σ H0 (tCall spSome [] E0 (tCons (tVar i) (tCons (tLst ta) tNil))) D := fun H hb m Q q => by
  refine ⟨_, hσ, h H hb m _ fun vs H1 ds hl hD r e oo => ?_⟩
  have hv : vs.length = n := e.length.trans hl
  refine ⟨Nat.le_of_lt (small1000 (by omega)), fun p np => ?_⟩
  have nb : p ≠ b := fun z => by
    obtain ⟨x, y, z', l, cs, h1, _⟩ := r.bag
    rw [z, h1] at np
    cases np
  refine ⟨b, p, vs, rfl, r.bag.same (same_upd np), nb, upd_same, by omega, by omega, fun j v H2 hj r2 => ?_⟩
  obtain ⟨d, hd, ed⟩ := e.get hj
  have o1 := (oo j v d hj hd).fut ed (.of_same (same_upd (o := .lst vs) np))
  have r3 := r.same (same_upd (o := .lst vs) np)
  exact q v H2 d (hD d (List.mem_of_getElem? hd)) (r3.trans r2) ((ed.fut (.of_same (same_upd np))).fut (r2.fut hm r3.bag)) (o1.fut (ed.fut (.of_same (same_upd np))) (r2.fut hm r3.bag))
theorem gv_var {K : PySem.W.Frag} {b : Addr} {mu : Addr → Prop} {σ : L2.St} {H0 : Hp} {i : Nat} {v : V} {d : PyData} {D : PyData → Prop} (hm : mu b) (hb : BagAt H0 b) (hσ : σ[i]? = some (some v)) (h : Dt K mu H0 v d) (o : Own H0 v d) (hd : D d) : Gv K b mu σ H0 (tVar i) D := fun H r m Q q =>
  ⟨v, hσ, q v H d hd (.refl r.bag) (h.fut (r.fut hm hb)) (o.fut h (r.fut hm hb))⟩
/-- a menu that lies ready -/
theorem gv_someV {K : PySem.W.Frag} {b : Addr} {mu : Addr → Prop} {σ : L2.St} {H0 : Hp} {D : PyData → Prop} {i j : Nat} {t : Addr} {xs : List V} {ds : List PyData} (hm : mu b) (hb : BagAt H0 b) (hσ : σ[i]? = some (some (.ref b))) (hτ : σ[j]? = some (some (.ref t))) (ht : H0 t = some (.lst xs)) (nt : t ≠ b)
    (e : DtA K mu H0 xs ds) (o : OwnA H0 xs ds) (hD : ∀ d ∈ ds, D d) (h0 : 0 < ds.length) (h1 : ds.length ≤ 1000) : Gv K b mu σ H0 (tCall spSome [] E0 (tCons (tVar i) (tCons (tVar j) tNil))) D := fun H r m Q q => by
  have hv : xs.length = ds.length := e.length
  refine ⟨_, hσ, _, hτ, b, t, xs, rfl, r.bag, nt, r.keep _ _ nt ht, by omega, by omega, fun k v H2 hk r2 => ?_⟩
  obtain ⟨d, hd, ed⟩ := e.get hk
  have f := (r.trans r2).fut hm hb
  exact q v H2 d (hD d (List.mem_of_getElem? hd)) r2 (ed.fut f) ((o k v d hk hd).fut ed f)
/-- a def over the bag (and further arguments) gives a datum of which D holds -/
def spG (K : PySem.W.Frag) (as : List V) (D : PyData → Prop) : Sp := fun vs H Q _ => ∃ (b : Addr) (mu : Addr → Prop), vs = .ref b :: as ∧ mu b ∧ BagAt H b ∧ MuOk mu H ∧ ∀ v H' d, D d → Rel b H H' → Dt K mu H' v d → Own H' v d → Q v H'
/-- a drawn FRACTION above 0 -/
def NumP (n m : Int) : Prop := 1 ≤ n ∧ n ≤ 1000000000000 ∧ 1 ≤ m ∧ m ≤ 1000000000000 ∧ gI n m = 1
def NumD (d : PyData) : Prop := ∃ n m, d = .tuple [.int n, .int m] ∧ NumP n m
def spNum (K : PySem.W.Frag) : Sp := fun vs H Q E => ∃ most : Int, 0 < most ∧ most ≤ 100000000 ∧ spG K [.int most] NumD vs H Q E
theorem ge_num {K : PySem.W.Frag} {b : Addr} {mu : Addr → Prop} {σ : L2.St} {H0 : Hp} {i : Nat} {n : Int} (hm : mu b) (hσ : σ[i]? = some (some (.ref b))) (h0 : 0 < n) (h1 : n ≤ 100000000) :
    Gv K b mu σ H0 (tCall (spNum K) [] E0 (tCons (tVar i) (tCons (tC (.int n)) tNil))) NumD := fun H hb m Q q =>
  ⟨_, hσ, n, h0, h1, b, mu, rfl, hm, hb.bag, m, q⟩
theorem numD {n m : Int} (h : NumP n m) : NumD (.tuple [.int n, .int m]) := ⟨n, m, rfl, h⟩
theorem int_pow {n : Int} (h1 : 1 ≤ n) (h2 : n ≤ 1000000000000) : n.natAbs < 10 ^ 500 := by
  have e : (1000000000000 : Nat) < 10 ^ 500 := by decide +kernel
  omega
theorem NumD.not {H : Hp} {v : V} {d : PyData} (h : NumD d) : Own H v d := by
  obtain ⟨n, m, rfl, _⟩ := h
  exact own_not fun _ z => nomatch z
theorem numD_ok {d : PyData} (h : NumD d) : Ok d ∧ d.hasDict = false ∧ d.weight ≤ 202 ∧ d.depth = 1 := by
  obtain ⟨n, m, rfl, h1, h2, h3, h4, _⟩ := h
  have w : ∀ i : Int, 1 ≤ i → i ≤ 1000000000000 → (PyData.int i).weight ≤ 100 := fun i a b => by
    have hz : i.natAbs ≠ 0 := by omega
    have e : i.natAbs.log2 < 40 := (Nat.log2_lt hz).mpr (by omega)
    simp only [PyData.weight]
    split <;> omega
  have w1 := w n h1 h2
  have w2 := w m h3 h4
  have e1 : (PyData.tuple [.int n, .int m]).weight ≤ 202 := by
    simp only [PyData.weight, PyData.weightAll] at w1 w2 ⊢
    omega
  have e2 : (PyData.tuple [.int n, .int m]).depth = 1 := by
    simp [PyData.depth, PyData.depthAll]
  refine ⟨⟨?_, by rw [e2]; decide, by omega⟩, by simp [PyData.hasDict, PyData.hasDictAll], e1, e2⟩
  simp only [okD, okA, Bool.and_true, Bool.and_eq_true, decide_eq_true_eq]
  exact ⟨int_pow h1 h2, int_pow h3 h4⟩
end Sw
/-! Own exceptions as values: made by their own __init__, fields read, classes asked. -/
namespace Sw
open PySem PySem.Spec PyProof.Rows L2

/-- C(e, ..), an error as a value -/
def tMkV (C : Addr) (sp : Sp) (ta : TA) : TE := fun σ H Q => ta σ H fun vs H1 => vs.length ≤ 1000 ∧ ∀ a, H1 a = none → sp (.ref a :: vs) (upd H1 a (exo a C none)) (fun v H2 => v = .non ∧ Q (.ref a) H2) E0
theorem pe_exV {X : Cx} {x : Str} {C fI : Addr} {k : Nat} {fd : FuncData} {ps : List Str} {sp : Sp} {e : Expr} {es : List Expr} {ta : TA} {p pos : Pos} (T : OexC X.K C) (iC : PySem.W.findIn X.K (.ref C) "__init__" = some (some (.ref fI))) (tI : PySem.W.typeIn X.K (.ref fI) = some (.type "function"))
    (F1 : FnG X.prog X.w X.K X.mg X.base k fI fd ps sp) (g : Gd X.A) (hr : Room (k + 1) X.A) (hb : Binds X.K fd ps []) (hg : Gl X x) (hm : X.mg x = some (.ref C)) (ha : PA X (e :: es) ta)
    (hdb : (x == ("__debug__" : Str)) = false := by decide) (he : starEach (e :: es) X.env = (false, eval e X.env) :: starEach es X.env := by rfl) (hpl : (backTo pos (starEach es X.env)).any (·.1) = false := by rfl) :
    PE X (.Call (.Name x p) (e :: es) [] pos) (tMkV C sp ta) := by
  refine ⟨fun pins s σ H Q I h => ?_⟩
  obtain ⟨nm, q, N, bs, bm, sn, sub, ab, col, dd, k0, k1, k2, k3, k5, hC, hbm⟩ := T.cls
  refine wpAny_Call_Name_kw (ld_glob I hg hm ?_ hdb)
  refine PySem.W.callWith_K (h₀ := X.base) I.ok.mod.kin T.kC (thn (ha.run pos pins s σ H _ I h) fun us s1 ⟨vs, H1, I1, r1, hz, q1⟩ => ⟨I1.kIn, ?_⟩) he hpl
  show wpAny _ _ (call (.ref C) us) _ _ _
  obtain ⟨hp, g1, dr, tk, os⟩ := s1
  have hsz : hp.objs.size ≤ hp.objs.size + 1 := Nat.le_succ _
  have hn : H1 (hp.objs.size + 1) = none := I1.hok.fresh hsz
  have hq := q1 (hp.objs.size + 1) hn
  have kk : ∀ b o, hp.get? b = some o → ((hp.push (PySem.W.kdv_tup us)).push (PySem.HandSPX.excO C hp.objs.size)).get? b = some o := fun b o e => Heap.get?_push_of_some _ (Heap.get?_push_of_some _ e)
  have hget : ((hp.push (PySem.W.kdv_tup us)).push (PySem.HandSPX.excO C hp.objs.size)).get? (hp.objs.size + 1) = some (PySem.HandSPX.excO C hp.objs.size) := by heap_get
  have I2 : Inv X pins σ (upd H1 (hp.objs.size + 1) (exo (hp.objs.size + 1) C none)) ⟨(hp.push (PySem.W.kdv_tup us)).push (PySem.HandSPX.excO C hp.objs.size), g1, dr, tk, os⟩ :=
    I1.laid (t' := tk) (a := hp.objs.size + 1) (o := exo (hp.objs.size + 1) C none) (h' := (hp.push (PySem.W.kdv_tup us)).push (PySem.HandSPX.excO C hp.objs.size)) kk hsz (exo_ok hget)
  have r2 : Vals (V.ref (hp.objs.size + 1) :: vs) (Value.ref (hp.objs.size + 1) :: us) := .cons rfl r1
  have hl : (Value.ref (hp.objs.size + 1) :: us).length = ps.length := r2.length.symm.trans (F1.len _ _ _ _ hq)
  have hus : us.length ≤ sizeLine := by
    rw [← Paired.length r1, sizeLine_eq]
    omega
  have hbb := hb ⟨(hp.push (PySem.W.kdv_tup us)).push (PySem.HandSPX.excO C hp.objs.size), g1, dr, tk, os⟩ (Value.ref (hp.objs.size + 1) :: us) I2.kIn (by simpa using hl)
  rw [List.append_nil] at hbb
  refine wpAny_call (PySem.HandSPX.call_own F.excBase_ValueError (fun Y => PySem.HandSPX.refsVE_contains Y bm hbm) (I1.kIn _ _ hC) (PySem.W.looks_findIn I1.kIn iC) (fun self => PySem.W.bind_fn I1.kIn self tI) hus
    (codeAny_mono (F1.go (Gd.make g C us []) (hr.make C us []) (I2.env0.make C us []) hbb r2 hq) fun r s' hq' => ?_))
  match r, hq' with
  | .ok (.ret u), hq' =>
    obtain ⟨v, H2, I3, rv, ev, q2⟩ := I2.after hq'
    subst ev
    exact ⟨rv, .ref (hp.objs.size + 1), H2, I3, rfl, q2⟩
/-- C(), C without an own __init__ -/
def tMk0 (C : Addr) : TE := fun σ H Q => ∀ a, H a = none → Q (.ref a) (upd H a (exo a C none))
theorem pe_ex0 {X : Cx} {C : Addr} {bmB : List Value} {B newId initId : String} {x : Str} {p pos : Pos} (F : ExcBaseFacts B newId initId bmB) (q : PySem.W.excIn X.K C bmB newId = true) (gC : X.mg x = some (.ref C)) (kC : PySem.W.keepIn X.K (.ref C) = true) (hg : Gl X x)
    (hdb : (x == ("__debug__" : Str)) = false := by decide) :
    PE X (.Call (.Name x p) [] [] pos) (tMk0 C) := by
  refine ⟨fun pins s σ H Q I h => ?_⟩
  refine wpAny_Call_Name_kw (ld_glob I hg gC (PySem.W.callWith_K0 I.kIn kC ?_) hdb)
  obtain ⟨bm, N, nm, qn, bs, hdct, sn, sub, ab, col, dd, k0, k1, k2, k3, k5, mN, hC, hN, hni, T⟩ := exc_obj I.kIn q
  refine wpAny_call_exc_subT F T hC hN hni (fun h' a hm => ?_) (by show 0 ≤ sizeLine; rw [sizeLine_eq]; omega)
  have hn : H a = none := I.hok.gone hm.new
  obtain ⟨t, ht, _, _⟩ := hm.there
  exact ⟨.ref a, upd H a (exo a C none), I.laidN hm.keeps hm.new hn (exo_ok ht), rfl, h a hn⟩
/-- e.f, e an own error whose dict is known -/
def tXv (K : PySem.W.Frag) (f : Str) (te : TE) : TE := fun σ H Q => te σ H fun x H1 => ∃ (a C dx : Addr) (fs : List (Str × V)) (v : V), x = .ref a ∧ XfC K C ∧ PySem.W.findIn K (.ref C) f = some none ∧ H1 a = some (exo a C (some dx)) ∧ H1 dx = some (exd dx fs) ∧ fs.lookup f = some v ∧ Q v H1
theorem pe_xv {X : Cx} {e : Expr} {te : TE} {pos : Pos} {n : Str} (he : PE X e te) (hb : attributeBase e n X.env (eval e X.env) = eval e X.env := by rfl) :
    PE X (.Attribute e n pos) (tXv X.K n te) := by
  refine ⟨fun pins s σ H Q I h => ?_⟩
  refine attr_of hb (thn (he.run pins s σ H _ I h) fun u s1 hh => ?_)
  obtain ⟨x, H1, I1, rx, a, C, dx, fs, v, rfl, T, hno, ea, ed, l, q⟩ := hh
  obtain rfl : u = Value.ref a := rx
  obtain ⟨t1, ho⟩ := exo_at I1.hok ea
  obtain ⟨mA, hns, hr⟩ := exd_at I1.hok ed
  obtain ⟨od, hod, hl⟩ := lookIn_ns hns
  obtain ⟨u, hu, ru⟩ := RelO.some_of (v := v) (o := mA n) (by rw [← l]; exact hr n)
  have J : PySem.W.InstAt s1.heap a { cls := .ref C, dict := some dx, data := .fields #[.ref t1, .none, .none, .none, .bool false, .none] } C (some od) := ⟨ho, rfl, rfl, hod⟩
  exact HandSPX.exc_get I1.kIn J T.ga T.gg T.exC (PySem.W.findObj_own T.hdC hno rfl (by rw [hl, hu])) (handed_of ru) ⟨v, H1, I1.tok _, ru, q⟩
/-- isinstance(e, c), e an own error -/
def rIsX (K : PySem.W.Frag) : List V → Hp → VK → Prop := fun xs H Q => ∃ (a D : Addr) (dx : Option Addr) (c : V) (cv : Value) (b : Bool), xs = [.ref a, c] ∧ ExcC K D ∧ H a = some (exo a D dx) ∧ (∀ d, dx = some d → ∃ fs, H d = some (exd d fs)) ∧ (∀ u, RelV c u → u = cv) ∧ PySem.W.kitOne K (.ref D) cv = some b ∧ Q (.bl b) H
theorem call_isX {X : Cx} : CallR X (.builtin "isinstance") (rIsX X.K) := by
  intro pins s σ H xs us Q I r h
  obtain ⟨a, D, dx, c, cv, b, rfl, C, ea, hd, hcv, e, q⟩ := h
  cases r with
  | cons rx rr =>
    cases rr with
    | cons rt rr =>
      cases rr
      cases rx
      have ec := hcv _ rt
      subst ec
      obtain ⟨t1, ho⟩ := exo_at I.hok ea
      have hcl : (PySem.W.clsIn X.K D).isSome = true := by
        obtain ⟨cd, hc, _⟩ := PySem.W.any_some C.hd
        rw [hc]
        rfl
      have J : ∃ od, PySem.W.InstAt s.heap a { cls := .ref D, dict := dx, data := .fields #[.ref t1, .none, .none, .none, .bool false, .none] } D od := by
        cases dx with
        | none => exact ⟨none, ho, rfl, rfl, trivial⟩
        | some d =>
          obtain ⟨fs, ed⟩ := hd d rfl
          obtain ⟨mA, hns, _⟩ := exd_at I.hok ed
          obtain ⟨o, es, ep, e1, _⟩ := hns
          exact ⟨some o, ho, rfl, rfl, e1⟩
      obtain ⟨od, J⟩ := J
      exact PySem.W.kia_one (PySem.W.kitx_exc hcl C.hg C.hk C.hs C.ha C.hn C.ht C.hm) I.kIn J e (fun z => nomatch z) fun tk => ⟨.bl b, H, I.kept (t' := tk) fun _ _ z => z, rfl, q⟩
/-- __init__(self, y): self.f = y -/
def spInit1 (K : PySem.W.Frag) (C : Addr) (f : Str) : Sp := fun vs H Q _ => ∃ (a : Addr) (y : V), vs = [.ref a, y] ∧ H a = some (exo a C none) ∧ ∀ d, H d = none → d ≠ a → Q .non (upd (upd H d (exd d [(f, y)])) a (exo a C (some d)))
def spInit2 (K : PySem.W.Frag) (C : Addr) (f g : Str) : Sp := fun vs H Q _ => ∃ (a : Addr) (y z : V), vs = [.ref a, y, z] ∧ H a = some (exo a C none) ∧ ∀ d H', H d = none → d ≠ a → H' a = some (exo a C (some d)) → H' d = some (exd d [(g, z), (f, y)]) → (∀ b, b ≠ a → b ≠ d → H' b = H b) → Q .non H'
/-- a tuple's display, not to be looked into -/
@[irreducible] def tTupI (t : TA) : TE := tTup t
theorem pe_tupI {X : Cx} {es : List Expr} {k : Nat} {t : TA} {pos : Pos} (h : PA X es t) : PE X (.Tuple es k pos) (tTupI t) := by
  unfold tTupI
  exact pe_tup h
theorem pg_tupK {X : Cx} {K : PySem.W.Frag} {es : List Expr} {k : Nat} {t : TGs} {n : Nat} {pos : Pos} (hK : X.K = K) (hc : X.calm = true) (h : PGs X es t)
    (hn : (assignEach es X.env).length = n := by rfl) (hst : (assignEach es X.env).findIdx? (·.1) = none := by rfl) : PG X (.Tuple es k pos) (gTup K n t) := by
  subst hK
  exact pg_tup hc h hn hst
/-- the module's name x is an error class whose __init__ keeps sp -/
structure ExV (P : Program) (w : World) (K : PySem.W.Frag) (mg : Str → Option Value) (base : Heap) (x : Str) (C : Addr) (sp : Sp) : Prop where
  hm : mg x = some (.ref C)
  oex : OexC K C
  fn : ∃ (fI : Addr) (fd : FuncData) (ps : List Str), PySem.W.findIn K (.ref C) "__init__" = some (some (.ref fI)) ∧ PySem.W.typeIn K (.ref fI) = some (.type "function") ∧ FnG P w K mg base 1 fI fd ps sp ∧ Binds K fd ps []
theorem pex {X : Cx} {x : Str} {C : Addr} {j : Nat} {sp : Sp} {e : Expr} {es : List Expr} {ta : TA} {p pos : Pos} (c : ExV X.prog X.w X.K X.mg X.base x C sp) (g : Gd X.A) (hr : Room j X.A) (hk : 2 ≤ j) (hg : Gl X x) (ha : PA X (e :: es) ta)
    (hdb : (x == ("__debug__" : Str)) = false := by decide) (he : starEach (e :: es) X.env = (false, eval e X.env) :: starEach es X.env := by rfl) (hpl : (backTo pos (starEach es X.env)).any (·.1) = false := by rfl) :
    PE X (.Call (.Name x p) (e :: es) [] pos) (tMkV C sp ta) := by
  obtain ⟨fI, fd, ps, iC, tI, F, b⟩ := c.fn
  exact pe_exV c.oex iC tI F g (hr.mono hk) b hg c.hm ha hdb he hpl
/-- .. without an own __init__ -/
structure Ex0 (K : PySem.W.Frag) (mg : Str → Option Value) (x : Str) (C : Addr) : Prop where
  hm : mg x = some (.ref C)
  kC : PySem.W.keepIn K (.ref C) = true
  q : PySem.W.excIn K C [.type "ValueError", .type "Exception", .type "BaseException", .type "object"] "ValueError.__new__" = true
theorem px0 {X : Cx} {x : Str} {C : Addr} {p pos : Pos} (c : Ex0 X.K X.mg x C) (hg : Gl X x) (hdb : (x == ("__debug__" : Str)) = false := by decide) :
    PE X (.Call (.Name x p) [] [] pos) (tMk0 C) := pe_ex0 F.excBase_ValueError c.q c.hm c.kC hg hdb
end Sw
/-! Fractions in lowest terms, by integers. -/
namespace Sw
open PySem PySem.Spec PyProof.Rows L2

/-- nothing but 1 divides both -/
def Cp (a b : Int) : Prop := Nat.Coprime a.natAbs b.natAbs
theorem Cp.of {a b : Int} (h : ∀ k : Nat, (k : Int) ∣ a → (k : Int) ∣ b → k = 1) : Cp a b := by
  refine h _ ?_ ?_
  · exact Int.ofNat_dvd_left.mpr (Nat.gcd_dvd_left _ _)
  · exact Int.ofNat_dvd_left.mpr (Nat.gcd_dvd_right _ _)
theorem Cp.one {a b : Int} (c : Cp a b) {k : Nat} (h1 : (k : Int) ∣ a) (h2 : (k : Int) ∣ b) : k = 1 := by
  have h := Nat.dvd_gcd (Int.ofNat_dvd_left.mp h1) (Int.ofNat_dvd_left.mp h2)
  rw [show Nat.gcd a.natAbs b.natAbs = 1 from c] at h
  exact Nat.dvd_one.mp h
theorem Cp.symm {a b : Int} (h : Cp a b) : Cp b a := Nat.Coprime.symm h
theorem Cp.left {a b c : Int} (h : Cp a b) (d : c ∣ a) : Cp c b := .of fun _ h1 h2 => h.one (Int.dvd_trans h1 d) h2
theorem Cp.right {a b c : Int} (h : Cp a b) (d : c ∣ b) : Cp a c := (h.symm.left d).symm
theorem Cp.mul {a b c : Int} (h1 : Cp a b) (h2 : Cp a c) : Cp a (b * c) := by
  unfold Cp
  rw [Int.natAbs_mul]
  exact Nat.Coprime.mul_right h1 h2
theorem Cp.mulL {a b c : Int} (h1 : Cp a c) (h2 : Cp b c) : Cp (a * b) c := (h1.symm.mul h2.symm).symm
theorem Cp.add {a b k : Int} (h : Cp a b) : Cp (a + k * b) b := .of fun j h1 h2 => by
  have h3 : (j : Int) ∣ k * b := Int.dvd_trans h2 (Int.dvd_mul_left k b)
  have h4 : (j : Int) ∣ (a + k * b) - k * b := Int.dvd_sub h1 h3
  rw [Int.add_sub_cancel] at h4
  exact h.one h4 h2
theorem Cp.neg {a b : Int} (h : Cp a b) : Cp (-a) b := by
  unfold Cp
  rw [Int.natAbs_neg]
  exact h
theorem Cp.dvd {a b c : Int} (h : Cp a b) (d : a ∣ b * c) : a ∣ c := by
  rw [← Int.natAbs_dvd_natAbs] at d ⊢
  rw [Int.natAbs_mul] at d
  exact Nat.Coprime.dvd_of_dvd_mul_left h d
theorem gI_cp {a b : Int} : gI a b = 1 ↔ Cp a b := by
  unfold gI Cp Nat.Coprime
  omega
theorem gI_dvd (a b : Int) : gI a b ∣ a ∧ gI a b ∣ b := ⟨Int.ofNat_dvd_left.mpr (Nat.gcd_dvd_left _ _), Int.ofNat_dvd_left.mpr (Nat.gcd_dvd_right _ _)⟩
theorem gI_pos {a b : Int} (h : b ≠ 0) : 0 < gI a b := by
  have : 0 < Nat.gcd a.natAbs b.natAbs := Nat.gcd_pos_of_pos_right _ (by omega)
  unfold gI
  omega
/-- by the common divisor, nothing common is left -/
theorem cp_div {a b : Int} (h : b ≠ 0) : Cp (a / gI a b) (b / gI a b) := by
  have g := gI_pos (a := a) h
  obtain ⟨⟨x, hx⟩, y, hy⟩ := gI_dvd a b
  have ex : a / gI a b = x := Int.ediv_eq_of_eq_mul_right (by omega) hx
  have ey : b / gI a b = y := Int.ediv_eq_of_eq_mul_right (by omega) hy
  rw [ex, ey]
  have e1 : x.natAbs = a.natAbs / Nat.gcd a.natAbs b.natAbs := by
    have := congrArg Int.natAbs hx
    rw [Int.natAbs_mul] at this
    unfold gI at this g
    rw [Int.natAbs_natCast] at this
    exact (Nat.div_eq_of_eq_mul_right (by omega) this).symm
  have e2 : y.natAbs = b.natAbs / Nat.gcd a.natAbs b.natAbs := by
    have := congrArg Int.natAbs hy
    rw [Int.natAbs_mul] at this
    unfold gI at this g
    rw [Int.natAbs_natCast] at this
    exact (Nat.div_eq_of_eq_mul_right (by omega) this).symm
  unfold Cp
  rw [e1, e2]
  exact Nat.coprime_div_gcd_div_gcd (Nat.gcd_pos_of_pos_right _ (by omega))
/-- a FRACTION -/
structure Fr (n d : Int) : Prop where
  pos : 0 < d
  cp : Cp n d
theorem fr_eq {n d p q : Int} (h1 : Fr n d) (h2 : Fr p q) (e : n * q = p * d) : n = p ∧ d = q := by
  have a : d ∣ q := h1.cp.symm.dvd (by rw [e]; exact Int.dvd_mul_left p d)
  have b : q ∣ d := h2.cp.symm.dvd (by rw [← e]; exact Int.dvd_mul_left n q)
  have c : d = q := Int.dvd_antisymm (Int.le_of_lt h1.pos) (Int.le_of_lt h2.pos) a b
  subst c
  exact ⟨Int.eq_of_mul_eq_mul_right (by have := h1.pos; omega) e, rfl⟩
theorem redI_fr {x y : Int} (h : y ≠ 0) : Fr (redI x y).1 (redI x y).2 ∧ (redI x y).1 * y = x * (redI x y).2 := by
  have g := gI_pos (a := x) h
  obtain ⟨⟨a, ha⟩, b, hb⟩ := gI_dvd x y
  have ex : x / gI x y = a := Int.ediv_eq_of_eq_mul_right (by omega) ha
  have ey : y / gI x y = b := Int.ediv_eq_of_eq_mul_right (by omega) hb
  have c := cp_div (a := x) h
  rw [ex, ey] at c
  have cross : a * y = x * b := by
    generalize gI x y = k at ha hb
    subst ha hb
    simp only [Int.mul_left_comm, Int.mul_comm]
  unfold redI
  rw [sh_eq h]
  by_cases hy : y < 0
  · rw [if_pos hy, Int.neg_ediv_of_dvd (gI_dvd x y).1, Int.neg_ediv_of_dvd (gI_dvd x y).2, ex, ey]
    refine ⟨⟨?_, ?_⟩, ?_⟩
    · show 0 < -b
      have : b < 0 := by
        rcases Int.lt_or_le b 0 with z | z
        · exact z
        · have := Int.mul_nonneg (Int.le_of_lt g) z
          omega
      omega
    · show Cp (-a) (-b)
      exact (c.neg.symm.neg).symm
    · show -a * y = x * -b
      rw [Int.neg_mul, Int.mul_neg, cross]
  · rw [if_neg hy, ex, ey]
    refine ⟨⟨?_, c⟩, cross⟩
    show 0 < b
    rcases Int.lt_or_le 0 b with z | z
    · exact z
    · have := Int.mul_nonneg (Int.le_of_lt g) (show 0 ≤ -b by omega)
      rw [Int.mul_neg] at this
      omega
theorem redI_eq {x y p q : Int} (h : y ≠ 0) (f : Fr p q) (e : x * q = p * y) : redI x y = (p, q) := by
  obtain ⟨h1, h2⟩ := redI_fr (x := x) h
  have key : (redI x y).1 * q = p * (redI x y).2 := by
    have e3 : ((redI x y).1 * q) * y = (p * (redI x y).2) * y := by
      calc ((redI x y).1 * q) * y = ((redI x y).1 * y) * q := by rw [Int.mul_assoc, Int.mul_comm q y, ← Int.mul_assoc]
        _ = (x * (redI x y).2) * q := by rw [h2]
        _ = (x * q) * (redI x y).2 := by rw [Int.mul_assoc, Int.mul_comm (redI x y).2 q, ← Int.mul_assoc]
        _ = (p * y) * (redI x y).2 := by rw [e]
        _ = (p * (redI x y).2) * y := by rw [Int.mul_assoc, Int.mul_comm y, ← Int.mul_assoc]
    exact Int.eq_of_mul_eq_mul_right h e3
  obtain ⟨a, b⟩ := fr_eq h1 f key
  exact Prod.ext a b
/-- the program's own sum is in lowest terms -/
theorem add_red {n d m e : Int} (h1 : Fr n d) (h2 : Fr m e) : redI (n * e + m * d) (d * e) =
    ((n * (e / gI d e) + m * (d / gI d e)) / gI (n * (e / gI d e) + m * (d / gI d e)) (gI d e), d / gI d e * (e / gI (n * (e / gI d e) + m * (d / gI d e)) (gI d e))) := by
  have he : e ≠ 0 := by have := h2.pos; omega
  have hd : d ≠ 0 := by have := h1.pos; omega
  have gp := gI_pos (a := d) he
  have hdvd := gI_dvd d e
  have hc := cp_div (a := d) he
  obtain ⟨d1, ed⟩ := hdvd.1
  obtain ⟨e1, ee⟩ := hdvd.2
  have qd : d / gI d e = d1 := Int.ediv_eq_of_eq_mul_right (by omega) ed
  have qe : e / gI d e = e1 := Int.ediv_eq_of_eq_mul_right (by omega) ee
  rw [qd, qe] at hc ⊢
  generalize hg : gI d e = c at *
  have hc0 : c ≠ 0 := by omega
  -- part and what it shares with c
  have lp := gI_pos (a := n * e1 + m * d1) hc0
  have ldv := gI_dvd (n * e1 + m * d1) c
  have lcp := cp_div (a := n * e1 + m * d1) hc0
  obtain ⟨p, ep⟩ := ldv.1
  obtain ⟨r, er⟩ := ldv.2
  have qp : (n * e1 + m * d1) / gI (n * e1 + m * d1) c = p := Int.ediv_eq_of_eq_mul_right (by omega) ep
  have qr : c / gI (n * e1 + m * d1) c = r := Int.ediv_eq_of_eq_mul_right (by omega) er
  rw [qp, qr] at lcp
  rw [qp]
  generalize hl : gI (n * e1 + m * d1) c = l at *
  have ee2 : e = l * (r * e1) := by rw [ee, er, Int.mul_assoc]
  have qe2 : e / l = r * e1 := Int.ediv_eq_of_eq_mul_right (by omega) ee2
  rw [qe2]
  have d1p : 0 < d1 := by
    have := h1.pos
    rcases Int.lt_or_le 0 d1 with z | z
    · exact z
    · have := Int.mul_nonneg (Int.le_of_lt gp) (show 0 ≤ -d1 by omega)
      rw [Int.mul_neg] at this
      omega
  have rp : 0 < r * e1 := by
    have := h2.pos
    rcases Int.lt_or_le 0 (r * e1) with z | z
    · exact z
    · have := Int.mul_nonneg (Int.le_of_lt lp) (show 0 ≤ -(r * e1) by omega)
      rw [Int.mul_neg] at this
      omega
  have pd : p ∣ n * e1 + m * d1 := by rw [ep]; exact Int.dvd_mul_left l p
  have c1 : Cp p d1 := ((Cp.add (k := m) ((h1.cp.right (by rw [ed]; exact Int.dvd_mul_left c d1)).mulL hc.symm)).left pd)
  have c2 : Cp p e1 := by
    refine Cp.left (a := m * d1 + n * e1) (Cp.add (k := n) ((h2.cp.right (by rw [ee]; exact Int.dvd_mul_left c e1)).mulL hc)) ?_
    rw [Int.add_comm]
    exact pd
  refine redI_eq (Int.mul_ne_zero hd he) ⟨Int.mul_pos d1p rp, c1.mul (lcp.mul c2)⟩ ?_
  have e4 : n * e + m * d = c * (l * p) := by
    rw [← ep]
    conv =>
      lhs
      rw [ee, ed]
    rw [Int.mul_add, Int.mul_left_comm, Int.mul_left_comm c m]
  rw [e4]
  conv =>
    rhs
    rw [ed, ee2]
  simp only [Int.mul_assoc, Int.mul_comm, Int.mul_left_comm]
/-- .. its product -/
theorem mul_red {n d m e : Int} (h1 : Fr n d) (h2 : Fr m e) : redI (n * m) (d * e) = (n / gI n e * (m / gI m d), d / gI m d * (e / gI n e)) := by
  have he : e ≠ 0 := by have := h2.pos; omega
  have hd : d ≠ 0 := by have := h1.pos; omega
  have g1 := gI_pos (a := n) he
  have g2 := gI_pos (a := m) hd
  have k1 := cp_div (a := n) he
  have k2 := cp_div (a := m) hd
  have v1 := gI_dvd n e
  have v2 := gI_dvd m d
  generalize gI n e = l at *
  generalize gI m d = r at *
  obtain ⟨n1, en⟩ := v1.1
  obtain ⟨e1, ee⟩ := v1.2
  obtain ⟨m1, em⟩ := v2.1
  obtain ⟨d1, ed⟩ := v2.2
  rw [Int.ediv_eq_of_eq_mul_right (by omega) en, Int.ediv_eq_of_eq_mul_right (by omega) ee] at *
  rw [Int.ediv_eq_of_eq_mul_right (by omega) em, Int.ediv_eq_of_eq_mul_right (by omega) ed] at *
  have d1p : 0 < d1 := by
    have := h1.pos
    rcases Int.lt_or_le 0 d1 with z | z
    · exact z
    · have := Int.mul_nonneg (Int.le_of_lt g2) (show 0 ≤ -d1 by omega)
      rw [Int.mul_neg] at this
      omega
  have e1p : 0 < e1 := by
    have := h2.pos
    rcases Int.lt_or_le 0 e1 with z | z
    · exact z
    · have := Int.mul_nonneg (Int.le_of_lt g1) (show 0 ≤ -e1 by omega)
      rw [Int.mul_neg] at this
      omega
  have n1n : n1 ∣ n := by rw [en]; exact Int.dvd_mul_left l n1
  have m1m : m1 ∣ m := by rw [em]; exact Int.dvd_mul_left r m1
  have d1d : d1 ∣ d := by rw [ed]; exact Int.dvd_mul_left r d1
  have e1e : e1 ∣ e := by rw [ee]; exact Int.dvd_mul_left l e1
  refine redI_eq (Int.mul_ne_zero hd he) ⟨Int.mul_pos d1p e1p, Cp.mulL (((h1.cp.left n1n).right d1d).mul k1) (k2.mul ((h2.cp.left m1m).right e1e))⟩ ?_
  conv =>
    lhs
    rw [en, em]
  conv =>
    rhs
    rw [ed, ee]
  simp only [Int.mul_assoc, Int.mul_comm, Int.mul_left_comm]
/-- // by what is not 0 -/
def CDivA (_ j : Int) : Prop := j ≠ 0 ∧ j.natAbs.log2 < 9000
theorem op_fdivA {X : Cx} : OpR X (binaryOp .FloorDiv) (rI CDivA fun i j => .int (i.fdiv j)) := opI fun _ _ _ _ _ _ _ hc q => floordiv_int hc.1 q (.inl (PyProof.noPylong_of_log2 hc.2))
theorem log_lt {j : Int} (h : j.natAbs < 2 ^ 8000) : j.natAbs.log2 < 9000 := Nat.lt_of_lt_of_le (PySem.Flt.log2_lt_of (by decide) h) (by decide)
theorem mulW {i j : Int} (h1 : i.natAbs < 2 ^ 8000) (h2 : j.natAbs < 2 ^ 8000) : CMulW i j := wide_mul h1 h2 (by decide) (by decide) (by decide)
theorem divW {i j : Int} (h0 : 0 < j) (h1 : j.natAbs < 2 ^ 8000) : CDivW i j := wide_div h0 h1 (by decide) (by decide)
theorem gI_le {a b : Int} (h : b ≠ 0) : (gI a b).natAbs ≤ b.natAbs := by
  unfold gI
  rw [Int.natAbs_natCast]
  exact Nat.le_of_dvd (by omega) (Nat.gcd_dvd_right _ _)
theorem div_le {a c : Int} : (a / c).natAbs ≤ a.natAbs := Int.natAbs_ediv_le_natAbs a c
theorem natAbs_lt_mul {i j : Int} {a b : Nat} (h1 : i.natAbs < 2 ^ a) (h2 : j.natAbs < 2 ^ b) : (i * j).natAbs < 2 ^ (a + b) := wide_lt h1 h2
theorem natAbs_lt_add {i j : Int} {a : Nat} (h1 : i.natAbs < 2 ^ a) (h2 : j.natAbs < 2 ^ a) : (i + j).natAbs < 2 ^ (a + 1) := by
  rw [Nat.pow_succ]
  omega
theorem red_fdiv {n d : Int} (h : d ≠ 0) : (n.fdiv (if d < 0 then -gI n d else gI n d), d.fdiv (if d < 0 then -gI n d else gI n d)) = redI n d := by
  have g := gI_pos (a := n) h
  obtain ⟨g1, g2⟩ := gI_dvd n d
  unfold redI
  rw [sh_eq h]
  by_cases hd : d < 0
  · rw [if_pos hd, if_pos hd, Int.fdiv_eq_ediv_of_dvd (Int.neg_dvd.mpr g1), Int.fdiv_eq_ediv_of_dvd (Int.neg_dvd.mpr g2), Int.ediv_neg, Int.ediv_neg, Int.neg_ediv_of_dvd g1, Int.neg_ediv_of_dvd g2]
  · rw [if_neg hd, if_neg hd, Int.fdiv_eq_ediv_of_dvd g1, Int.fdiv_eq_ediv_of_dvd g2]
/-- a couple of integers stands at v -/
def Cpl (K : PySem.W.Frag) (H : Hp) (v : V) (n d : Int) : Prop := ∃ a, v = .ref a ∧ SqT K H a [.int n, .int d]
theorem Cpl.same {K : PySem.W.Frag} {H H' : Hp} {v : V} {n d : Int} (h : Cpl K H v n d) (s : Same H H') : Cpl K H' v n d := by
  obtain ⟨a, rfl, r⟩ := h
  exact ⟨a, rfl, s.seqT r⟩
theorem Cpl.mk {K : PySem.W.Frag} {H : Hp} {p : Addr} {n d : Int} (h : H p = some (.tup [.int n, .int d])) : Cpl K H (.ref p) n d := ⟨p, rfl, .inl (.inl h)⟩
/-- a new couple -/
def Res (Q : VK) (H : Hp) (r : Int × Int) : Prop := ∀ p H', Same H H' → H p = none → H' p = some (.tup [.int r.1, .int r.2]) → Q (.ref p) H'
theorem Res.now {Q : VK} {H H' : Hp} {r : Int × Int} {x y : Int} (h : Res Q H r) (s : Same H H') (e : r = (x, y)) : ∀ p, H' p = none → Q (.ref p) (upd H' p (.tup [.int x, .int y])) := fun p np => by
  subst e
  refine h p _ (s.trans (same_upd np)) ?_ upd_same
  cases z : H p with
  | none => rfl
  | some o =>
    rw [s _ _ z] at np
    cases np
theorem redI_neg {x y : Int} (h : y ≠ 0) : redI (-x) (-y) = redI x y := by
  obtain ⟨f, e⟩ := redI_fr (x := x) h
  have z := redI_eq (x := -x) (y := -y) (p := (redI x y).1) (q := (redI x y).2) (by omega) f (by rw [Int.neg_mul, Int.mul_neg, e])
  rw [z]
theorem Fr.flip {n d : Int} (h : Fr n d) (p : 0 < n) : Fr d n := ⟨p, h.cp.symm⟩
theorem Fr.flipN {n d : Int} (h : Fr n d) (p : n < 0) : Fr (-d) (-n) := ⟨by omega, h.cp.neg.symm.neg⟩
theorem Fr.neg {n d : Int} (h : Fr n d) : Fr (-n) d := ⟨h.pos, h.cp.neg⟩
theorem redI_le {x y : Int} (h : y ≠ 0) : (redI x y).1.natAbs ≤ x.natAbs ∧ (redI x y).2.natAbs ≤ y.natAbs := by
  unfold redI
  split
  · refine ⟨?_, ?_⟩
    · have := div_le (a := -x) (c := sh x y)
      rw [Int.natAbs_neg] at this
      exact this
    · have := div_le (a := -y) (c := sh x y)
      rw [Int.natAbs_neg] at this
      exact this
  · exact ⟨div_le, div_le⟩
theorem Cpl.fut {K : PySem.W.Frag} {mu : Addr → Prop} {H H' : Hp} {v : V} {n d : Int} (h : Cpl K H v n d) (f : Fut mu H H') : Cpl K H' v n d := by
  obtain ⟨a, rfl, (r | ⟨o, r⟩) | r⟩ := h
  · exact ⟨a, rfl, .inl (.inl (f _ _ r (.inr (.inl ⟨_, rfl⟩))))⟩
  · exact ⟨a, rfl, .inl (.inr ⟨o, f _ _ r (.inr (.inr ⟨_, _, rfl⟩))⟩)⟩
  · exact ⟨a, rfl, .inr r⟩
theorem Cpl.dt {K : PySem.W.Frag} {mu : Addr → Prop} {H : Hp} {v : V} {n d : Int} (h : Cpl K H v n d) : Dt K mu H v (.tuple [.int n, .int d]) := by
  obtain ⟨a, rfl, (r | ⟨o, r⟩) | r⟩ := h
  · exact .tup (.inl r) (.cons (.int _) (.cons (.int _) .nil))
  · exact .tup (.inr ⟨o, r⟩) (.cons (.int _) (.cons (.int _) .nil))
  · exact .tupK r (.cons (.int _) (.cons (.int _) .nil))
theorem Dt.cpl {K : PySem.W.Frag} {mu : Addr → Prop} {H : Hp} {v : V} {n d : Int} (h : Dt K mu H v (.tuple [.int n, .int d])) : Cpl K H v n d := by
  obtain ⟨a, xs, rfl, r, ha⟩ := h.tupAt
  obtain ⟨x, y, p, q, rfl, e, h1, h2⟩ := ha.two rfl
  cases e
  cases h1
  cases h2
  exact ⟨a, rfl, r⟩
/-- a row of couples -/
def RowF (K : PySem.W.Frag) (H : Hp) : List V → List (Int × Int) → Prop
  | [], [] => True
  | v :: vs, f :: fs => Cpl K H v f.1 f.2 ∧ RowF K H vs fs
  | _, _ => False
theorem RowF.fut {K : PySem.W.Frag} {mu : Addr → Prop} {H H' : Hp} (f : Fut mu H H') : ∀ {vs : List V} {fs : List (Int × Int)}, RowF K H vs fs → RowF K H' vs fs
  | [], [], _ => True.intro
  | v :: vs, g :: fs, h => ⟨h.1.fut f, RowF.fut f h.2⟩
  | [], _ :: _, h => h.elim
  | _ :: _, [], h => h.elim
theorem RowF.same {K : PySem.W.Frag} {H H' : Hp} {vs : List V} {fs : List (Int × Int)} (h : RowF K H vs fs) (s : Same H H') : RowF K H' vs fs := h.fut (mu := fun _ => False) (.of_same s)
theorem RowF.len {K : PySem.W.Frag} {H : Hp} : ∀ {vs : List V} {fs : List (Int × Int)}, RowF K H vs fs → vs.length = fs.length
  | [], [], _ => rfl
  | v :: vs, g :: fs, h => by rw [List.length_cons, List.length_cons, RowF.len h.2]
  | [], _ :: _, h => h.elim
  | _ :: _, [], h => h.elim
theorem RowF.get {K : PySem.W.Frag} {H : Hp} : ∀ {vs : List V} {fs : List (Int × Int)} {i : Nat} {v : V}, RowF K H vs fs → vs[i]? = some v → ∃ f, fs[i]? = some f ∧ Cpl K H v f.1 f.2
  | [], [], _, _, _, e => by simp at e
  | x :: vs, g :: fs, 0, _, h, e => by
    simp at e
    subst e
    exact ⟨g, rfl, h.1⟩
  | x :: vs, g :: fs, i + 1, v, h, e => by
    obtain ⟨f, h1, h2⟩ := RowF.get (i := i) h.2 (by simpa using e)
    exact ⟨f, by simpa using h1, h2⟩
  | [], _ :: _, _, _, h, _ => h.elim
  | _ :: _, [], _, _, h, _ => h.elim
theorem RowF.getD {K : PySem.W.Frag} {H : Hp} {vs : List V} {fs : List (Int × Int)} {i : Nat} {f : Int × Int} (h : RowF K H vs fs) (e : fs[i]? = some f) : ∃ v, vs[i]? = some v ∧ Cpl K H v f.1 f.2 := by
  have hi : i < vs.length := by rw [h.len]; exact (List.getElem?_eq_some_iff.mp e).1
  obtain ⟨g, h1, h2⟩ := h.get (List.getElem?_eq_getElem hi)
  rw [e] at h1
  cases h1
  exact ⟨_, List.getElem?_eq_getElem hi, h2⟩
theorem RowF.ins {K : PySem.W.Frag} {H : Hp} {v : V} {g : Int × Int} (hv : Cpl K H v g.1 g.2) : ∀ {vs : List V} {fs : List (Int × Int)} (i : Nat), RowF K H vs fs → RowF K H (vs.take i ++ v :: vs.drop i) (fs.take i ++ g :: fs.drop i)
  | vs, fs, 0, h => ⟨hv, h⟩
  | [], [], i + 1, _ => ⟨hv, True.intro⟩
  | x :: vs, f :: fs, i + 1, h => ⟨h.1, RowF.ins hv i h.2⟩
  | [], _ :: _, _ + 1, h => h.elim
  | _ :: _, [], _ + 1, h => h.elim
theorem RowF.dt {K : PySem.W.Frag} {mu : Addr → Prop} {H : Hp} : ∀ {vs : List V} {fs : List (Int × Int)}, RowF K H vs fs → DtA K mu H vs (fs.map fun f => .tuple [.int f.1, .int f.2])
  | [], [], _ => .nil
  | v :: vs, g :: fs, h => .cons h.1.dt (RowF.dt h.2)
  | [], _ :: _, h => h.elim
  | _ :: _, [], h => h.elim
theorem fut_at {H : Hp} {a : Addr} {xs : List V} {o' : HO} (ha : H a = some (.lst xs)) : Fut (fun b => b = a) H (upd H a o') := fun c o e z => by
  have nb : c ≠ a := fun q => by
    rcases z with z | ⟨ys, rfl⟩ | ⟨ob, u, rfl⟩
    · exact z q
    · rw [q, ha] at e
      cases e
    · rw [q, ha] at e
      cases e
  rw [upd_ne nb]
  exact e
theorem shaped_cpl (a b : Int) : SeqAt.shaped (.tuple [.int a, .int b]) = true := by
  simp [SeqAt.shaped, PyData.canLay0, PyData.canLayAll0, PyData.depth, PyData.depthAll]
theorem eqv_cpl (a b c d : Int) : PyData.eqv (.tuple [.int a, .int b]) (.tuple [.int c, .int d]) = decide ((a, b) = (c, d)) := by
  simp only [PyData.eqv, PyData.eqvAll, Bool.and_true, Prod.mk.injEq]
  by_cases h1 : a = c <;> by_cases h2 : b = d <;> simp [h1, h2]
/-- what was not there at first may change as it likes -/
theorem Rel.at {b p : Addr} {H H' : Hp} {o : HO} (R : Rel b H H') (hb : BagAt H b) (np : H p = none) : Rel b H (upd H' p o) := by
  obtain ⟨x0, y0, z0, l0, cs0, hb0, hl0, _⟩ := id hb
  have npb : p ≠ b := fun z => by
    rw [z, hb0] at np
    cases np
  refine ⟨fun a u n e => ?_, fun l hL => ?_, ?_⟩
  · rw [upd_ne (ne_of_none e np)]
    exact R.keep a u n e
  · obtain ⟨x, y, z, e⟩ := R.cell l hL
    exact ⟨x, y, z, by rw [upd_ne npb.symm]; exact e⟩
  · obtain ⟨x, y, z, l, cs, q1, q2, q3, q4⟩ := R.bag
    have el : l0 = l := (R.cell l0 ⟨_, _, _, hb0⟩).eq q1
    have e : l ≠ p := fun e => by
      rw [el, e, np] at hl0
      cases hl0
    exact ⟨x, y, z, l, cs, by rw [upd_ne npb.symm]; exact q1, by rw [upd_ne e]; exact q2, q3, q4⟩
theorem RowF.snoc {K : PySem.W.Frag} {H : Hp} {v : V} {g : Int × Int} (hv : Cpl K H v g.1 g.2) : ∀ {vs : List V} {fs : List (Int × Int)}, RowF K H vs fs → RowF K H (vs ++ [v]) (fs ++ [g])
  | [], [], _ => ⟨hv, True.intro⟩
  | x :: vs, f :: fs, h => ⟨h.1, RowF.snoc hv h.2⟩
  | [], _ :: _, h => h.elim
  | _ :: _, [], h => h.elim
end Sw
/-! sep.join(reversed(a list of texts)). -/
namespace Sw
open PySem PySem.Spec PyProof.Rows L2
section
variable {prog : Program} {w : World} {A : Around} {E : Value → Shared → Prop} {s : Shared}
theorem join_rev {x : Str} {t : Tok} {it l : Addr} {items : Array Value} {ys : List Str} {Q : Value → Shared → Prop} (hh : A.handled = none) (hit : s.heap.IsRevIter it l ((items.size : Int) - 1)) (hl : s.heap.IsList l items) (hne : l ≠ it) (hn : items.size ≤ sizeLine)
    (hP : ∀ acc : Array Value, ItemsOf (fun i v => items[items.size - 1 - i]? = some v) acc items.size → StrsAre acc.toList ys) (hok : (ys.map (·.length)).sum + ys.length * x.length ≤ 16777216)
    (hq : ∀ (h' : Heap), (∀ b o, b ≠ it → s.heap.get? b = some o → h'.get? b = some o) → ∀ (t' : Tok) (k : Nat), Q (.str (Txt.join x ys) t') { s with heap := h', toks := k }) :
    wpAny (model prog w) A (call (.builtin "str.join") [.str x t, .ref it]) Q E s := by
  refine wpAny_call (codeAny_call_builtin F.slot_str_join.plain F.entry_str_join (F.slot_str_join.check _ _ _ _ _ _ _ _ (typeIs_str _ _ _) (F.args_str_join_2 _ _) ?_))
  rw [join_tree_other]
  refine wpAny_bind (wpAny_typeOf hit.typeIs ?_)
  show wpAny _ A.in1 ((pyIter (.ref it)).tryCatch _ >>= fun i => collect i >>= fun zs => joinTail x zs) _ _ s
  refine wpAny_bind (wpAny_tryCatch (wpAny_pyIter_revIter hit ?_))
  have hh1 : A.in1.handled = none := hh
  refine wpAny_bind (RT.collect_rev hh1 hit hl hne hn fun h' tk acc hk hacc => ?_)
  obtain ⟨zs, hz, ht⟩ := strsAre_values (hP acc hacc)
  subst ht
  rw [hz]
  have ok2 := joinOk_of hok
  unfold JoinOk at ok2
  rw [Bool.not_eq_true'] at ok2
  have g : Gives (joinTail x (strValues zs)) (joinMade x zs) := by
    rcases zs with _ | ⟨p, _ | ⟨q, r⟩⟩
    all_goals exact gives_joinTail x _ ok2
  exact g prog w A (wants Q E) _ (post_join zs ⟨joinFit_length ok2, hq h' hk⟩)
end
/-- sep.join(reversed(e)) -/
def tJoinRev (K : PySem.W.Frag) (x : Str) (te : TE) : TE := fun σ H Q => te σ H fun v H1 => ∃ (a : Addr) (ys : List Str), v = .ref a ∧ SqL K H1 a (ys.map V.str) ∧ (ys.map (·.length)).sum + ys.length * x.length ≤ 16777216 ∧ Q (.str (Txt.join x ys.reverse)) H1
theorem pe_joinRev {X : Cx} {x : Str} {e : Expr} {te : TE} {u0 : Nat} {pc0 apos pos p2 pos2 : Pos} (hc : X.calm = true) (hg2 : Gl X "reversed") (hm2 : X.mg "reversed" = none) (he : PE X e te)
    (hs : starEach [e] X.env = (false, eval e X.env) :: starEach [] X.env := by rfl)
    (hs2 : starEach [.Call (.Name "reversed" p2) [e] [] pos2] X.env = [(false, eval (.Call (.Name "reversed" p2) [e] [] pos2) X.env)] := by rfl)
    (hbase : attributeBase (.Constant (.str x) u0 pc0) "join" X.env (eval (.Constant (.str x) u0 pc0) X.env) = eval (.Constant (.str x) u0 pc0) X.env := by rfl) (hline : (apos.endLine == pos.line) = true := by rfl) :
    PE X (.Call (.Attribute (.Constant (.str x) u0 pc0) "join" apos) [.Call (.Name "reversed" p2) [e] [] pos2] [] pos) (tJoinRev X.K x te) := by
  refine ⟨fun pins s σ H Q I h => ?_⟩
  refine PySem.Call_method1 hbase hs2 hline (thn (pe_str.run pins s σ H (fun v H1 => v = .str x ∧ H1 = H) I ⟨rfl, rfl⟩) fun v s1 ⟨x1, H1, I1, r1, q1⟩ => ?_)
  obtain ⟨rfl, rfl⟩ := q1
  obtain ⟨t, rfl⟩ := _root_.id r1
  refine ⟨"str", _, F.plainAttrs_str, F.slot_str_join, F.type_str_join, typeIs_str _ _ _, (fun _ e => nomatch e), Calls.callWith_builtin rfl (Calls.evalArgs_plain (Calls.spliced_cons ?_))⟩
  refine Call_ (ld_blt I1 hg2 hm2 PyProof.Rows.boot_reversed (PyProof.Rows.callWith_type1 (args_cons (thn (he.run pins s1 σ H1 _ I1 h) fun u s2 ⟨v, H2, I2, r2, q2⟩ => args_nil ?_) hs) hs rfl))
  obtain ⟨a, ys, rfl, hq, hz, q⟩ := q2
  obtain rfl : u = Value.ref a := r2
  obtain ⟨its, rv, p', hsz⟩ := I2.list hq
  refine call_reversed_list p'.isList ?_
  have k0 : ∀ b o, s2.heap.get? b = some o → (s2.heap.push (revObj a ((its.toArray.size : Int) - 1))).get? b = some o := fun b o e => Heap.get?_push_of_some _ e
  have I3 : Inv X pins σ H2 { s2 with heap := s2.heap.push (revObj a ((its.toArray.size : Int) - 1)) } := I2.kept (t' := s2.toks) k0
  obtain ⟨f0, f1, f2, f3, f4, f5⟩ := I2.fpOk (H' := H2) (b := s2.heap.objs.size) (Nat.le_refl _) (I2.hok.fresh (Nat.le_refl _))
  have hl := p'.isList
  obtain ⟨ol, hol, _⟩ := id hl
  have hne : a ≠ s2.heap.objs.size := Nat.ne_of_lt (Heap.lt_size hol)
  have hn : its.toArray.size ≤ sizeLine := by rw [List.size_toArray, ← rv.length]; exact hsz
  refine Calls.spliced_nil ?_
  refine join_rev (s := { s2 with heap := s2.heap.push (revObj a ((its.toArray.size : Int) - 1)) }) (ys := ys.reverse) (I2.ok.hd hc) ⟨_, Heap.get?_push_size _ rfl, rfl, rfl⟩ (hl.push _) hne hn (fun acc hacc => ?_) ?_ fun h' hk t' k => ?_
  · have z := RT.vals_rev rv hacc
    rw [← List.map_reverse] at z
    exact strs_of_vals z
  · rw [List.map_reverse, List.sum_reverse, List.length_reverse]
    exact hz
  · exact ⟨.str _, H2, I3.turned (t' := k) (fun b o hb e => hk b o hb e) f0 f1 f3 f4 f5, ⟨t', rfl⟩, q⟩
end Sw
/-! Texts of integers, read. -/
namespace Sw
open PySem PySem.Spec PyProof.Rows L2

/-- behind one sign - -/
def stripL : List Nat → List Nat
  | 45 :: r => r
  | l => l
def digL (l : List Nat) : Bool := decide (0 < l.length) && l.all fun c => decide (48 ≤ c) && decide (c ≤ 57)
theorem digL_iff {l : List Nat} : digL l = true ↔ l ≠ [] ∧ NumText.AllDigits l := by
  unfold digL NumText.AllDigits
  rw [Bool.and_eq_true, decide_eq_true_eq, List.all_eq_true]
  refine and_congr ⟨fun h e => (by rw [e] at h; exact absurd h (by decide)), fun h => List.length_pos_iff.mpr h⟩ ⟨fun h c hc => ?_, fun h c hc => ?_⟩
  · have := h c hc
    rw [Bool.and_eq_true, decide_eq_true_eq, decide_eq_true_eq] at this
    exact this
  · rw [Bool.and_eq_true, decide_eq_true_eq, decide_eq_true_eq]
    exact h c hc
theorem dig_tab : ∀ c, c < 128 → Unicode.isDigit c = (decide (48 ≤ c) && decide (c ≤ 57)) := by decide +kernel
theorem dig_eq (l : List Nat) : (Txt.isascii ⟨l.toArray⟩ && Txt.isdigit ⟨l.toArray⟩) = digL l := by
  unfold Txt.isascii Txt.isdigit digL
  show (l.toArray.all _ && (decide (l.toArray.size > 0) && l.toArray.all _)) = _
  rw [List.all_toArray, List.all_toArray, List.size_toArray]
  have key : ∀ l : List Nat, (l.all (fun c => decide (c < 128)) && l.all Unicode.isDigit) = l.all fun c => decide (48 ≤ c) && decide (c ≤ 57) := by
    intro l
    induction l with
    | nil => rfl
    | cons c l ih =>
      rw [List.all_cons, List.all_cons, List.all_cons, ← ih]
      by_cases hc : c < 128
      · rw [dig_tab c hc, decide_eq_true hc]
        cases decide (48 ≤ c) <;> cases decide (c ≤ 57) <;> simp
      · rw [decide_eq_false hc, decide_eq_false (show ¬ c ≤ 57 by omega)]
        simp
  rw [← key l]
  cases decide (l.length > 0) <;> simp
/-- the integer that a text shows, if it is its own text -/
def valL (l : List Nat) : Int := match l with
  | 45 :: r => -((NumText.digitsVal r : Nat) : Int)
  | l => ((NumText.digitsVal l : Nat) : Int)
theorem strip_min (r : List Nat) : stripL (45 :: r) = r ∧ valL (45 :: r) = -((NumText.digitsVal r : Nat) : Int) := ⟨rfl, rfl⟩
theorem strip_no {l : List Nat} (h : ∀ r, l ≠ 45 :: r) : stripL l = l ∧ valL l = ((NumText.digitsVal l : Nat) : Int) := by
  unfold stripL valL
  refine ⟨?_, ?_⟩
  · split
    · rename_i r
      exact absurd rfl (h r)
    · rfl
  · split
    · rename_i r
      exact absurd rfl (h r)
    · rfl
theorem min_or (l : List Nat) : (∃ r, l = 45 :: r) ∨ ∀ r, l ≠ 45 :: r := by
  by_cases h : ∃ r, l = 45 :: r
  · exact .inl h
  · exact .inr fun r e => h ⟨r, e⟩
theorem int_reads {l : List Nat} (h : digL (stripL l) = true) (hl : (stripL l).length ≤ 40) : intText? ⟨l.toArray⟩ = some (valL l) ∧ l.length ≤ 41 := by
  rcases min_or l with ⟨r, rfl⟩ | hn
  · rw [(strip_min r).1] at h hl
    rw [(strip_min r).2]
    obtain ⟨h1, h2⟩ := digL_iff.mp h
    refine ⟨intText_neg (x := ⟨(45 :: r).toArray⟩) (cs := r) (by simp) h2 h1 ?_, by rw [List.length_cons]; omega⟩
    show (45 :: r).toArray.size ≤ 4300
    rw [List.size_toArray, List.length_cons]
    omega
  · rw [(strip_no hn).1] at h hl
    rw [(strip_no hn).2]
    obtain ⟨h1, h2⟩ := digL_iff.mp h
    refine ⟨intText_digits (x := ⟨l.toArray⟩) (by simpa using h2) (by simpa using h1) ?_, by omega⟩
    show l.toArray.size ≤ 4300
    rw [List.size_toArray]
    omega
def intL (l : List Nat) : Option Int := if digL (stripL l) = true ∧ (stripL l).length ≤ 40 ∧ (Str.ofString (toString (valL l))).cps.toList = l then some (valL l) else none
theorem removeprefix_min (l : List Nat) : Txt.removeprefix ⟨l.toArray⟩ "-" = ⟨(stripL l).toArray⟩ := by
  have em : ("-" : Str) = ⟨#[45]⟩ := by decide +kernel
  rw [em, PySem.StrLaws.removeprefix_eq]
  have e1 : (⟨#[45]⟩ : Str).length = 1 := rfl
  have e2 : (⟨l.toArray⟩ : Str).length = l.length := by
    show l.toArray.size = _
    rw [List.size_toArray]
  have e3 : (⟨l.toArray⟩ : Str).cps.toList = l := by simp
  have e4 : Builtin.Str.subAt ⟨l.toArray⟩ ⟨#[45]⟩ 0 = decide (l.take 1 = [45]) := by
    unfold Builtin.Str.subAt
    show (l.toArray.extract 0 (0 + 1) == #[45]) = _
    rw [show l.toArray.extract 0 (0 + 1) = (l.take 1).toArray by simp]
    rw [Bool.eq_iff_iff, beq_iff_eq, decide_eq_true_eq]
    exact ⟨fun h => by simpa using congrArg Array.toList h, fun h => by rw [h]⟩
  rw [e1, e2, e3, e4]
  rcases min_or l with ⟨r, rfl⟩ | hn
  · rw [(strip_min r).1, if_pos (by simp)]
    simp
  · rw [(strip_no hn).1, if_neg]
    rw [Bool.and_eq_true, decide_eq_true_eq, decide_eq_true_eq]
    rintro ⟨_, h⟩
    match l, h, hn with
    | c :: r, h, hn =>
      have : c = 45 := by simpa using h
      subst this
      exact hn r rfl
/-- a text, k times: only its length is told -/
def rRepS : R2 := fun x y H Q => ∃ (z : Str) (k : Int), x = .str z ∧ y = .int k ∧ 2 ≤ k ∧ k ≤ 1000 ∧ 1 ≤ z.length ∧ z.length ≤ 1000 ∧ ∀ r : Str, r.length = z.length * k.toNat → Q (.str r) H
theorem rep_size (c : Array Nat) : ∀ m : Nat, ((List.replicate m c).foldl (· ++ ·) #[]).size = c.size * m := fun m => by
  have key : ∀ (m : Nat) (a : Array Nat), ((List.replicate m c).foldl (· ++ ·) a).size = a.size + c.size * m := by
    intro m
    induction m with
    | zero =>
      intro a
      simp
    | succ m ih =>
      intro a
      rw [List.replicate_succ, List.foldl_cons, ih, Array.size_append, Nat.mul_succ]
      omega
  rw [key m #[]]
  simp
theorem op_repS {X : Cx} : OpR X (binaryOp .Mult) rRepS := by
  intro pins s σ H x y v u Q I rx ry h
  obtain ⟨z, k, rfl, rfl, k2, k1, z1, z2, q⟩ := h
  obtain ⟨t, rfl⟩ := rx
  obtain ⟨t', rfl⟩ := ry
  have hm : z.length * k.toNat ≤ 1000000 := Nat.le_trans (Nat.mul_le_mul z2 (show k.toNat ≤ 1000 by omega)) (by decide)
  have hc : (k == 1 || z.length == 0) = false := by
    rw [Bool.or_eq_false_iff, beq_eq_false_iff_ne, beq_eq_false_iff_ne]
    omega
  refine P.mul_str (by rw [decide_eq_false (by omega), decide_eq_false (by omega)]; rfl) (fun _ _ => ?_) (fun _ _ => ?_) ?_
  · have e : (1000 : Int) ≤ (2 ^ 63 - 1) / k := by
      rw [Int.le_ediv_iff_mul_le (by omega)]
      omega
    omega
  · unfold Builtin.Str.tooLong
    have sl := sizeLine_eq
    first
      | (rw [decide_eq_false]; omega)
      | (simp; omega)
  · rw [if_neg (by omega), if_neg (by rw [hc]; exact Bool.false_ne_true)]
    have hz : (⟨(List.replicate k.toNat z.cps).foldl (· ++ ·) #[]⟩ : Str).length = z.length * k.toNat := rep_size z.cps k.toNat
    refine ⟨?_, ⟨.str _, H, I.tok _, ⟨_, rfl⟩, q _ hz⟩⟩
    have sl := sizeLine_eq
    first
      | (rw [hz]; omega)
      | (show _ ≤ _; rw [hz]; omega)
end Sw
/-! A written text ahead gives a token. -/
namespace Sw
open PySem PySem.Spec PyProof.Rows L2
section
variable {X : Cx} {f e : Expr} {es : List Expr} {tf te : TE} {ta : TA} {c : Str} {j : Nat} {pc0 pos : Pos} {r : R2}
/-- [.., 'c' + f, ..]: behind it a token is out -/
theorem pa_lit (ho : OpR X (binaryOp .Add) r) (hf : PE X f tf) (hr : PAT X es ta) (hs : starEach (.BinOp (.Constant (.str c) j pc0) .Add f pos :: es) X.env = (false, eval (.BinOp (.Constant (.str c) j pc0) .Add f pos) X.env) :: starEach es X.env := by rfl) :
    PA X (.BinOp (.Constant (.str c) j pc0) .Add f pos :: es) (tCons (tOp r (tC (.str c)) tf) ta) := by
  refine ⟨fun pos' pins s σ H Q I h => ?_⟩
  rw [hs]
  show wpAny _ _ (spliced ((false, eval (.BinOp (.Constant (.str c) j pc0) .Add f pos) X.env) :: backTo pos' (starEach es X.env))) _ _ s
  refine Calls.spliced_cons ?_
  refine wpAny_BinOp (Calls.Constant_str ?_)
  refine wpAny_mono (PySem.wpAny_toks (hf.run pins _ σ H _ (I.tok (s.toks + 1)) h)) (fun u s2 q => ?_) fun _ _ z => z.2
  obtain ⟨hk, y, H1, I1, r1, q1⟩ := q
  have hk : s.toks + 1 ≤ s2.toks := hk
  refine wpAny_mono (PySem.wpAny_toks (ho pins s2 σ H1 (.str c) y _ u _ I1 ⟨s.toks, rfl⟩ r1 q1)) (fun v s3 q => ?_) fun _ _ z => z.2
  obtain ⟨hk2, x, H2, I2, r2, q2⟩ := q
  exact thn (hr pos' pins s3 σ H2 _ (by omega) I2 q2) fun us s4 ⟨xs, H3, I3, r3, q3⟩ => ⟨x :: xs, H3, I3, .cons r2 r3, q3⟩
/-- a part of a list behind a written one, which wants no token itself -/
theorem pat_of (he : PE X e te) (hr : PAT X es ta) (hs : starEach (e :: es) X.env = (false, eval e X.env) :: starEach es X.env := by rfl) : PAT X (e :: es) (tCons te ta) := pat_cons (CwR.PET.of he) hr hs
end
end Sw
/-! Lists beside the empty one; rules within a comprehension. -/
namespace Sw
open PySem PySem.Spec PyProof.Rows L2
def rNeNil (K : PySem.W.Frag) : R2 := fun x y H Q => ∃ p q xs, x = .ref p ∧ y = .ref q ∧ SqL K H p xs ∧ SqL K H q [] ∧ Q (.bl (!decide (xs = []))) H
def rEqNil (K : PySem.W.Frag) : R2 := fun x y H Q => ∃ p q xs, x = .ref p ∧ y = .ref q ∧ SqL K H p xs ∧ SqL K H q [] ∧ Q (.bl (decide (xs = []))) H
theorem op_neNil {X : Cx} {K : PySem.W.Frag} (hK : X.K = K) (hu : X.A.units + 64 < cLine) : OpR X (compareOp .NotEq) (rNeNil K) := by
  subst hK
  intro pins s σ H x y v u Q I rx ry h
  obtain ⟨p, q, xs, rfl, rfl, hp, hq, k⟩ := h
  cases rx
  cases ry
  obtain ⟨its, rv, p', hz⟩ := I.list hp
  obtain ⟨its2, rv2, p2, hz2⟩ := I.list hq
  cases rv2
  have hu' : X.A.units < cLine := by omega
  have hl := rv.length
  cases xs with
  | nil =>
    cases rv
    refine PySem.SeqAt.RcNeAt.lists (e := fun _ => true) p'.isList p2.isList rfl hu' (fun j h1 h2 => by simp at h1) X.prog X.w _ _ ⟨.bl _, H, I, rfl, k⟩
  | cons x xs =>
    refine PySem.SeqAt.RcNeAt.lists_lengths p'.isList p2.isList (by cases rv; simp) hu' X.prog X.w _ _ ⟨.bl _, H, I, rfl, ?_⟩
    simpa using k
theorem op_eqNil {X : Cx} {K : PySem.W.Frag} (hK : X.K = K) (hu : X.A.units + 64 < cLine) : OpR X (compareOp .Eq) (rEqNil K) := by
  subst hK
  intro pins s σ H x y v u Q I rx ry h
  obtain ⟨p, q, xs, rfl, rfl, hp, hq, k⟩ := h
  cases rx
  cases ry
  obtain ⟨its, rv, p', hz⟩ := I.list hp
  obtain ⟨its2, rv2, p2, hz2⟩ := I.list hq
  cases rv2
  have hu' : X.A.units < cLine := by omega
  have hl := rv.length
  cases xs with
  | nil =>
    cases rv
    refine PySem.SeqAt.RcAt.lists (e := fun _ => true) p'.isList p2.isList rfl hu' (fun j h1 h2 => by simp at h1) X.prog X.w _ _ ⟨.bl _, H, I, rfl, k⟩
  | cons x xs =>
    refine PySem.SeqAt.RcAt.lists_lengths p'.isList p2.isList (by cases rv; simp) hu' X.prog X.w _ _ ⟨.bl _, H, I, rfl, ?_⟩
    simpa using k
theorem call_lenK {X : Cx} {K : PySem.W.Frag} (hK : X.K = K) : CallR X (.builtin "len") (fun xs H Q => ∃ x n, xs = [x] ∧ LenV K x H n ∧ Q (V.int ((n : Nat) : Int)) H) := by
  subst hK
  exact call_lenA
end Sw
namespace K01
open PySem PySem.Spec PyProof.Rows L2 Sw
def topS (i : Nat) : Stmt := PySem.Challenge.pw_soldwhole_k01_whole_fractions.main.body.getD i (.Pass ⟨0, 0, 0, 0⟩)
section
variable {P : Program} {w : World} {K : PySem.W.Frag} {mg : Str → Option Value} {base : Heap}
/-- the common divisor of two integers' sizes -/
def spCommon : Sp := fun vs H Q _ => ∃ a b : Int, vs = [.int a, .int b] ∧ Q (.int (gI a b)) H
abbrev s_law_common : Stmt := topS 23
theorem sc__law_common : FnScope ["one", "other"] ["one", "other"] (defScope s_law_common) := ⟨rfl, rfl, rfl, by decide +kernel, rfl, by decide +kernel, by decide +kernel⟩
theorem ok__law_common {f : Addr} {fd : FuncData} (F : Fun K "_law_common" "_law_common" s_law_common f fd) (B : Bt mg) : FnG P w K mg base 1 f fd ["one", "other"] spCommon := by
  refine Fun.okG F sc__law_common (fun vs H Q E h => ?_) (fun cdv A outer s H vs Q E hg hr h => ?_)
  · obtain ⟨a, b, rfl, _⟩ := h
    rfl
  obtain ⟨a, b, rfl, k⟩ := h
  refine ⟨_, (pss_cons (ps_par (i := 0) (j := 1) rfl sc__law_common.nd rfl rfl (by decide) rfl rfl (pa_cons (pe_callB call_abs (by rfl) B.abs bb_abs (pa_cons (pv 0) pa_nil)) (pa_cons (pe_callB call_abs (by rfl) B.abs bb_abs (pa_cons (pv 1) pa_nil)) pa_nil)) (by rfl))
    (pss_cons (ps_while PassesOwn.never (pt_cmpR op_gt (pv 1) pe_int (nomark _))
      (pss_one (ps_par (i := 0) (j := 1) rfl sc__law_common.nd rfl rfl (by decide) rfl rfl (pa_cons (pv 1) (pa_cons (pe_op op_mod (pe_callTy call_int1 (by rfl) B.int bb_int (pa_cons (pv 0) pa_nil)) (pv 1)) pa_nil)) (by rfl))))
    (pss_one (ps_ret (pv 0))))), ?_⟩
  have ab : ∀ i : Int, (if i < 0 then -i else i) = (i.natAbs : Int) := fun i => by split <;> omega
  refine ⟨_, rfl, a, rfl, _, rfl, b, rfl, _, _, rfl, ?_⟩
  rw [ab a, ab b]
  refine while_by (fun σ H1 => ∃ x y : Nat, σ = [some (.int x), some (.int y)] ∧ Nat.gcd x y = Nat.gcd a.natAbs b.natAbs ∧ H1 = H) (fun σ _ => match σ with | [_, some (.int j)] => j.toNat | _ => 0) ⟨a.natAbs, b.natAbs, rfl, rfl, rfl⟩ ?_ ?_
  · rintro σ H1 ⟨x, y, rfl, e, rfl⟩
    refine ⟨_, rfl, _, _, rfl, rfl, _, rfl, iteP (fun h => ?_) fun h => ?_⟩
    · refine ⟨_, rfl, _, rfl, .inl ⟨_, rfl, _, rfl, _, _, rfl, rfl, h, _, _, rfl, ?_⟩⟩
      refine ⟨⟨y, x % y, ?_, (gcd_step x y).trans e, rfl⟩, ?_⟩
      · show [some (V.int (y : Int)), some (V.int ((x : Int) % (y : Int)))] = _
        rw [← Int.natCast_emod]
      · show ((x : Int) % (y : Int)).toNat < ((y : Nat) : Int).toNat
        have := Int.emod_lt_of_pos (x : Int) h
        have := Int.emod_nonneg (x : Int) (show (y : Int) ≠ 0 by omega)
        omega
    · have hy : y = 0 := by omega
      subst hy
      rw [Nat.gcd_zero_right] at e
      rw [e] 
      exact ⟨_, rfl, k⟩
  · rintro σ H1 R R' hh ⟨v, e1, i, j, e2, e3, c, e4, q⟩
    exact ⟨v, e1, i, j, e2, e3, c, e4, hh _ _ q⟩
abbrev s_law_take : Stmt := topS 22
theorem sc__law_take : FnScope ["bag", "many", "cell", "stirred", "value", "begin", "second"] ["bag", "many"] (defScope s_law_take) := ⟨rfl, rfl, rfl, by decide +kernel, rfl, by decide +kernel, by decide +kernel⟩
theorem ok__law_take {f : Addr} {fd : FuncData} (F : Fun K "_law_take" "_law_take" s_law_take f fd) (B : Bt mg) : FnG P w K mg base 1 f fd ["bag", "many"] spTake := by
  refine Fun.okG F sc__law_take (fun vs H Q E h => ?_) (fun cdv A outer s H vs Q E hg hr h => ?_)
  · obtain ⟨b, m, rfl, _⟩ := h
    rfl
  obtain ⟨b, many, rfl, hb, hm0, hm1, k⟩ := h
  refine ⟨_, (C8.pss_cut (ps_if (pt_cmpR op_eq (pe_ix ix_list (pv 0) pe_int (fun _ _ => rfl)) pe_int (nomark _))
      (pss_cons (ps_set (i := 2) sc__law_take.nd rfl (Or.inl rfl) (pe_ix ix_list (pe_op op_cat (pe_slice sl_list (pe_ix ix_list (pv 0) pe_int (fun _ _ => rfl)) (po_some (pe_ix ix_list (pv 0) pe_int (fun _ _ => rfl))) po_none) (pe_lst (pa_cons pe_int pa_nil))) pe_int (fun _ _ => rfl)))
      (pss_cons (ps_augS (pv 0) pe_int get_list pe_int ip_add set_list)
      (C8.pss_cut (ps_if (pt_cmpR op_ge (pv 2) (pe_op op_pow pe_int pe_int) (nomark _))
        (pss_one (ps_asg (pv 2) (pg_sub (pv 0) pe_int set_list)))
        pss_nil)
      (pss_cons (ps_set (i := 3) sc__law_take.nd rfl (Or.inl rfl) (pe_op op_add (pe_op op_add (pe_op op_mul (pe_ix ix_list (pv 0) pe_int (fun _ _ => rfl)) pe_int) (pe_op op_mod (pe_callTy call_int1 (by rfl) B.int bb_int (pa_cons (pv 2) pa_nil)) pe_int)) (pe_op op_mul pe_int (pe_ix ix_list (pv 0) pe_int (fun _ _ => rfl)))))
      (pss_one (ps_asg (pe_op op_mod (pe_callTy call_int1 (by rfl) B.int bb_int (pa_cons (pv 3) pa_nil)) pe_int) (pg_sub (pv 0) pe_int set_list)))))))
      pss_nil)
    (pss_cons (ps_if (pt_cmpR op_gt (pe_ix ix_list (pv 0) pe_int (fun _ _ => rfl)) pe_int (nomark _))
      (pss_cons (ps_set (i := 4) sc__law_take.nd rfl (Or.inl rfl) (pe_op op_mod (pe_callTy call_int1 (by rfl) B.int bb_int (pa_cons (pe_ix ix_list (pv 0) pe_int (fun _ _ => rfl)) pa_nil)) (pv 1)))
      (pss_cons (ps_asg (pe_op op_fdiv (pe_callTy call_int1 (by rfl) B.int bb_int (pa_cons (pe_ix ix_list (pv 0) pe_int (fun _ _ => rfl)) pa_nil)) (pv 1)) (pg_sub (pv 0) pe_int set_list))
      (pss_one (ps_ret (pv 4)))))
      pss_nil)
    (pss_cons (ps_set (i := 5) sc__law_take.nd rfl (Or.inl rfl) (pe_op op_mod (pe_callTy call_int1 (by rfl) B.int bb_int (pa_cons (pe_op op_mul (pe_op op_add (pe_ix ix_list (pv 0) pe_int (fun _ _ => rfl)) pe_int) pe_int) pa_nil)) pe_int))
    (pss_cons (ps_set (i := 6) sc__law_take.nd rfl (Or.inl rfl) (pe_op op_mod (pe_callTy call_int1 (by rfl) B.int bb_int (pa_cons (pe_op op_mul (pe_op op_mod (pe_callTy call_int1 (by rfl) B.int bb_int (pa_cons (pe_op op_mul (pv 5) (pv 5)) pa_nil)) pe_int) pe_int) pa_nil)) pe_int))
    (pss_one (ps_ret (pe_op op_mod (pe_callTy call_int1 (by rfl) B.int bb_int (pa_cons (pe_op op_fdiv (pv 6) pe_int) pa_nil)) (pv 1)))))))), ?_⟩
  obtain ⟨x, y, z, l, cs, h1, h2, hlb, hx, hy0, hy1, hz, hcl, hc⟩ := hb
  refine ⟨fun σ H' => ∃ v2 v3, σ = [some (.ref b), some (.int many), v2, v3, none, none, none] ∧ Rel b H H', ?_, ?_⟩
  · refine ⟨_, rfl, b, _, 0, .int x, rfl, rfl, .of h1, atI_nat (j := 0) rfl, rfl, _, rfl, iteEq (fun e => ?_) fun e => ?_⟩
    · -- cell = (bag[3][bag[2]:] + [0])[0]
      refine ⟨_, rfl, b, _, 3, .ref l, rfl, rfl, .of h1, atI_nat (j := 3) rfl, _, rfl, b, _, 2, .int z, rfl, rfl, .of h1, atI_nat (j := 2) rfl, z, rfl, l, _, rfl, .of h2, fun p1 n1 => ?_⟩
      refine ⟨by show 1 ≤ sizeLine; decide, fun p2 n2 => ?_⟩
      have s1 := same_upd (o := .lst (cutV (cs.map V.int) (some z) none)) n1
      have s2 := same_upd (o := .lst [.int 0]) n2
      have hle : (cutV (cs.map V.int) (some z) none).length ≤ 63 := Nat.le_trans (cut_len _ _ _) (by rw [List.length_map]; exact hcl)
      refine ⟨p1, p2, _, _, rfl, rfl, s2 _ _ upd_same, upd_same, Nat.le_of_lt (small1000 (by show _ + 1 ≤ 1000; omega)), fun p3 n3 => ?_⟩
      have s3 := same_upd (o := .lst (cutV (cs.map V.int) (some z) none ++ [.int 0])) n3
      obtain ⟨c, hc0, hcv⟩ := head_cell hc (some z) none
      refine ⟨p3, _, 0, .int c, rfl, rfl, .of upd_same, atI_nat (j := 0) hcv, ?_⟩
      have s13 := (s1.trans s2).trans s3
      clear s1 s2 s3 n1 n2 n3 hle hcv
      revert s13
      generalize upd (upd (upd H p1 (.lst (cutV (cs.map V.int) (some z) none))) p2 (.lst [.int 0])) p3 (.lst (cutV (cs.map V.int) (some z) none ++ [.int 0])) = H3
      intro s13
      have g1 := s13 _ _ h1
      have g2 := s13 _ _ h2
      -- bag[2] += 1
      refine ⟨_, rfl, b, _, 2, .int z, rfl, rfl, .of g1, rfl, z, 1, rfl, rfl, b, _, 2, 2, rfl, rfl, g1, rfl, ?_⟩
      have r1 : Rel b H (upd H3 b (.lst [.int x, .int y, .int (z + 1), .ref l])) := ⟨fun a o n e => by rw [upd_ne n]; exact s13 a o e, fun k z => by rw [z.eq h1]; exact ⟨_, _, _, upd_same⟩, x, y, z + 1, l, cs, upd_same, by rw [upd_ne hlb]; exact g2, hlb, hx, hy0, hy1, by omega, hcl, hc⟩
      -- if cell >= 10 ** 18: bag[0] = cell
      refine ⟨fun σ H' => ∃ x', σ = [some (.ref b), some (.int many), some (.int c), none, none, none, none] ∧ Rel b H H' ∧ H' b = some (.lst [.int x', .int y, .int (z + 1), .ref l]) ∧ 0 ≤ x', ?_, ?_⟩
      · refine ⟨_, rfl, _, _, rfl, rfl, ⟨by decide, by decide, by decide⟩, _, _, rfl, rfl, _, rfl, iteP (fun h => ?_) fun h => ?_⟩
        · refine ⟨_, rfl, _, rfl, b, _, 0, 0, rfl, rfl, upd_same, rfl, c, rfl, ⟨fun a o n e => by rw [upd_ne n]; exact r1.keep a o n e, fun k z => by rw [z.eq h1]; exact ⟨_, _, _, upd_same⟩, c, y, z + 1, l, cs, upd_same, by rw [upd_ne hlb, upd_ne hlb]; exact g2, hlb, hc0, hy0, hy1, by omega, hcl, hc⟩, upd_same, hc0⟩
        · exact ⟨x, rfl, r1, upd_same, hx⟩
      · rintro σ H' ⟨x', rfl, R, hB, hx'⟩
        have e1 : l ≠ b := hlb
        have g3 : H' l = some (.lst (cs.map V.int)) := R.keep _ _ hlb h2
        refine ⟨_, rfl, b, _, 1, .int y, rfl, rfl, .of hB, atI_nat (j := 1) rfl, _, _, rfl, rfl, .inl ⟨by omega, by omega⟩, _, rfl, .inl ⟨_, rfl, _, _, rfl, rfl, (by show (0 : Int) < _; decide), _, _, rfl, rfl, _, rfl, b, _, 2, .int (z + 1), rfl, rfl, .of hB, atI_nat (j := 2) rfl, _, _, rfl, rfl, .inl ⟨by decide, by decide⟩, _, _, rfl, rfl, ?_⟩⟩
        refine ⟨_, rfl, .inl ⟨_, rfl, _, _, rfl, rfl, (by show (0 : Int) < _; decide), _, rfl, b, _, 1, 1, rfl, rfl, hB, rfl, _, _, rfl, ?_⟩⟩
        exact ⟨fun a o n e => by rw [upd_ne n]; exact R.keep a o n e, fun k z => by rw [z.eq h1]; exact ⟨_, _, _, upd_same⟩, x', _, z + 1, l, cs, upd_same, by rw [upd_ne hlb]; exact g3, hlb, hx', Int.emod_nonneg _ (by decide), Int.emod_lt_of_pos _ (by decide), by omega, hcl, hc⟩
    · exact ⟨_, _, rfl, .refl ⟨x, y, z, l, cs, h1, h2, hlb, hx, hy0, hy1, hz, hcl, hc⟩⟩
  · rintro σ H' ⟨v2, v3, rfl, R⟩
    obtain ⟨x, y, z, l, cs, h1, h2, hlb, hx, hy0, hy1, hz, hcl, hc⟩ := id R.bag
    refine ⟨_, rfl, b, _, 0, .int x, rfl, rfl, .of h1, atI_nat (j := 0) rfl, _, _, rfl, rfl, _, rfl, iteP (fun h => ?_) fun h => ?_⟩
    · refine ⟨_, rfl, b, _, 0, .int x, rfl, rfl, .of h1, atI_nat (j := 0) rfl, .inl ⟨_, rfl, _, rfl, _, _, rfl, rfl, hm0, ?_⟩⟩
      refine ⟨_, rfl, b, _, 0, .int x, rfl, rfl, .of h1, atI_nat (j := 0) rfl, .inl ⟨_, rfl, _, rfl, _, _, rfl, rfl, ⟨hm0, hm1⟩, _, rfl, b, _, 0, 0, rfl, rfl, h1, rfl, ?_⟩⟩
      refine ⟨_, rfl, k _ _ (Int.emod_nonneg _ (by omega)) (Int.emod_lt_of_pos _ hm0) ⟨fun a o n e => by rw [upd_ne n]; exact R.keep a o n e, fun k z => by rw [(R.cell k z).eq h1]; exact ⟨_, _, _, upd_same⟩, _, y, z, l, cs, upd_same, by rw [upd_ne hlb]; exact h2, hlb, Int.ediv_nonneg hx (by omega), hy0, hy1, hz, hcl, hc⟩⟩
    · have f1 := Int.emod_nonneg ((y + 1) * 39373) (show (1000000007 : Int) ≠ 0 by decide)
      have f2 := Int.emod_lt_of_pos ((y + 1) * 39373) (show (0 : Int) < 1000000007 by decide)
      refine ⟨_, rfl, b, _, 1, .int y, rfl, rfl, .of h1, atI_nat (j := 1) rfl, _, _, rfl, rfl, _, _, rfl, rfl, .inl ⟨by omega, by omega⟩, .inl ⟨_, rfl, _, _, rfl, rfl, (by show (0 : Int) < _; decide), ?_⟩⟩
      refine ⟨_, rfl, _, rfl, _, _, rfl, rfl, .inl ⟨by omega, by omega⟩, .inl ⟨_, rfl, _, _, rfl, rfl, (by show (0 : Int) < _; decide), _, _, rfl, rfl, .inr ⟨by decide, by decide⟩, .inl ⟨_, rfl, _, _, rfl, rfl, (by show (0 : Int) < _; decide), ?_⟩⟩⟩
      refine ⟨_, rfl, _, _, rfl, rfl, ⟨by decide, by decide⟩, .inl ⟨_, rfl, _, rfl, _, _, rfl, rfl, hm0, k _ _ (Int.emod_nonneg _ (by omega)) (Int.emod_lt_of_pos _ hm0) R⟩⟩
abbrev s_law_some : Stmt := topS 25
theorem sc__law_some : FnScope ["bag", "things"] ["bag", "things"] (defScope s_law_some) := ⟨rfl, rfl, rfl, by decide +kernel, rfl, by decide +kernel, by decide +kernel⟩
theorem ok__law_some {f : Addr} {fd : FuncData} (F : Fun K "_law_some" "_law_some" s_law_some f fd) (B : Bt mg) (c__law_take : CalG P w K mg base 1 "_law_take" spTake) : FnG P w K mg base 2 f fd ["bag", "things"] spSome := by
  refine Fun.okG F sc__law_some (fun vs H Q E h => ?_) (fun cdv A outer s H vs Q E hg hr h => ?_)
  · obtain ⟨b, t, xs, rfl, _⟩ := h
    rfl
  obtain ⟨b, t, xs, rfl, hb, ht, h1, h2, h3, k⟩ := h
  refine ⟨_, (pss_one (ps_ret (pe_ix ix_list (pv 1) (pc c__law_take hg hr (by decide) (by rfl) (pa_cons (pv 0) (pa_cons (pe_callB call_lenA (by rfl) B.len boot_len (pa_cons (pv 1) pa_nil)) pa_nil))) (fun _ _ => rfl)))), ?_⟩
  refine ⟨_, rfl, _, rfl, _, rfl, _, xs.length, rfl, .inl ⟨xs, .of h1, rfl⟩, b, _, rfl, hb, by omega, by omega, fun v H' v0 v1 R => ?_⟩
  obtain ⟨i, rfl⟩ : ∃ i : Nat, v = (i : Int) := ⟨v.toNat, by omega⟩
  have hi : i < xs.length := by omega
  exact ⟨t, xs, i, xs[i], rfl, rfl, .of (R.keep _ _ ht h1), atI_nat (List.getElem?_eq_getElem hi), k i _ H' (List.getElem?_eq_getElem hi) R⟩
/-- the FRACTION n / d -/
def spRed : Sp := fun vs H Q _ => ∃ n d : Int, vs = [.int n, .int d] ∧ d ≠ 0 ∧ d.natAbs < 2 ^ 8000 ∧ ∀ p, H p = none → Q (.ref p) (upd H p (.tup [.int (redI n d).1, .int (redI n d).2]))
abbrev s_law_reduced : Stmt := topS 24
theorem sc__law_reduced : FnScope ["n", "d", "shared"] ["n", "d"] (defScope s_law_reduced) := ⟨rfl, rfl, rfl, by decide +kernel, rfl, by decide +kernel, by decide +kernel⟩
theorem ok__law_reduced {f : Addr} {fd : FuncData} (F : Fun K "_law_reduced" "_law_reduced" s_law_reduced f fd) (B : Bt mg) (c__law_common : CalG P w K mg base 1 "_law_common" spCommon) : FnG P w K mg base 2 f fd ["n", "d"] spRed := by
  refine Fun.okG F sc__law_reduced (fun vs H Q E h => ?_) (fun cdv A outer s H vs Q E hg hr h => ?_)
  · obtain ⟨n, d, rfl, _⟩ := h
    rfl
  obtain ⟨n, d, rfl, h0, h1, k⟩ := h
  refine ⟨_, (pss_cons (ps_set (i := 2) sc__law_reduced.nd rfl (Or.inl rfl) (pe_callB (call_max2 rfl) (by rfl) B.max bb_max (pa_cons pe_int (pa_cons (pc c__law_common hg hr (by decide) (by rfl) (pa_cons (pv 0) (pa_cons (pv 1) pa_nil))) pa_nil))))
    (pss_cons (ps_if (pt_cmpR op_lt (pv 1) pe_int (nomark _))
      (pss_one (ps_ret (pe_tup (pa_cons (pe_op op_fdivW (pe_un un_neg (pv 0)) (pv 2)) (pa_cons (pe_op op_fdivW (pe_un un_neg (pv 1)) (pv 2)) pa_nil)))))
      pss_nil)
    (pss_one (ps_ret (pe_tup (pa_cons (pe_op op_fdivW (pv 0) (pv 2)) (pa_cons (pe_op op_fdivW (pv 1) (pv 2)) pa_nil))))))), ?_⟩
  have hw : CDivW 0 (sh n d) := wide_div (sh_pos n d) (Nat.lt_of_le_of_lt (sh_le h0) h1) (by decide) (by decide)
  have e1 : (if gI n d > 1 then gI n d else 1) = sh n d := rfl
  refine ⟨_, rfl, _, rfl, n, d, rfl, _, _, rfl, ?_⟩
  rw [e1]
  refine ⟨_, rfl, _, _, rfl, rfl, _, rfl, iteP (fun h => ?_) fun h => ?_⟩
  · have e2 : redI n d = ((-n) / sh n d, (-d) / sh n d) := if_pos h
    rw [e2] at k
    refine ⟨_, rfl, _, rfl, _, rfl, _, _, rfl, rfl, hw, _, rfl, _, rfl, _, rfl, _, _, rfl, rfl, hw, by show 2 ≤ sizeLine; decide, fun p np => k p np⟩
  · have e2 : redI n d = (n / sh n d, d / sh n d) := if_neg h
    rw [e2] at k
    refine ⟨_, rfl, _, rfl, _, _, rfl, rfl, hw, _, rfl, _, rfl, _, _, rfl, rfl, hw, by show 2 ≤ sizeLine; decide, fun p np => k p np⟩
abbrev s_law_number : Stmt := topS 26
theorem sc__law_number : FnScope ["bag", "most", "way"] ["bag", "most"] (defScope s_law_number) := ⟨rfl, rfl, rfl, by decide +kernel, rfl, by decide +kernel, by decide +kernel⟩
theorem ok__law_number {f : Addr} {fd : FuncData} (F : Fun K "_law_number" "_law_number" s_law_number f fd) (B : Bt mg) (c__law_take : CalG P w K mg base 1 "_law_take" spTake) (c__law_some : CalG P w K mg base 2 "_law_some" spSome) (c__law_reduced : CalG P w K mg base 2 "_law_reduced" spRed) :
    FnG P w K mg base 3 f fd ["bag", "most"] (spNum K) := by
  refine Fun.okG F sc__law_number (fun vs H Q E h => ?_) (fun cdv A outer s H vs Q E hg hr h => ?_)
  · obtain ⟨most, _, _, b, mu, rfl, _⟩ := h
    rfl
  obtain ⟨most, hm0, hm1, b, mu, rfl, hmu, hb, hM, k⟩ := h
  refine ⟨_, (pss_cons (ps_set (i := 2) sc__law_number.nd rfl (Or.inl rfl) (pc c__law_take hg hr (by decide) (by rfl) (pa_cons (pv 0) (pa_cons pe_int pa_nil))))
    (pss_cons (ps_if (pt_cmpR op_eq (pv 2) pe_int (nomark _))
      (pss_one (ps_ret (pc c__law_reduced hg hr (by decide) (by rfl) (pa_cons (pe_op op_add pe_int (pc c__law_take hg hr (by decide) (by rfl) (pa_cons (pv 0) (pa_cons (pe_op op_mul pe_int (pv 1)) pa_nil)))) (pa_cons (pc c__law_some hg hr (by decide) (by rfl) (pa_cons (pv 0) (pa_cons (pe_lst (pa_cons pe_int (pa_cons pe_int (pa_cons pe_int pa_nil)))) pa_nil))) pa_nil)))))
      pss_nil)
    (pss_cons (ps_if (pt_cmpR op_eq (pv 2) pe_int (nomark _))
      (pss_one (ps_ret (pc c__law_some hg hr (by decide) (by rfl) (pa_cons (pv 0) (pa_cons (pe_lst (pa_cons (pe_tup (pa_cons pe_int (pa_cons pe_int pa_nil))) (pa_cons (pe_tup (pa_cons pe_int (pa_cons pe_int pa_nil))) (pa_cons (pe_tup (pa_cons pe_int (pa_cons pe_int pa_nil))) (pa_cons (pe_tup (pa_cons pe_int (pa_cons pe_int pa_nil))) (pa_cons (pe_tup (pa_cons pe_int (pa_cons pe_int pa_nil))) pa_nil)))))) pa_nil)))))
      pss_nil)
    (pss_one (ps_ret (pe_tup (pa_cons (pe_op op_add pe_int (pc c__law_take hg hr (by decide) (by rfl) (pa_cons (pv 0) (pa_cons (pv 1) pa_nil)))) (pa_cons pe_int pa_nil)))))))), ?_⟩
  -- way = _law_take(bag, 12)
  refine ⟨_, rfl, b, _, rfl, hb, by decide, by decide, fun way H1 w0 w1 R1 => ?_⟩
  have M1 := hM.rel R1
  refine ⟨_, rfl, rfl, _, rfl, iteEq (fun e => ?_) fun e => ?_⟩
  · -- _law_reduced(1 + _law_take(bag, 3 * most), _law_some(bag, [2, 3, 7]))
    refine ⟨_, rfl, _, rfl, _, _, rfl, rfl, .inl ⟨by decide, by decide⟩, b, _, rfl, R1.bag, by omega, by omega, fun t H2 t0 t1 R2 => ⟨_, _, rfl, rfl, ?_⟩⟩
    have M2 := M1.rel R2
    refine gv_some (K := K) (mu := mu) (D := fun d => ∃ j : Int, d = .int j ∧ 2 ≤ j ∧ j ≤ 7) (n := 3) hmu rfl (gvA_cons hmu (ge_int.gv ⟨2, rfl, by decide, by decide⟩) (gvA_cons hmu (ge_int.gv ⟨3, rfl, by decide, by decide⟩) (gvA_cons hmu (ge_int.gv ⟨7, rfl, by decide, by decide⟩) gvA_nil))) (by decide) (by decide) H2 (.refl R2.bag) M2 _ fun v H3 d hd R3 hv _ => ?_
    obtain ⟨j, rfl, j0, j1⟩ := hd
    cases hv
    have hp : (7 : Nat) < 2 ^ 8000 := by decide +kernel
    refine ⟨_, _, rfl, by omega, Nat.lt_of_le_of_lt (show j.natAbs ≤ 7 by omega) hp, fun p np => ?_⟩
    have R := (R1.trans R2).trans R3
    obtain ⟨q1, q2, q3, q4, q5⟩ := redI_pos (show 0 < 1 + t by omega) (show 0 < j by omega)
    exact k (.ref p) _ _ ⟨_, _, rfl, q1, by omega, q3, by omega, q5⟩ (R.same (same_upd np)) (.tup (.inl upd_same) (.cons (.int _) (.cons (.int _) .nil))) (own_not fun _ z => nomatch z)
  · refine ⟨_, rfl, rfl, _, rfl, iteEq (fun e1 => ?_) fun e1 => ?_⟩
    · have g : ∀ {σ : L2.St} {H0 : Hp} {n m : Int}, NumP n m → Gv K b mu σ H0 (tTup (tCons (tC (.int n)) (tCons (tC (.int m)) tNil))) NumD := fun {σ H0 n m} h => (ge_tup hmu (geA_cons hmu ge_int (geA_cons hmu ge_int geA_nil)) (show 2 ≤ 1000 by decide)).gv (numD h)
      refine gv_some (K := K) (mu := mu) (D := NumD) (n := 5) hmu rfl (gvA_cons hmu (g ⟨by decide, by decide, by decide, by decide, by decide⟩) (gvA_cons hmu (g ⟨by decide, by decide, by decide, by decide, by decide⟩) (gvA_cons hmu (g ⟨by decide, by decide, by decide, by decide, by decide⟩) (gvA_cons hmu (g ⟨by decide, by decide, by decide, by decide, by decide⟩) (gvA_cons hmu (g ⟨by decide, by decide, by decide, by decide, by decide⟩) gvA_nil))))) (by decide) (by decide) H1 (.refl R1.bag) M1 _ fun v H3 d hd R3 hv _ => ?_
      exact k v H3 d hd (R1.trans R3) hv hd.not
    · refine ⟨_, rfl, _, rfl, b, _, rfl, R1.bag, by omega, by omega, fun t H2 t0 t1 R2 => ⟨_, _, rfl, rfl, by show 2 ≤ sizeLine; decide, fun p np => ?_⟩⟩
      refine k (.ref p) _ _ ⟨_, _, rfl, by omega, by omega, by decide, by decide, ?_⟩ ((R1.trans R2).same (same_upd np)) (.tup (.inl upd_same) (.cons (.int _) (.cons (.int _) .nil))) (own_not fun _ z => nomatch z)
      unfold gI
      simp
/-- a thing that is the same as itself by == -/
def Selfs (K : PySem.W.Frag) (H : Hp) (x y : V) : Prop := ∃ n, n ≤ 60 ∧ EqR K H (EqV K H n) x y
def spAlike (K : PySem.W.Frag) : Sp := fun vs H Q _ => ∃ (x y : V) (mu : Addr → Prop) (d : PyData), vs = [x, y] ∧ Dt K mu H x d ∧ Dt K mu H y d ∧ Ok d ∧ (d.hasDict = false ∨ (mu sysModules ∧ Selfs K H x y)) ∧ Q (.bl true) H
abbrev s_law_alike : Stmt := topS 29
theorem sc__law_alike : FnScope ["found", "due"] ["found", "due"] (defScope s_law_alike) := ⟨rfl, rfl, rfl, by decide +kernel, rfl, by decide +kernel, by decide +kernel⟩
theorem ok__law_alike {f : Addr} {fd : FuncData} (F : Fun K "_law_alike" "_law_alike" s_law_alike f fd) (B : Bt mg) : FnG P w K mg base 1 f fd ["found", "due"] (spAlike K) := by
  refine Fun.okG F sc__law_alike (fun vs H Q E h => ?_) (fun cdv A outer s H vs Q E hg hr h => ?_)
  · obtain ⟨x, y, mu, d, rfl, _⟩ := h
    rfl
  obtain ⟨x, y, mu, d, rfl, hx, hy, ho, hn, k⟩ := h
  have hu := Room.u64 hr
  refine ⟨_, (pss_one (ps_ret (pe_and (pe_cmpR (op_eqA hu) (pv 0) (pv 1) (nomark _)) (pe_one (pe_cmpR op_eq (pe_callB (call_repr hg hu) (by rfl) B.repr bb_repr (pa_cons (pv 0) pa_nil)) (pe_callB (call_repr hg hu) (by rfl) B.repr bb_repr (pa_cons (pv 1) pa_nil)) (nomark _)))))), ?_⟩
  have key : ∀ Q' : VK, Q' (.bl true) H → rEqA K x y H Q' := fun Q' q => by
    rcases hn with n | ⟨_, n, h1, h2⟩
    · refine .inl ⟨mu, d, d, hx, hy, ho.shaped n, ho.shaped n, ?_⟩
      rw [eqv_same (ok_lay d ho.ok n)]
      exact q
    · exact .inr (.inl ⟨n, h1, h2, q⟩)
  have hm : d.hasDict = false ∨ mu sysModules := hn.imp id And.left
  refine ⟨_, rfl, _, rfl, key _ ?_⟩
  refine ⟨_, rfl, iteT ⟨_, rfl, ?_⟩⟩
  refine ⟨x, mu, d, rfl, hx, ho.show, hm, by have := ho.dp; omega, ho.fits, ?_⟩
  refine ⟨_, rfl, ?_⟩
  refine ⟨y, mu, d, rfl, hy, ho.show, hm, by have := ho.dp; omega, ho.fits, ?_⟩
  have e : decide (V.str d.shown = V.str d.shown) = true := decide_eq_true rfl
  first
    | (show Q (.bl (decide (V.str d.shown = V.str d.shown))) H; rw [e]; exact k)
    | (refine ⟨rfl, ?_⟩; rw [e]; exact k)
    | (refine ⟨rfl, rfl, ?_⟩; rw [e]; exact k)
def spBag (K : PySem.W.Frag) : Sp := fun vs H Q _ => ∃ (a : Addr) (ns : List Int), vs = [.ref a] ∧ SqL K H a (ns.map V.int) ∧ ns.length ≤ 63 ∧ ∀ b H', Same H H' → H b = none → BagAt H' b → Q (.ref b) H'
abbrev s_law_bag : Stmt := topS 28
theorem sc__law_bag : FnScope ["script", "cell"] ["script"] (defScope s_law_bag) := ⟨rfl, rfl, rfl, by decide +kernel, rfl, by decide +kernel, by decide +kernel⟩
theorem ok__law_bag {f : Addr} {fd : FuncData} (F : Fun K "_law_bag" "_law_bag" s_law_bag f fd) (B : Bt mg) : FnG P w K mg base 1 f fd ["script"] (spBag K) := by
  refine Fun.okG F sc__law_bag (fun vs H Q E h => ?_) (fun cdv A outer s H vs Q E hg hr h => ?_)
  · obtain ⟨a, ns, rfl, _⟩ := h
    rfl
  obtain ⟨a, ns, rfl, hS, hl, k⟩ := h
  refine ⟨_, (pss_one (ps_ret (pe_lst (pa_cons pe_int (pa_cons pe_int (pa_cons pe_int (pa_cons (pe_lc (own := [("cell", 1)]) rfl sc__law_bag.nd (pi_list (pe_slice sl_list (pv 0) po_none (po_some pe_int))) (blkOk_by (own := [("cell", 1)]) (N := ["script", "cell"]) (sc := (defScope s_law_bag)) (by decide +kernel)) (fun _ _ _ _ _ => (pg_name (i := 1) sc__law_bag.nd rfl (Or.inl rfl))) (fun _ _ _ _ _ => pts_nil) (fun _ _ _ _ _ => (pe_callB call_abs (by rfl) B.abs bb_abs (pa_cons (pv 1) pa_nil)))) pa_nil))))))), ?_⟩
  refine ⟨_, rfl, 63, rfl, a, _, rfl, hS, fun p np => ?_⟩
  have sp := same_upd (o := .lst (cutV (ns.map V.int) none (some 63))) np
  obtain ⟨ms, em, hms⟩ : ∃ ms : List Int, cutV (ns.map V.int) none (some 63) = ms.map V.int ∧ ms.length ≤ 63 := by
    refine ⟨(ns.drop (HT.sIx ns.length 0 none)).take (HT.sIx ns.length ns.length (some 63) - HT.sIx ns.length 0 none), ?_, ?_⟩
    · unfold cutV
      rw [List.map_take, List.map_drop, List.length_map]
    · rw [List.length_take, List.length_drop]
      omega
  rw [em] at sp ⊢
  refine ⟨p, rfl, ⟨_, .inl (.inl upd_same)⟩, fun D nD => ?_⟩
  have sD := same_upd (o := .lst []) nD
  have nDp : p ≠ D := fun z => by
    rw [← z, upd_same] at nD
    cases nD
  refine lc_it (walk_list (xs := ms.map V.int) (a := p)) (fun i H' => Same H H' ∧ H' p = some (.lst (ms.map V.int)) ∧ H' D = some (.lst (((ms.take i).map fun c => if c < 0 then -c else c).map V.int))) ⟨sp.trans sD, sD _ _ upd_same, by rw [upd_same]; rfl⟩ (fun i H' _ h => .inl (.inl h.2.1)) (fun i x H2 H3 hi h y => ?_) fun H2 h => ?_
  · obtain ⟨h1, h2, h3⟩ := h
    obtain ⟨rfl, hx⟩ := y
    rw [List.getElem?_map] at hx
    have hi' : i < ms.length := by simpa using hi
    rw [List.getElem?_eq_getElem hi'] at hx
    cases hx
    refine ⟨rfl, _, rfl, _, rfl, _, h3, Nat.lt_of_le_of_lt (by rw [List.length_map, List.length_map, List.length_take]; exact Nat.min_le_left _ _) (small1000 (show i ≤ 1000 by omega)), fun q o e => ?_, ?_, ?_⟩
    · have nq : q ≠ D := fun z => by
        have e2 := sp _ _ e
        rw [z, nD] at e2
        cases e2
      rw [upd_ne nq]
      exact h1 q o e
    · rw [upd_ne nDp]
      exact h2
    · rw [upd_same, List.take_add_one, List.getElem?_eq_getElem hi', List.map_append, List.map_append]
      rfl
  · obtain ⟨h1, h2, h3⟩ := h
    rw [show List.take (ms.map V.int).length ms = ms from List.take_of_length_le (by rw [List.length_map]; exact Nat.le_refl _)] at h3
    refine ⟨by show 4 ≤ sizeLine; decide, fun b nb => ?_⟩
    have s3 := same_upd (o := .lst [.int 0, .int 1234567891, .int 0, .ref D]) nb
    have nbD : D ≠ b := fun z => by
      rw [z, nb] at h3
      cases h3
    have hb0 : H b = none := by
      cases e : H b with
      | none => rfl
      | some o =>
        rw [h1 _ _ e] at nb
        cases nb
    refine k b _ (h1.trans s3) hb0 ⟨0, 1234567891, 0, D, ms.map fun c => if c < 0 then -c else c, upd_same, s3 _ _ h3, nbD, by decide, by decide, by decide, by decide, by rw [List.length_map]; exact hms, fun c hc => ?_⟩
    obtain ⟨z, _, rfl⟩ := List.mem_map.mp hc
    split <;> omega
end
end K01
namespace K01
open PySem PySem.Spec PyProof.Rows L2 Sw
structure Tx (mg : Str → Option Value) : Prop where
  gcd : mg "gcd" = some (.builtin "math.gcd")
/-- not too great -/
def Bg (n : Int) : Prop := n.natAbs < 2 ^ 3000
theorem Bg.w {n : Int} (h : Bg n) : n.natAbs < 2 ^ 8000 := Nat.lt_of_lt_of_le h (Nat.pow_le_pow_right (by decide) (by decide))
theorem Bg.div {n c : Int} (h : Bg n) : Bg (n / c) := Nat.lt_of_le_of_lt div_le h
theorem Bg.gcd {n c : Int} (h : Bg c) (h0 : c ≠ 0) : Bg (gI n c) := Nat.lt_of_le_of_lt (gI_le h0) h
theorem Bg.neg {n : Int} (h : Bg n) : Bg (-n) := by
  unfold Bg
  rw [Int.natAbs_neg]
  exact h
section
variable {P : Program} {w : World} {K : PySem.W.Frag} {mg : Str → Option Value} {base : Heap}
def spReduced : Sp := fun vs H Q _ => ∃ n d : Int, vs = [.int n, .int d] ∧ d ≠ 0 ∧ Bg d ∧ Res Q H (redI n d)
abbrev sreduced : Stmt := topS 6
theorem sc_reduced : FnScope ["n", "d", "common"] ["n", "d"] (defScope sreduced) := ⟨rfl, rfl, rfl, by decide +kernel, rfl, by decide +kernel, by decide +kernel⟩
theorem ok_reduced {f : Addr} {fd : FuncData} (F : Fun K "reduced" "reduced" sreduced f fd) (B : Bt mg) (T : Tx mg) : FnG P w K mg base 1 f fd ["n", "d"] spReduced := by
  refine Fun.okG F sc_reduced (fun vs H Q E h => ?_) (fun cdv A outer s H vs Q E hg hr h => ?_)
  · obtain ⟨n, d, rfl, _⟩ := h
    rfl
  obtain ⟨n, d, rfl, h0, hb, k⟩ := h
  refine ⟨_, (pss_cons (ps_set (i := 2) sc_reduced.nd rfl (Or.inl rfl) (pe_callBfun cr_gcd (by rfl) T.gcd (pa_cons (pv 0) (pa_cons (pv 1) pa_nil))))
    (pss_cons (ps_if (pt_cmpR op_lt (pv 1) pe_int (nomark _))
      (pss_one (ps_set (i := 2) sc_reduced.nd rfl (Or.inl rfl) (pe_un un_neg (pv 2))))
      pss_nil)
    (pss_one (ps_ret (pe_tup (pa_cons (pe_op op_fdivA (pv 0) (pv 2)) (pa_cons (pe_op op_fdivA (pv 1) (pv 2)) pa_nil))))))), ?_⟩
  have g := gI_pos (a := n) h0
  have lg := log_lt (hb.gcd (n := n) h0).w
  have k' := k.now (.refl H) (red_fdiv h0).symm
  refine ⟨_, rfl, _, rfl, n, d, rfl, ?_⟩
  refine ⟨_, rfl, _, _, rfl, rfl, _, rfl, iteP (fun h => ?_) fun h => ?_⟩
  · rw [if_pos h] at k'
    have hc : CDivA 0 (-gI n d) := ⟨by omega, by rw [Int.natAbs_neg]; exact lg⟩
    exact ⟨_, rfl, _, rfl, _, rfl, _, rfl, _, _, rfl, rfl, hc, _, rfl, _, rfl, _, _, rfl, rfl, hc, by show 2 ≤ sizeLine; decide, k'⟩
  · rw [if_neg h] at k'
    have hc : CDivA 0 (gI n d) := ⟨by omega, lg⟩
    exact ⟨_, rfl, _, rfl, _, _, rfl, rfl, hc, _, rfl, _, rfl, _, _, rfl, rfl, hc, by show 2 ≤ sizeLine; decide, k'⟩
/-- two FRACTIONS -/
def spTwo (K : PySem.W.Frag) (r : Int → Int → Int → Int → Int × Int) : Sp := fun vs H Q _ => ∃ (x y : V) (n d m e : Int), vs = [x, y] ∧ Cpl K H x n d ∧ Cpl K H y m e ∧ Fr n d ∧ Fr m e ∧ Bg n ∧ Bg d ∧ Bg m ∧ Bg e ∧ Res Q H (r n d m e)
def addF (n d m e : Int) : Int × Int := redI (n * e + m * d) (d * e)
def subF (n d m e : Int) : Int × Int := redI (n * e - m * d) (d * e)
def mulF (n d m e : Int) : Int × Int := redI (n * m) (d * e)
abbrev sadded : Stmt := topS 7
theorem sc_added : FnScope ["one", "other", "n", "d", "m", "e", "common", "part", "left"] ["one", "other"] (defScope sadded) := ⟨rfl, rfl, rfl, by decide +kernel, rfl, by decide +kernel, by decide +kernel⟩
theorem ok_added {f : Addr} {fd : FuncData} (F : Fun K "added" "added" sadded f fd) (B : Bt mg) (T : Tx mg) : FnG P w K mg base 1 f fd ["one", "other"] (spTwo K addF) := by
  refine Fun.okG F sc_added (fun vs H Q E h => ?_) (fun cdv A outer s H vs Q E hg hr h => ?_)
  · obtain ⟨x, y, _, _, _, _, rfl, _⟩ := h
    rfl
  obtain ⟨x, y, n, d, m, e, rfl, ⟨a, rfl, ha⟩, ⟨b, rfl, hb⟩, f1, f2, bn, bd, bm, be, k⟩ := h
  refine ⟨_, (pss_cons (ps_asg (pe_tup (pa_cons (pv 0) (pa_cons (pv 1) pa_nil))) (pg_tup (n := 2) rfl (pgs_cons (pg_tup (n := 2) rfl (pgs_cons (pg_name (i := 2) sc_added.nd rfl (Or.inl rfl)) (pgs_cons (pg_name (i := 3) sc_added.nd rfl (Or.inl rfl)) pgs_nil))) (pgs_cons (pg_tup (n := 2) rfl (pgs_cons (pg_name (i := 4) sc_added.nd rfl (Or.inl rfl)) (pgs_cons (pg_name (i := 5) sc_added.nd rfl (Or.inl rfl)) pgs_nil))) pgs_nil))))
    (pss_cons (ps_set (i := 6) sc_added.nd rfl (Or.inl rfl) (pe_callBfun cr_gcd (by rfl) T.gcd (pa_cons (pv 3) (pa_cons (pv 5) pa_nil))))
    (pss_cons (ps_set (i := 7) sc_added.nd rfl (Or.inl rfl) (pe_op op_add (pe_op op_mulW (pv 2) (pe_op op_fdivW (pv 5) (pv 6))) (pe_op op_mulW (pv 4) (pe_op op_fdivW (pv 3) (pv 6)))))
    (pss_cons (ps_set (i := 8) sc_added.nd rfl (Or.inl rfl) (pe_callBfun cr_gcd (by rfl) T.gcd (pa_cons (pv 7) (pa_cons (pv 6) pa_nil))))
    (pss_one (ps_ret (pe_tup (pa_cons (pe_op op_fdivW (pv 7) (pv 8)) (pa_cons (pe_op op_mulW (pe_op op_fdivW (pv 3) (pv 6)) (pe_op op_fdivW (pv 5) (pv 8))) pa_nil))))))))), ?_⟩
  refine ⟨_, rfl, _, rfl, by show 2 ≤ sizeLine; decide, fun p np => ?_⟩
  have s1 := same_upd (o := .tup [.ref a, .ref b]) np
  refine ⟨p, _, rfl, .inl (.inl upd_same), rfl, _, _, rfl, a, _, rfl, s1.seqT ha, rfl, _, _, rfl, _, _, rfl, rfl, _, _, rfl, b, _, rfl, s1.seqT hb, rfl, _, _, rfl, _, _, rfl, rfl, rfl, ?_⟩
  have he : e ≠ 0 := by have := f2.pos; omega
  have gp := gI_pos (a := d) he
  have bg := be.gcd (n := d) he
  have k' := k.now s1 (add_red f1 f2)
  refine ⟨_, rfl, _, rfl, d, e, rfl, ?_⟩
  have hl := gI_pos (a := n * (e / gI d e) + m * (d / gI d e)) (b := gI d e) (by omega)
  have bl := bg.gcd (n := n * (e / gI d e) + m * (d / gI d e)) (by omega)
  refine ⟨_, rfl, _, rfl, _, rfl, _, _, rfl, rfl, divW gp bg.w, _, _, rfl, rfl, mulW bn.w be.div.w, _, rfl, _, rfl, _, rfl, _, _, rfl, rfl, divW gp bg.w, _, _, rfl, rfl, mulW bm.w bd.div.w, _, _, rfl, rfl, ?_⟩
  refine ⟨_, rfl, _, rfl, _, _, rfl, ?_⟩
  refine ⟨_, rfl, _, rfl, _, _, rfl, rfl, divW hl bl.w, _, rfl, _, rfl, _, _, rfl, rfl, divW gp bg.w, _, rfl, _, rfl, _, _, rfl, rfl, divW hl bl.w, _, _, rfl, rfl, mulW bd.div.w be.div.w, by show 2 ≤ sizeLine; decide, k'⟩
end
end K01
namespace K01
open PySem PySem.Spec PyProof.Rows L2 Sw
theorem Bg.mul {n m : Int} (h : Bg n) (k : Bg m) : (n * m).natAbs < 2 ^ 6000 := natAbs_lt_mul h k
theorem w6 {n : Int} (h : n.natAbs < 2 ^ 6000) : n.natAbs < 2 ^ 8000 := Nat.lt_of_lt_of_le h (Nat.pow_le_pow_right (by decide) (by decide))
def divF (n d m e : Int) : Int × Int := redI (n * e) (d * m)
def cmpF (n d m e : Int) : Int := if n * e < m * d then -1 else if n * e > m * d then 1 else 0
theorem subF_add (n d m e : Int) : addF n d (-m) e = subF n d m e := by
  unfold addF subF
  rw [Int.neg_mul, ← Int.sub_eq_add_neg]
section
variable {P : Program} {w : World} {K : PySem.W.Frag} {mg : Str → Option Value} {base : Heap}
theorem spTwo_len {K : PySem.W.Frag} {r : Int → Int → Int → Int → Int × Int} {a b : Str} : ∀ vs H Q E, spTwo K r vs H Q E → vs.length = [a, b].length := fun vs H Q E h => by
  obtain ⟨x, y, _, _, _, _, rfl, _⟩ := h
  rfl
abbrev slessened : Stmt := topS 8
theorem sc_lessened : FnScope ["one", "other"] ["one", "other"] (defScope slessened) := ⟨rfl, rfl, rfl, by decide +kernel, rfl, by decide +kernel, by decide +kernel⟩
theorem ok_lessened {f : Addr} {fd : FuncData} (F : Fun K "lessened" "lessened" slessened f fd) (B : Bt mg) (c_added : CalG P w K mg base 1 "added" (spTwo K addF)) : FnG P w K mg base 2 f fd ["one", "other"] (spTwo K subF) := by
  refine Fun.okG F sc_lessened spTwo_len (fun cdv A outer s H vs Q E hg hr h => ?_)
  obtain ⟨x, y, n, d, m, e, rfl, hx, ⟨b, rfl, hb⟩, f1, f2, bn, bd, bm, be, k⟩ := h
  refine ⟨_, (pss_one (ps_ret (pc c_added hg hr (by decide) (by rfl) (pa_cons (pv 0) (pa_cons (pe_tup (pa_cons (pe_un un_neg (pe_ix ix_tup (pv 1) pe_int (fun _ _ => rfl))) (pa_cons (pe_ix ix_tup (pv 1) pe_int (fun _ _ => rfl)) pa_nil))) pa_nil))))), ?_⟩
  refine ⟨_, rfl, _, rfl, b, _, 0, _, rfl, rfl, hb, atI_nat (j := 0) rfl, _, rfl, _, rfl, b, _, 1, _, rfl, rfl, hb, atI_nat (j := 1) rfl, by show 2 ≤ sizeLine; decide, fun p np => ?_⟩
  have s1 := same_upd (o := .tup [.int (-m), .int e]) np
  refine ⟨x, .ref p, n, d, -m, e, rfl, hx.same s1, .mk upd_same, f1, f2.neg, bn, bd, bm.neg, be, ?_⟩
  rw [subF_add]
  exact fun q H' s hq he => k q H' (s1.trans s) (by
    cases z : H q with
    | none => rfl
    | some o =>
      rw [s1 _ _ z] at hq
      cases hq) he
abbrev stimes : Stmt := topS 9
theorem sc_times : FnScope ["one", "other", "n", "d", "m", "e", "left", "right"] ["one", "other"] (defScope stimes) := ⟨rfl, rfl, rfl, by decide +kernel, rfl, by decide +kernel, by decide +kernel⟩
theorem ok_times {f : Addr} {fd : FuncData} (F : Fun K "times" "times" stimes f fd) (B : Bt mg) (T : Tx mg) : FnG P w K mg base 1 f fd ["one", "other"] (spTwo K mulF) := by
  refine Fun.okG F sc_times spTwo_len (fun cdv A outer s H vs Q E hg hr h => ?_)
  obtain ⟨x, y, n, d, m, e, rfl, ⟨a, rfl, ha⟩, ⟨b, rfl, hb⟩, f1, f2, bn, bd, bm, be, k⟩ := h
  refine ⟨_, (pss_cons (ps_asg (pe_tup (pa_cons (pv 0) (pa_cons (pv 1) pa_nil))) (pg_tup (n := 2) rfl (pgs_cons (pg_tup (n := 2) rfl (pgs_cons (pg_name (i := 2) sc_times.nd rfl (Or.inl rfl)) (pgs_cons (pg_name (i := 3) sc_times.nd rfl (Or.inl rfl)) pgs_nil))) (pgs_cons (pg_tup (n := 2) rfl (pgs_cons (pg_name (i := 4) sc_times.nd rfl (Or.inl rfl)) (pgs_cons (pg_name (i := 5) sc_times.nd rfl (Or.inl rfl)) pgs_nil))) pgs_nil))))
    (pss_cons (ps_par (i := 6) (j := 7) rfl sc_times.nd rfl rfl (by decide) rfl rfl (pa_cons (pe_callBfun cr_gcd (by rfl) T.gcd (pa_cons (pv 2) (pa_cons (pv 5) pa_nil))) (pa_cons (pe_callBfun cr_gcd (by rfl) T.gcd (pa_cons (pv 4) (pa_cons (pv 3) pa_nil))) pa_nil)) (by rfl))
    (pss_one (ps_ret (pe_tup (pa_cons (pe_op op_mulW (pe_op op_fdivW (pv 2) (pv 6)) (pe_op op_fdivW (pv 4) (pv 7))) (pa_cons (pe_op op_mulW (pe_op op_fdivW (pv 3) (pv 7)) (pe_op op_fdivW (pv 5) (pv 6))) pa_nil))))))), ?_⟩
  refine ⟨_, rfl, _, rfl, by show 2 ≤ sizeLine; decide, fun p np => ?_⟩
  have s1 := same_upd (o := .tup [.ref a, .ref b]) np
  refine ⟨p, _, rfl, .inl (.inl upd_same), rfl, _, _, rfl, a, _, rfl, s1.seqT ha, rfl, _, _, rfl, _, _, rfl, rfl, _, _, rfl, b, _, rfl, s1.seqT hb, rfl, _, _, rfl, _, _, rfl, rfl, rfl, ?_⟩
  have he : e ≠ 0 := by have := f2.pos; omega
  have hd : d ≠ 0 := by have := f1.pos; omega
  have g1 := gI_pos (a := n) he
  have g2 := gI_pos (a := m) hd
  have b1 := be.gcd (n := n) he
  have b2 := bd.gcd (n := m) hd
  have k' := k.now s1 (mul_red f1 f2)
  refine ⟨_, rfl, _, rfl, n, e, rfl, _, rfl, _, rfl, m, d, rfl, _, _, rfl, ?_⟩
  refine ⟨_, rfl, _, rfl, _, _, rfl, rfl, divW g1 b1.w, _, rfl, _, rfl, _, _, rfl, rfl, divW g2 b2.w, _, _, rfl, rfl, mulW bn.div.w bm.div.w, ?_⟩
  exact ⟨_, rfl, _, rfl, _, _, rfl, rfl, divW g2 b2.w, _, rfl, _, rfl, _, _, rfl, rfl, divW g1 b1.w, _, _, rfl, rfl, mulW bd.div.w be.div.w, by show 2 ≤ sizeLine; decide, k'⟩
/-- .. the second not 0 -/
def spDiv (K : PySem.W.Frag) : Sp := fun vs H Q _ => ∃ (x y : V) (n d m e : Int), vs = [x, y] ∧ Cpl K H x n d ∧ Cpl K H y m e ∧ Fr n d ∧ Fr m e ∧ Bg n ∧ Bg d ∧ Bg m ∧ Bg e ∧ m ≠ 0 ∧ Res Q H (divF n d m e)
theorem spDiv_len {K : PySem.W.Frag} {a b : Str} : ∀ vs H Q E, spDiv K vs H Q E → vs.length = [a, b].length := fun vs H Q E h => by
  obtain ⟨x, y, _, _, _, _, rfl, _⟩ := h
  rfl
abbrev sover : Stmt := topS 10
theorem sc_over : FnScope ["one", "other", "n", "d"] ["one", "other"] (defScope sover) := ⟨rfl, rfl, rfl, by decide +kernel, rfl, by decide +kernel, by decide +kernel⟩
theorem ok_over {f : Addr} {fd : FuncData} (F : Fun K "over" "over" sover f fd) (B : Bt mg) (c_times : CalG P w K mg base 1 "times" (spTwo K mulF)) : FnG P w K mg base 2 f fd ["one", "other"] (spDiv K) := by
  refine Fun.okG F sc_over spDiv_len (fun cdv A outer s H vs Q E hg hr h => ?_)
  obtain ⟨x, y, n, d, m, e, rfl, hx, ⟨b, rfl, hb⟩, f1, f2, bn, bd, bm, be, hm, k⟩ := h
  refine ⟨_, (pss_cons (ps_asg (pv 1) (pg_tup (n := 2) rfl (pgs_cons (pg_name (i := 2) sc_over.nd rfl (Or.inl rfl)) (pgs_cons (pg_name (i := 3) sc_over.nd rfl (Or.inl rfl)) pgs_nil))))
    (pss_one (ps_ret (pc c_times hg hr (by decide) (by rfl) (pa_cons (pv 0) (pa_cons (pe_ifExp (pt_cmpR op_gt (pv 2) pe_int (nomark _)) (pe_tup (pa_cons (pv 3) (pa_cons (pv 2) pa_nil))) (pe_tup (pa_cons (pe_un un_neg (pv 3)) (pa_cons (pe_un un_neg (pv 2)) pa_nil)))) pa_nil)))))), ?_⟩
  refine ⟨_, rfl, b, _, rfl, hb, rfl, _, _, rfl, _, _, rfl, rfl, ?_⟩
  have res : ∀ {H1 : Hp} {r : Int × Int}, Same H H1 → r = divF n d m e → Res Q H1 r := fun {H1 r} s1 er q H' s hq he => by
    subst er
    exact k q H' (s1.trans s) (by
      cases z : H q with
      | none => rfl
      | some o =>
        rw [s1 _ _ z] at hq
        cases hq) he
  refine ⟨_, rfl, _, rfl, _, _, rfl, rfl, _, rfl, iteP (fun h => ?_) fun h => ?_⟩
  · refine ⟨_, rfl, _, rfl, by show 2 ≤ sizeLine; decide, fun p np => ?_⟩
    have s1 := same_upd (o := .tup [.int e, .int m]) np
    exact ⟨x, .ref p, n, d, e, m, rfl, hx.same s1, .mk upd_same, f1, f2.flip (by omega), bn, bd, be, bm, res s1 rfl⟩
  · refine ⟨_, rfl, _, rfl, _, rfl, _, rfl, by show 2 ≤ sizeLine; decide, fun p np => ?_⟩
    have s1 := same_upd (o := .tup [.int (-e), .int (-m)]) np
    refine ⟨x, .ref p, n, d, -e, -m, rfl, hx.same s1, .mk upd_same, f1, f2.flipN (by omega), bn, bd, be.neg, bm.neg, res s1 ?_⟩
    unfold mulF divF
    rw [Int.mul_neg, Int.mul_neg, redI_neg (Int.mul_ne_zero (by have := f1.pos; omega) hm)]
/-- so many bits are cut off -/
def cutB (d : Int) : Nat := PySem.Builtin.Int.intBits d - 128
def roughF (n d m e : Int) : Int :=
  if (n / 2 ^ cutB d + 1) * (e / 2 ^ cutB e + 1) < m / 2 ^ cutB e * (d / 2 ^ cutB d) then -1
  else if n / 2 ^ cutB d * (e / 2 ^ cutB e) > (m / 2 ^ cutB e + 1) * (d / 2 ^ cutB d + 1) then 1 else 0
theorem rough1 {n d m e N D M E X Y : Int} (hX : 0 < X) (hY : 0 < Y) (n1 : n < (N + 1) * X) (e1 : e < (E + 1) * Y) (n0 : 0 < n) (e0 : 0 < e) (m1 : M * Y ≤ m) (d1 : D * X ≤ d) (M0 : 0 ≤ M) (D0 : 0 ≤ D) (h : (N + 1) * (E + 1) < M * D) : n * e < m * d := by
  have a : n * e < ((N + 1) * X) * ((E + 1) * Y) := Int.mul_lt_mul n1 (Int.le_of_lt e1) e0 (by omega)
  have my : 0 ≤ M * Y := Int.mul_nonneg M0 (Int.le_of_lt hY)
  have b : (M * Y) * (D * X) ≤ m * d := Int.mul_le_mul m1 d1 (Int.mul_nonneg D0 (Int.le_of_lt hX)) (by omega)
  have c : ((N + 1) * (E + 1)) * (X * Y) ≤ (M * D) * (X * Y) := Int.mul_le_mul_of_nonneg_right (Int.le_of_lt h) (Int.mul_nonneg (Int.le_of_lt hX) (Int.le_of_lt hY))
  have q1 : ((N + 1) * X) * ((E + 1) * Y) = ((N + 1) * (E + 1)) * (X * Y) := by grind
  have q2 : (M * Y) * (D * X) = (M * D) * (X * Y) := by grind
  rw [q1] at a
  rw [q2] at b
  exact Int.lt_of_lt_of_le a (Int.le_trans c b)
theorem two_pos (k : Nat) : (0 : Int) < 2 ^ k := Int.pow_pos (by decide)
theorem rough_ok {n d m e : Int} (n0 : 0 < n) (d0 : 0 < d) (m0 : 0 < m) (e0 : 0 < e) (h : roughF n d m e ≠ 0) : roughF n d m e = cmpF n d m e := by
  have hX := two_pos (cutB d)
  have hY := two_pos (cutB e)
  have up : ∀ (a : Int) {x : Int}, 0 < x → a < (a / x + 1) * x := fun a x hx => Int.lt_ediv_add_one_mul_self a hx
  have lo : ∀ (a : Int) {x : Int}, 0 < x → a / x * x ≤ a := fun a x hx => Int.ediv_mul_le a (by omega)
  have nn : ∀ {a x : Int}, 0 < a → 0 < x → 0 ≤ a / x := fun ha hx => Int.ediv_nonneg (Int.le_of_lt ha) (Int.le_of_lt hx)
  unfold roughF at h ⊢
  unfold cmpF
  by_cases h1 : (n / 2 ^ cutB d + 1) * (e / 2 ^ cutB e + 1) < m / 2 ^ cutB e * (d / 2 ^ cutB d)
  · rw [if_pos h1, if_pos (rough1 hX hY (up n hX) (up e hY) n0 e0 (lo m hY) (lo d hX) (nn m0 hY) (nn d0 hX) h1)]
  · rw [if_neg h1] at h ⊢
    by_cases h2 : n / 2 ^ cutB d * (e / 2 ^ cutB e) > (m / 2 ^ cutB e + 1) * (d / 2 ^ cutB d + 1)
    · rw [if_pos h2]
      have l := rough1 (n := m) (d := e) (m := n) (e := d) hY hX (up m hY) (up d hX) m0 d0 (lo n hX) (lo e hY) (nn n0 hX) (nn e0 hY) h2
      rw [if_neg (by omega), if_pos l]
    · rw [if_neg h2] at h
      exact absurd rfl h
def spFirst (K : PySem.W.Frag) : Sp := fun vs H Q _ => ∃ (x : V) (n d : Int), vs = [x] ∧ Cpl K H x n d ∧ Res Q H (n / 2 ^ cutB d, d / 2 ^ cutB d)
abbrev sfirst_bits : Stmt := topS 13
theorem sc_first_bits : FnScope ["one", "n", "d", "cut"] ["one"] (defScope sfirst_bits) := ⟨rfl, rfl, rfl, by decide +kernel, rfl, by decide +kernel, by decide +kernel⟩
theorem ok_first_bits {f : Addr} {fd : FuncData} (F : Fun K "first_bits" "first_bits" sfirst_bits f fd) (B : Bt mg) (TR : ∃ u, mg "ROUGH_BITS" = some u ∧ RelV (.int 128) u) : FnG P w K mg base 1 f fd ["one"] (spFirst K) := by
  refine Fun.okG F sc_first_bits (fun vs H Q E h => ?_) (fun cdv A outer s H vs Q E hg hr h => ?_)
  · obtain ⟨x, _, _, rfl, _⟩ := h
    rfl
  obtain ⟨x, n, d, rfl, ⟨a, rfl, ha⟩, k⟩ := h
  refine ⟨_, (pss_cons (ps_asg (pv 0) (pg_tup (n := 2) rfl (pgs_cons (pg_name (i := 1) sc_first_bits.nd rfl (Or.inl rfl)) (pgs_cons (pg_name (i := 2) sc_first_bits.nd rfl (Or.inl rfl)) pgs_nil))))
    (pss_cons (ps_set (i := 3) sc_first_bits.nd rfl (Or.inl rfl) (pe_callB (call_max2 rfl) (by rfl) B.max bb_max (pa_cons pe_int (pa_cons (pe_op op_sub (pe_bits (pv 2)) (C8.pe_gc rfl TR)) pa_nil))))
    (pss_one (ps_ret (pe_tup (pa_cons (pe_op op_shrN (pv 1) (pv 3)) (pa_cons (pe_op op_shrN (pv 2) (pv 3)) pa_nil))))))), ?_⟩
  refine ⟨_, rfl, a, _, rfl, ha, rfl, _, _, rfl, _, _, rfl, rfl, ?_⟩
  refine ⟨_, rfl, _, rfl, _, _, rfl, rfl, _, _, rfl, ?_⟩
  have e : (if ((PySem.Builtin.Int.intBits d : Nat) : Int) - 128 > 0 then ((PySem.Builtin.Int.intBits d : Nat) : Int) - 128 else 0) = ((cutB d : Nat) : Int) := by
    unfold cutB
    split <;> omega
  rw [e]
  exact ⟨_, rfl, _, rfl, _, _, rfl, rfl, _, rfl, _, rfl, _, _, rfl, rfl, by show 2 ≤ sizeLine; decide, k.now (.refl H) rfl⟩
theorem bg_cut {n : Int} {k : Nat} (h : Bg n) : (n / 2 ^ k).natAbs < 2 ^ 8000 ∧ (n / 2 ^ k + 1).natAbs < 2 ^ 8000 := by
  have h1 : (n / 2 ^ k).natAbs < 2 ^ 3000 := Nat.lt_of_le_of_lt div_le h
  have h2 : (n / 2 ^ k + 1).natAbs ≤ (n / 2 ^ k).natAbs + 1 := by omega
  have h3 : (2 : Nat) ^ 3000 < 2 ^ 8000 := Nat.pow_lt_pow_right (by decide) (by decide)
  generalize (2 : Nat) ^ 3000 = X at *
  generalize (2 : Nat) ^ 8000 = Y at *
  omega
def spRough (K : PySem.W.Frag) : Sp := fun vs H Q _ => ∃ (x y : V) (n d m e : Int), vs = [x, y] ∧ Cpl K H x n d ∧ Cpl K H y m e ∧ Bg n ∧ Bg d ∧ Bg m ∧ Bg e ∧ ∀ H', Same H H' → Q (.int (roughF n d m e)) H'
abbrev scompared_roughly : Stmt := topS 12
theorem sc_compared_roughly : FnScope ["one", "other", "n", "d", "m", "e"] ["one", "other"] (defScope scompared_roughly) := ⟨rfl, rfl, rfl, by decide +kernel, rfl, by decide +kernel, by decide +kernel⟩
theorem ok_compared_roughly {f : Addr} {fd : FuncData} (F : Fun K "compared_roughly" "compared_roughly" scompared_roughly f fd) (B : Bt mg) (c_first_bits : CalG P w K mg base 1 "first_bits" (spFirst K)) : FnG P w K mg base 2 f fd ["one", "other"] (spRough K) := by
  refine Fun.okG F sc_compared_roughly (fun vs H Q E h => ?_) (fun cdv A outer s H vs Q E hg hr h => ?_)
  · obtain ⟨x, y, _, _, _, _, rfl, _⟩ := h
    rfl
  obtain ⟨x, y, n, d, m, e, rfl, hx, hy, bn, bd, bm, be, k⟩ := h
  refine ⟨_, (pss_cons (ps_asg (pe_tup (pa_cons (pc c_first_bits hg hr (by decide) (by rfl) (pa_cons (pv 0) pa_nil)) (pa_cons (pc c_first_bits hg hr (by decide) (by rfl) (pa_cons (pv 1) pa_nil)) pa_nil))) (pg_tup (n := 2) rfl (pgs_cons (pg_tup (n := 2) rfl (pgs_cons (pg_name (i := 2) sc_compared_roughly.nd rfl (Or.inl rfl)) (pgs_cons (pg_name (i := 3) sc_compared_roughly.nd rfl (Or.inl rfl)) pgs_nil))) (pgs_cons (pg_tup (n := 2) rfl (pgs_cons (pg_name (i := 4) sc_compared_roughly.nd rfl (Or.inl rfl)) (pgs_cons (pg_name (i := 5) sc_compared_roughly.nd rfl (Or.inl rfl)) pgs_nil))) pgs_nil))))
    (pss_cons (ps_if (pt_cmpR op_lt (pe_op op_mulW (pe_op op_add (pv 2) pe_int) (pe_op op_add (pv 5) pe_int)) (pe_op op_mulW (pv 4) (pv 3)) (nomark _))
      (pss_one (ps_ret (pe_un un_neg pe_int)))
      pss_nil)
    (pss_one (ps_ret (pe_ifExp (pt_cmpR op_gt (pe_op op_mulW (pv 2) (pv 5)) (pe_op op_mulW (pe_op op_add (pv 4) pe_int) (pe_op op_add (pv 3) pe_int)) (nomark _)) pe_int pe_int))))), ?_⟩
  refine ⟨_, rfl, x, n, d, rfl, hx, fun a H1 s1 _ h1 => ⟨_, rfl, y, m, e, rfl, hy.same s1, fun b H2 s2 _ h2 => ?_⟩⟩
  refine ⟨by show 2 ≤ sizeLine; decide, fun p np => ?_⟩
  have s3 := same_upd (o := .tup [.ref a, .ref b]) np
  have h1' := s3 _ _ (s2 _ _ h1)
  have h2' := s3 _ _ h2
  have k := k _ ((s1.trans s2).trans s3)
  refine ⟨p, _, rfl, .inl (.inl upd_same), rfl, _, _, rfl, a, _, rfl, .inl (.inl h1'), rfl, _, _, rfl, _, _, rfl, rfl, _, _, rfl, b, _, rfl, .inl (.inl h2'), rfl, _, _, rfl, _, _, rfl, rfl, rfl, ?_⟩
  obtain ⟨n1, n2⟩ := bg_cut (k := cutB d) bn
  obtain ⟨d1, d2⟩ := bg_cut (k := cutB d) bd
  obtain ⟨m1, m2⟩ := bg_cut (k := cutB e) bm
  obtain ⟨e1, e2⟩ := bg_cut (k := cutB e) be
  unfold roughF at k
  refine ⟨_, rfl, _, _, rfl, rfl, _, rfl, _, _, rfl, rfl, _, _, rfl, rfl, mulW n2 e2, _, rfl, _, rfl, _, _, rfl, rfl, mulW m1 d1, _, _, rfl, rfl, _, rfl, iteP (fun h => ?_) fun h => ?_⟩
  · rw [if_pos h] at k
    exact ⟨_, rfl, k⟩
  · rw [if_neg h] at k
    refine ⟨_, rfl, _, rfl, _, _, rfl, rfl, mulW n1 e1, _, rfl, _, _, rfl, rfl, _, rfl, _, _, rfl, rfl, _, _, rfl, rfl, mulW m2 d2, _, _, rfl, rfl, _, rfl, iteP (fun h2 => ?_) fun h2 => ?_⟩
    · rw [if_pos h2] at k
      exact k
    · rw [if_neg h2] at k
      exact k
def spCmp (K : PySem.W.Frag) : Sp := fun vs H Q _ => ∃ (x y : V) (n d m e : Int), vs = [x, y] ∧ Cpl K H x n d ∧ Cpl K H y m e ∧ Bg n ∧ Bg d ∧ Bg m ∧ Bg e ∧ 0 < d ∧ 0 < e ∧ ∀ H', Same H H' → Q (.int (cmpF n d m e)) H'
abbrev scompared : Stmt := topS 11
theorem sc_compared : FnScope ["one", "other", "n", "d", "m", "e", "rough", "left", "right"] ["one", "other"] (defScope scompared) := ⟨rfl, rfl, rfl, by decide +kernel, rfl, by decide +kernel, by decide +kernel⟩
theorem ok_compared {f : Addr} {fd : FuncData} (F : Fun K "compared" "compared" scompared f fd) (B : Bt mg) (TB : ∃ u, mg "GREAT_BITS" = some u ∧ RelV (.int 1500) u) (c_compared_roughly : CalG P w K mg base 2 "compared_roughly" (spRough K)) : FnG P w K mg base 3 f fd ["one", "other"] (spCmp K) := by
  refine Fun.okG F sc_compared (fun vs H Q E h => ?_) (fun cdv A outer s H vs Q E hg hr h => ?_)
  · obtain ⟨x, y, _, _, _, _, rfl, _⟩ := h
    rfl
  obtain ⟨x, y, n, d, m, e, rfl, ⟨a, rfl, ha⟩, ⟨b, rfl, hb⟩, bn, bd, bm, be, d0, e0, k⟩ := h
  refine ⟨_, (pss_cons (ps_asg (pe_tup (pa_cons (pv 0) (pa_cons (pv 1) pa_nil))) (pg_tup (n := 2) rfl (pgs_cons (pg_tup (n := 2) rfl (pgs_cons (pg_name (i := 2) sc_compared.nd rfl (Or.inl rfl)) (pgs_cons (pg_name (i := 3) sc_compared.nd rfl (Or.inl rfl)) pgs_nil))) (pgs_cons (pg_tup (n := 2) rfl (pgs_cons (pg_name (i := 4) sc_compared.nd rfl (Or.inl rfl)) (pgs_cons (pg_name (i := 5) sc_compared.nd rfl (Or.inl rfl)) pgs_nil))) pgs_nil))))
    (C8.pss_cut (ps_if (PW.pt (pw_and (pt_cmpR op_gt (pe_bits (pe_callB (call_max2 rfl) (by rfl) B.max bb_max (pa_cons (pv 3) (pa_cons (pv 5) pa_nil)))) (C8.pe_gc rfl TB) (nomark _)) (pw_and (pt_cmpR op_gt (pv 2) pe_int (nomark _)) (pw_and1 (pt_cmpR op_gt (pv 4) pe_int (nomark _))))))
      (pss_cons (ps_set (i := 6) sc_compared.nd rfl (Or.inl rfl) (pc c_compared_roughly hg hr (by decide) (by rfl) (pa_cons (pv 0) (pa_cons (pv 1) pa_nil))))
      (pss_one (ps_if (pt_cmpR op_ne (pv 6) pe_int (nomark _))
        (pss_one (ps_ret (pv 6)))
        pss_nil)))
      pss_nil)
    (pss_cons (ps_set (i := 7) sc_compared.nd rfl (Or.inl rfl) (pe_op op_mulW (pv 2) (pv 5)))
    (pss_cons (ps_set (i := 8) sc_compared.nd rfl (Or.inl rfl) (pe_op op_mulW (pv 4) (pv 3)))
    (pss_cons (ps_if (pt_cmpR op_lt (pv 7) (pv 8) (nomark _))
      (pss_one (ps_ret (pe_un un_neg pe_int)))
      pss_nil)
    (pss_one (ps_ret (pe_ifExp (pt_cmpR op_gt (pv 7) (pv 8) (nomark _)) pe_int pe_int)))))))), ?_⟩
  refine ⟨_, rfl, _, rfl, by show 2 ≤ sizeLine; decide, fun p np => ?_⟩
  have s1 := same_upd (o := .tup [.ref a, .ref b]) np
  refine ⟨p, _, rfl, .inl (.inl upd_same), rfl, _, _, rfl, a, _, rfl, s1.seqT ha, rfl, _, _, rfl, _, _, rfl, rfl, _, _, rfl, b, _, rfl, s1.seqT hb, rfl, _, _, rfl, _, _, rfl, rfl, rfl, ?_⟩
  have ha1 := s1.seqT ha
  have hb1 := s1.seqT hb
  revert s1 ha1 hb1
  generalize upd H p (.tup [.ref a, .ref b]) = H1
  intro s1 ha1 hb1
  refine ⟨fun σ H' => Same H H' ∧ ∃ o, σ = [some (.ref a), some (.ref b), some (.int n), some (.int d), some (.int m), some (.int e), o, none, none], ?_, ?_⟩
  · refine ⟨_, rfl, _, rfl, _, _, rfl, _, rfl, _, _, rfl, rfl, _, rfl, iteP (fun _ => ?_) fun _ => ⟨s1, _, rfl⟩⟩
    refine ⟨_, rfl, _, _, rfl, rfl, _, rfl, iteP (fun hn => ?_) fun _ => ⟨s1, _, rfl⟩⟩
    refine ⟨_, rfl, _, _, rfl, rfl, _, rfl, iteP (fun hm => ?_) fun _ => ⟨s1, _, rfl⟩⟩
    refine ⟨_, rfl, _, rfl, .ref a, .ref b, n, d, m, e, rfl, ⟨a, rfl, ha1⟩, ⟨b, rfl, hb1⟩, bn, bd, bm, be, fun H2 s2 => ?_⟩
    refine ⟨_, rfl, rfl, _, rfl, iteNe (fun h => ?_) fun h => ?_⟩
    · refine ⟨_, rfl, ?_⟩
      have e := rough_ok hn d0 hm e0 (fun z => h (by rw [z]))
      rw [e]
      exact k _ (s1.trans s2)
    · exact ⟨s1.trans s2, _, rfl⟩
  · rintro σ H' ⟨s2, o, rfl⟩
    refine ⟨_, rfl, _, rfl, _, _, rfl, rfl, mulW bn.w be.w, ?_⟩
    refine ⟨_, rfl, _, rfl, _, _, rfl, rfl, mulW bm.w bd.w, ?_⟩
    have k := k _ s2
    unfold cmpF at k
    refine ⟨_, rfl, _, rfl, _, _, rfl, rfl, _, rfl, iteP (fun h => ?_) fun h => ?_⟩
    · rw [if_pos h] at k
      exact ⟨_, rfl, k⟩
    · rw [if_neg h] at k
      refine ⟨_, rfl, _, rfl, _, _, rfl, rfl, _, rfl, iteP (fun h2 => ?_) fun h2 => ?_⟩
      · rw [if_pos h2] at k
        exact k
      · rw [if_neg h2] at k
        exact k
end
end K01
namespace K01
open PySem PySem.Spec PyProof.Rows L2 Sw
section
variable {P : Program} {w : World} {K : PySem.W.Frag} {mg : Str → Option Value} {base : Heap}
theorem den_ok {d e : Int} (f1 : 0 < d) (f2 : 0 < e) (bd : Bg d) (be : Bg e) : d * e ≠ 0 ∧ (d * e).natAbs < 2 ^ 8000 := ⟨Int.mul_ne_zero (by omega) (by omega), w6 (bd.mul be)⟩
theorem res_p {Q : VK} {H H1 : Hp} {r : Int × Int} (k : Res Q H r) (s : Same H H1) : ∀ p, H1 p = none → Q (.ref p) (upd H1 p (.tup [.int r.1, .int r.2])) := k.now s rfl
abbrev s_law_added : Stmt := topS 30
theorem sc__law_added : FnScope ["one", "other"] ["one", "other"] (defScope s_law_added) := ⟨rfl, rfl, rfl, by decide +kernel, rfl, by decide +kernel, by decide +kernel⟩
theorem ok__law_added {f : Addr} {fd : FuncData} (F : Fun K "_law_added" "_law_added" s_law_added f fd) (B : Bt mg) (c__law_reduced : CalG P w K mg base 2 "_law_reduced" spRed) : FnG P w K mg base 3 f fd ["one", "other"] (spTwo K addF) := by
  refine Fun.okG F sc__law_added spTwo_len (fun cdv A outer s H vs Q E hg hr h => ?_)
  obtain ⟨x, y, n, d, m, e, rfl, ⟨a, rfl, ha⟩, ⟨b, rfl, hb⟩, f1, f2, bn, bd, bm, be, k⟩ := h
  refine ⟨_, (pss_one (ps_ret (pc c__law_reduced hg hr (by decide) (by rfl) (pa_cons (pe_op op_add (pe_op op_mulW (pe_ix ix_tup (pv 0) pe_int (fun _ _ => rfl)) (pe_ix ix_tup (pv 1) pe_int (fun _ _ => rfl))) (pe_op op_mulW (pe_ix ix_tup (pv 1) pe_int (fun _ _ => rfl)) (pe_ix ix_tup (pv 0) pe_int (fun _ _ => rfl)))) (pa_cons (pe_op op_mulW (pe_ix ix_tup (pv 0) pe_int (fun _ _ => rfl)) (pe_ix ix_tup (pv 1) pe_int (fun _ _ => rfl))) pa_nil))))), ?_⟩
  refine ⟨_, rfl, a, _, 0, _, rfl, rfl, ha, atI_nat (j := 0) rfl, _, rfl, b, _, 1, _, rfl, rfl, hb, atI_nat (j := 1) rfl, _, _, rfl, rfl, mulW bn.w be.w, ?_⟩
  refine ⟨_, rfl, b, _, 0, _, rfl, rfl, hb, atI_nat (j := 0) rfl, _, rfl, a, _, 1, _, rfl, rfl, ha, atI_nat (j := 1) rfl, _, _, rfl, rfl, mulW bm.w bd.w, _, _, rfl, rfl, ?_⟩
  refine ⟨_, rfl, a, _, 1, _, rfl, rfl, ha, atI_nat (j := 1) rfl, _, rfl, b, _, 1, _, rfl, rfl, hb, atI_nat (j := 1) rfl, _, _, rfl, rfl, mulW bd.w be.w, ?_⟩
  obtain ⟨z1, z2⟩ := den_ok f1.pos f2.pos bd be
  exact ⟨_, _, rfl, z1, z2, res_p k (.refl H)⟩
abbrev s_law_lessened : Stmt := topS 31
theorem sc__law_lessened : FnScope ["one", "other"] ["one", "other"] (defScope s_law_lessened) := ⟨rfl, rfl, rfl, by decide +kernel, rfl, by decide +kernel, by decide +kernel⟩
theorem ok__law_lessened {f : Addr} {fd : FuncData} (F : Fun K "_law_lessened" "_law_lessened" s_law_lessened f fd) (B : Bt mg) (c__law_reduced : CalG P w K mg base 2 "_law_reduced" spRed) : FnG P w K mg base 3 f fd ["one", "other"] (spTwo K subF) := by
  refine Fun.okG F sc__law_lessened spTwo_len (fun cdv A outer s H vs Q E hg hr h => ?_)
  obtain ⟨x, y, n, d, m, e, rfl, ⟨a, rfl, ha⟩, ⟨b, rfl, hb⟩, f1, f2, bn, bd, bm, be, k⟩ := h
  refine ⟨_, (pss_one (ps_ret (pc c__law_reduced hg hr (by decide) (by rfl) (pa_cons (pe_op op_sub (pe_op op_mulW (pe_ix ix_tup (pv 0) pe_int (fun _ _ => rfl)) (pe_ix ix_tup (pv 1) pe_int (fun _ _ => rfl))) (pe_op op_mulW (pe_ix ix_tup (pv 1) pe_int (fun _ _ => rfl)) (pe_ix ix_tup (pv 0) pe_int (fun _ _ => rfl)))) (pa_cons (pe_op op_mulW (pe_ix ix_tup (pv 0) pe_int (fun _ _ => rfl)) (pe_ix ix_tup (pv 1) pe_int (fun _ _ => rfl))) pa_nil))))), ?_⟩
  refine ⟨_, rfl, a, _, 0, _, rfl, rfl, ha, atI_nat (j := 0) rfl, _, rfl, b, _, 1, _, rfl, rfl, hb, atI_nat (j := 1) rfl, _, _, rfl, rfl, mulW bn.w be.w, ?_⟩
  refine ⟨_, rfl, b, _, 0, _, rfl, rfl, hb, atI_nat (j := 0) rfl, _, rfl, a, _, 1, _, rfl, rfl, ha, atI_nat (j := 1) rfl, _, _, rfl, rfl, mulW bm.w bd.w, _, _, rfl, rfl, ?_⟩
  refine ⟨_, rfl, a, _, 1, _, rfl, rfl, ha, atI_nat (j := 1) rfl, _, rfl, b, _, 1, _, rfl, rfl, hb, atI_nat (j := 1) rfl, _, _, rfl, rfl, mulW bd.w be.w, ?_⟩
  obtain ⟨z1, z2⟩ := den_ok f1.pos f2.pos bd be
  exact ⟨_, _, rfl, z1, z2, res_p k (.refl H)⟩
abbrev s_law_multiplied : Stmt := topS 32
theorem sc__law_multiplied : FnScope ["one", "other"] ["one", "other"] (defScope s_law_multiplied) := ⟨rfl, rfl, rfl, by decide +kernel, rfl, by decide +kernel, by decide +kernel⟩
theorem ok__law_multiplied {f : Addr} {fd : FuncData} (F : Fun K "_law_multiplied" "_law_multiplied" s_law_multiplied f fd) (B : Bt mg) (c__law_reduced : CalG P w K mg base 2 "_law_reduced" spRed) : FnG P w K mg base 3 f fd ["one", "other"] (spTwo K mulF) := by
  refine Fun.okG F sc__law_multiplied spTwo_len (fun cdv A outer s H vs Q E hg hr h => ?_)
  obtain ⟨x, y, n, d, m, e, rfl, ⟨a, rfl, ha⟩, ⟨b, rfl, hb⟩, f1, f2, bn, bd, bm, be, k⟩ := h
  refine ⟨_, (pss_one (ps_ret (pc c__law_reduced hg hr (by decide) (by rfl) (pa_cons (pe_op op_mulW (pe_ix ix_tup (pv 0) pe_int (fun _ _ => rfl)) (pe_ix ix_tup (pv 1) pe_int (fun _ _ => rfl))) (pa_cons (pe_op op_mulW (pe_ix ix_tup (pv 0) pe_int (fun _ _ => rfl)) (pe_ix ix_tup (pv 1) pe_int (fun _ _ => rfl))) pa_nil))))), ?_⟩
  refine ⟨_, rfl, a, _, 0, _, rfl, rfl, ha, atI_nat (j := 0) rfl, _, rfl, b, _, 0, _, rfl, rfl, hb, atI_nat (j := 0) rfl, _, _, rfl, rfl, mulW bn.w bm.w, ?_⟩
  refine ⟨_, rfl, a, _, 1, _, rfl, rfl, ha, atI_nat (j := 1) rfl, _, rfl, b, _, 1, _, rfl, rfl, hb, atI_nat (j := 1) rfl, _, _, rfl, rfl, mulW bd.w be.w, ?_⟩
  obtain ⟨z1, z2⟩ := den_ok f1.pos f2.pos bd be
  exact ⟨_, _, rfl, z1, z2, res_p k (.refl H)⟩
abbrev s_law_divided : Stmt := topS 34
theorem sc__law_divided : FnScope ["one", "other"] ["one", "other"] (defScope s_law_divided) := ⟨rfl, rfl, rfl, by decide +kernel, rfl, by decide +kernel, by decide +kernel⟩
theorem ok__law_divided {f : Addr} {fd : FuncData} (F : Fun K "_law_divided" "_law_divided" s_law_divided f fd) (B : Bt mg) (c__law_reduced : CalG P w K mg base 2 "_law_reduced" spRed) : FnG P w K mg base 3 f fd ["one", "other"] (spDiv K) := by
  refine Fun.okG F sc__law_divided spDiv_len (fun cdv A outer s H vs Q E hg hr h => ?_)
  obtain ⟨x, y, n, d, m, e, rfl, ⟨a, rfl, ha⟩, ⟨b, rfl, hb⟩, f1, f2, bn, bd, bm, be, hm, k⟩ := h
  refine ⟨_, (pss_one (ps_ret (pc c__law_reduced hg hr (by decide) (by rfl) (pa_cons (pe_op op_mulW (pe_ix ix_tup (pv 0) pe_int (fun _ _ => rfl)) (pe_ix ix_tup (pv 1) pe_int (fun _ _ => rfl))) (pa_cons (pe_op op_mulW (pe_ix ix_tup (pv 0) pe_int (fun _ _ => rfl)) (pe_ix ix_tup (pv 1) pe_int (fun _ _ => rfl))) pa_nil))))), ?_⟩
  refine ⟨_, rfl, a, _, 0, _, rfl, rfl, ha, atI_nat (j := 0) rfl, _, rfl, b, _, 1, _, rfl, rfl, hb, atI_nat (j := 1) rfl, _, _, rfl, rfl, mulW bn.w be.w, ?_⟩
  refine ⟨_, rfl, a, _, 1, _, rfl, rfl, ha, atI_nat (j := 1) rfl, _, rfl, b, _, 0, _, rfl, rfl, hb, atI_nat (j := 0) rfl, _, _, rfl, rfl, mulW bd.w bm.w, ?_⟩
  exact ⟨_, _, rfl, Int.mul_ne_zero (by have := f1.pos; omega) hm, w6 (bd.mul bm), res_p k (.refl H)⟩
def spBelow (K : PySem.W.Frag) : Sp := fun vs H Q _ => ∃ (x y : V) (n d m e : Int), vs = [x, y] ∧ Cpl K H x n d ∧ Cpl K H y m e ∧ Bg n ∧ Bg d ∧ Bg m ∧ Bg e ∧ Q (.bl (decide (n * e < m * d))) H
abbrev s_law_is_below : Stmt := topS 33
theorem sc__law_is_below : FnScope ["one", "other"] ["one", "other"] (defScope s_law_is_below) := ⟨rfl, rfl, rfl, by decide +kernel, rfl, by decide +kernel, by decide +kernel⟩
theorem ok__law_is_below {f : Addr} {fd : FuncData} (F : Fun K "_law_is_below" "_law_is_below" s_law_is_below f fd) (B : Bt mg) : FnG P w K mg base 1 f fd ["one", "other"] (spBelow K) := by
  refine Fun.okG F sc__law_is_below (fun vs H Q E h => ?_) (fun cdv A outer s H vs Q E hg hr h => ?_)
  · obtain ⟨x, y, _, _, _, _, rfl, _⟩ := h
    rfl
  obtain ⟨x, y, n, d, m, e, rfl, ⟨a, rfl, ha⟩, ⟨b, rfl, hb⟩, bn, bd, bm, be, k⟩ := h
  refine ⟨_, (pss_one (ps_ret (pe_cmpR op_lt (pe_op op_mulW (pe_ix ix_tup (pv 0) pe_int (fun _ _ => rfl)) (pe_ix ix_tup (pv 1) pe_int (fun _ _ => rfl))) (pe_op op_mulW (pe_ix ix_tup (pv 1) pe_int (fun _ _ => rfl)) (pe_ix ix_tup (pv 0) pe_int (fun _ _ => rfl))) (nomark _)))), ?_⟩
  refine ⟨_, rfl, a, _, 0, _, rfl, rfl, ha, atI_nat (j := 0) rfl, _, rfl, b, _, 1, _, rfl, rfl, hb, atI_nat (j := 1) rfl, _, _, rfl, rfl, mulW bn.w be.w, ?_⟩
  exact ⟨_, rfl, b, _, 0, _, rfl, rfl, hb, atI_nat (j := 0) rfl, _, rfl, a, _, 1, _, rfl, rfl, ha, atI_nat (j := 1) rfl, _, _, rfl, rfl, mulW bm.w bd.w, _, _, rfl, rfl, k⟩
end
end K01
namespace K01
open PySem PySem.Spec PyProof.Rows L2 Sw
/-- a drawn FRACTION -/
structure SmF (f : Int × Int) : Prop where
  fr : Fr f.1 f.2
  n : f.1.natAbs ≤ 1000000000000
  d : f.2 ≤ 1000000000000
theorem pow_ge {a b : Nat} (h : a ≤ b) : (2 : Nat) ^ a ≤ 2 ^ b := Nat.pow_le_pow_right (by decide) h
theorem sm_lt {i : Int} (h : i.natAbs ≤ 1000000000000) : i.natAbs < 2 ^ 40 := Nat.lt_of_le_of_lt h (by decide)
theorem SmF.n40 {f : Int × Int} (h : SmF f) : f.1.natAbs < 2 ^ 40 := sm_lt h.n
theorem SmF.d40 {f : Int × Int} (h : SmF f) : f.2.natAbs < 2 ^ 40 := sm_lt (by have := h.d; have := h.fr.pos; omega)
theorem SmF.bn {f : Int × Int} (h : SmF f) : Bg f.1 := Nat.lt_of_lt_of_le h.n40 (pow_ge (by decide))
theorem SmF.bd {f : Int × Int} (h : SmF f) : Bg f.2 := Nat.lt_of_lt_of_le h.d40 (pow_ge (by decide))
def sumF (fs : List (Int × Int)) : Int × Int := fs.foldl (fun s f => addF s.1 s.2 f.1 f.2) (0, 1)
theorem sumF_snoc (fs : List (Int × Int)) (f : Int × Int) : sumF (fs ++ [f]) = addF (sumF fs).1 (sumF fs).2 f.1 f.2 := by
  unfold sumF
  rw [List.foldl_append]
  rfl
/-- how great a sum may be -/
structure TBd (i : Nat) (s : Int × Int) : Prop where
  fr : Fr s.1 s.2
  n : s.1.natAbs < 2 ^ (100 * (i + 1))
  d : s.2.natAbs < 2 ^ (100 * (i + 1))
theorem TBd.step {i : Nat} {s f : Int × Int} (h : TBd i s) (k : SmF f) : TBd (i + 1) (addF s.1 s.2 f.1 f.2) := by
  have h0 : s.2 * f.2 ≠ 0 := Int.mul_ne_zero (by have := h.fr.pos; omega) (by have := k.fr.pos; omega)
  obtain ⟨l1, l2⟩ := redI_le (x := s.1 * f.2 + f.1 * s.2) h0
  refine ⟨(redI_fr h0).1, Nat.lt_of_le_of_lt l1 ?_, Nat.lt_of_le_of_lt l2 ?_⟩
  · have a := natAbs_lt_mul h.n k.d40
    have b := natAbs_lt_mul k.n40 h.d
    rw [Nat.add_comm] at b
    exact Nat.lt_of_lt_of_le (natAbs_lt_add a b) (pow_ge (by omega))
  · exact Nat.lt_of_lt_of_le (natAbs_lt_mul h.d k.d40) (pow_ge (by omega))
theorem tb_zero : TBd 0 (0, 1) := ⟨⟨by decide, gI_cp.mp (by decide)⟩, by decide +kernel, by decide +kernel⟩
theorem TBd.bn {i : Nat} {s : Int × Int} (h : TBd i s) (hi : i ≤ 20) : Bg s.1 := Nat.lt_of_lt_of_le h.n (pow_ge (by omega))
theorem TBd.bd {i : Nat} {s : Int × Int} (h : TBd i s) (hi : i ≤ 20) : Bg s.2 := Nat.lt_of_lt_of_le h.d (pow_ge (by omega))
theorem tb_sum : ∀ (fs : List (Int × Int)) (i : Nat), (∀ f ∈ fs, SmF f) → i ≤ fs.length → TBd i (sumF (fs.take i))
  | fs, 0, _, _ => tb_zero
  | fs, i + 1, h, hi => by
    have e : fs.take (i + 1) = fs.take i ++ [fs[i]] := by
      rw [List.take_add_one, List.getElem?_eq_getElem (by omega)]
      rfl
    rw [e, sumF_snoc]
    exact (tb_sum fs i h (by omega)).step (h _ (List.getElem_mem (by omega)))
/-- a row of FRACTIONS, a list or a tuple -/
def RowAt (K : PySem.W.Frag) (H : Hp) (a : Addr) (fs : List (Int × Int)) : Prop := ∃ xs, (SqL K H a xs ∨ SqT K H a xs) ∧ RowF K H xs fs
def spTotal (K : PySem.W.Frag) : Sp := fun vs H Q _ => ∃ (a : Addr) (fs : List (Int × Int)), vs = [.ref a] ∧ RowAt K H a fs ∧ (∀ f ∈ fs, SmF f) ∧ fs.length ≤ 10 ∧ ∀ v H', Same H H' → Cpl K H' v (sumF fs).1 (sumF fs).2 → Q v H'
theorem spTotal_len {K : PySem.W.Frag} {a : Str} : ∀ vs H Q E, spTotal K vs H Q E → vs.length = [a].length := fun vs H Q E h => by
  obtain ⟨_, _, rfl, _⟩ := h
  rfl
section
variable {P : Program} {w : World} {K : PySem.W.Frag} {mg : Str → Option Value} {base : Heap}
abbrev stotal : Stmt := topS 16
theorem sc_total : FnScope ["fractions", "summed", "one"] ["fractions"] (defScope stotal) := ⟨rfl, rfl, rfl, by decide +kernel, rfl, by decide +kernel, by decide +kernel⟩
theorem ok_total {f : Addr} {fd : FuncData} {z : Addr} (F : Fun K "total" "total" stotal f fd) (B : Bt mg) (TZ : ∃ u, mg "ZERO" = some u ∧ RelV (.ref z) u) (KZ : KTup K z [.int 0, .int 1]) (c_added : CalG P w K mg base 1 "added" (spTwo K addF)) : FnG P w K mg base 2 f fd ["fractions"] (spTotal K) := by
  refine Fun.okG F sc_total spTotal_len (fun cdv A outer s H vs Q E hg hr h => ?_)
  obtain ⟨a, fs, rfl, ⟨xs, hq, hr0⟩, hs, hl, k⟩ := h
  obtain ⟨uz, mz, rz⟩ := TZ
  have s0 : Same H H := .refl H
  have h0 : Cpl K H (.ref z) (sumF (fs.take 0)).1 (sumF (fs.take 0)).2 := ⟨z, rfl, .inr KZ⟩
  rcases hq with hq | hq
  · refine ⟨_, (pss_cons (ps_set (i := 1) sc_total.nd rfl (Or.inl rfl) (pe_glob (v := .ref z) (by rfl) mz rz))
      (pss_cons (ps_for PassesOwn.never rfl (pi_list (pv 0)) (pg_name (i := 2) sc_total.nd rfl (Or.inl rfl))
        (pss_one (ps_set (i := 1) sc_total.nd rfl (Or.inl rfl) (pc c_added hg hr (by decide) (by rfl) (pa_cons (pv 1) (pa_cons (pv 2) pa_nil))))))
      (pss_one (ps_ret (pv 1))))), ?_⟩
    refine ⟨_, rfl, a, rfl, ⟨_, s0.seq hq⟩, for_it (walk_list (K := K) (xs := xs) (a := a)) (fun i σ H' => ∃ v o, σ = [some (.ref a), some v, o] ∧ Same H H' ∧ Cpl K H' v (sumF (fs.take i)).1 (sumF (fs.take i)).2) ⟨_, _, rfl, s0, h0⟩ (fun i σ H' _ h => by
      obtain ⟨_, _, _, s, _⟩ := h
      exact s.seq hq) (fun i x σ H1 H2 hi h y => ?_) fun σ H1 h => ?_⟩
    · obtain ⟨v, o, rfl, s, hv⟩ := h
      obtain ⟨rfl, hx⟩ := y
      obtain ⟨g, eg, hg1⟩ := hr0.get hx
      have tb := tb_sum fs i hs (by rw [← hr0.len]; omega)
      have sm := hs g (List.mem_of_getElem? eg)
      have hl2 : i ≤ 20 := by rw [hr0.len] at hi; omega
      refine ⟨_, rfl, _, rfl, v, x, (sumF (fs.take i)).1, (sumF (fs.take i)).2, g.1, g.2, rfl, hv, hg1.same s, tb.fr, sm.fr, tb.bn hl2, tb.bd hl2, sm.bn, sm.bd, fun p H3 s3 _ hp => ?_⟩
      have e : fs.take (i + 1) = fs.take i ++ [g] := by
        rw [List.take_add_one, eg]
        rfl
      refine ⟨_, _, rfl, s.trans s3, ?_⟩
      rw [e, sumF_snoc]
      exact .mk hp
    · obtain ⟨v, o, rfl, s, hv⟩ := h
      rw [hr0.len, List.take_length] at hv
      exact ⟨_, rfl, k v _ s hv⟩
  · refine ⟨_, (pss_cons (ps_set (i := 1) sc_total.nd rfl (Or.inl rfl) (pe_glob (v := .ref z) (by rfl) mz rz))
      (pss_cons (ps_for PassesOwn.never rfl (pi_tup (pv 0)) (pg_name (i := 2) sc_total.nd rfl (Or.inl rfl))
        (pss_one (ps_set (i := 1) sc_total.nd rfl (Or.inl rfl) (pc c_added hg hr (by decide) (by rfl) (pa_cons (pv 1) (pa_cons (pv 2) pa_nil))))))
      (pss_one (ps_ret (pv 1))))), ?_⟩
    refine ⟨_, rfl, a, rfl, ⟨_, s0.seqT hq⟩, for_it (walk_tup (K := K) (xs := xs) (a := a)) (fun i σ H' => ∃ v o, σ = [some (.ref a), some v, o] ∧ Same H H' ∧ Cpl K H' v (sumF (fs.take i)).1 (sumF (fs.take i)).2) ⟨_, _, rfl, s0, h0⟩ (fun i σ H' _ h => by
      obtain ⟨_, _, _, s, _⟩ := h
      exact s.seqT hq) (fun i x σ H1 H2 hi h y => ?_) fun σ H1 h => ?_⟩
    · obtain ⟨v, o, rfl, s, hv⟩ := h
      obtain ⟨rfl, hx⟩ := y
      obtain ⟨g, eg, hg1⟩ := hr0.get hx
      have tb := tb_sum fs i hs (by rw [← hr0.len]; omega)
      have sm := hs g (List.mem_of_getElem? eg)
      have hl2 : i ≤ 20 := by rw [hr0.len] at hi; omega
      refine ⟨_, rfl, _, rfl, v, x, (sumF (fs.take i)).1, (sumF (fs.take i)).2, g.1, g.2, rfl, hv, hg1.same s, tb.fr, sm.fr, tb.bn hl2, tb.bd hl2, sm.bn, sm.bd, fun p H3 s3 _ hp => ?_⟩
      have e : fs.take (i + 1) = fs.take i ++ [g] := by
        rw [List.take_add_one, eg]
        rfl
      refine ⟨_, _, rfl, s.trans s3, ?_⟩
      rw [e, sumF_snoc]
      exact .mk hp
    · obtain ⟨v, o, rfl, s, hv⟩ := h
      rw [hr0.len, List.take_length] at hv
      exact ⟨_, rfl, k v _ s hv⟩
abbrev s_law_total : Stmt := topS 35
theorem sc__law_total : FnScope ["fractions", "found", "one"] ["fractions"] (defScope s_law_total) := ⟨rfl, rfl, rfl, by decide +kernel, rfl, by decide +kernel, by decide +kernel⟩
theorem ok__law_total {f : Addr} {fd : FuncData} (F : Fun K "_law_total" "_law_total" s_law_total f fd) (B : Bt mg) (c__law_added : CalG P w K mg base 3 "_law_added" (spTwo K addF)) : FnG P w K mg base 4 f fd ["fractions"] (spTotal K) := by
  refine Fun.okG F sc__law_total spTotal_len (fun cdv A outer s H vs Q E hg hr h => ?_)
  obtain ⟨a, fs, rfl, ⟨xs, hq, hr0⟩, hs, hl, k⟩ := h
  rcases hq with hq | hq
  · refine ⟨_, (pss_cons (ps_set (i := 1) sc__law_total.nd rfl (Or.inl rfl) (pe_tup (pa_cons pe_int (pa_cons pe_int pa_nil))))
      (pss_cons (ps_for PassesOwn.never rfl (pi_list (pv 0)) (pg_name (i := 2) sc__law_total.nd rfl (Or.inl rfl))
        (pss_one (ps_set (i := 1) sc__law_total.nd rfl (Or.inl rfl) (pc c__law_added hg hr (by decide) (by rfl) (pa_cons (pv 1) (pa_cons (pv 2) pa_nil))))))
      (pss_one (ps_ret (pv 1))))), ?_⟩
    refine ⟨by show 2 ≤ sizeLine; decide, fun p np => ?_⟩
    have s0 := same_upd (o := .tup [.int 0, .int 1]) np
    have h0 : Cpl K (upd H p (.tup [.int 0, .int 1])) (.ref p) (sumF (fs.take 0)).1 (sumF (fs.take 0)).2 := .mk upd_same
    refine ⟨_, rfl, a, rfl, ⟨_, s0.seq hq⟩, for_it (walk_list (K := K) (xs := xs) (a := a)) (fun i σ H' => ∃ v o, σ = [some (.ref a), some v, o] ∧ Same H H' ∧ Cpl K H' v (sumF (fs.take i)).1 (sumF (fs.take i)).2) ⟨_, _, rfl, s0, h0⟩ (fun i σ H' _ h => by
      obtain ⟨_, _, _, s, _⟩ := h
      exact s.seq hq) (fun i x σ H1 H2 hi h y => ?_) fun σ H1 h => ?_⟩
    · obtain ⟨v, o, rfl, s, hv⟩ := h
      obtain ⟨rfl, hx⟩ := y
      obtain ⟨g, eg, hg1⟩ := hr0.get hx
      have tb := tb_sum fs i hs (by rw [← hr0.len]; omega)
      have sm := hs g (List.mem_of_getElem? eg)
      have hl2 : i ≤ 20 := by rw [hr0.len] at hi; omega
      refine ⟨_, rfl, _, rfl, v, x, (sumF (fs.take i)).1, (sumF (fs.take i)).2, g.1, g.2, rfl, hv, hg1.same s, tb.fr, sm.fr, tb.bn hl2, tb.bd hl2, sm.bn, sm.bd, fun p H3 s3 _ hp => ?_⟩
      have e : fs.take (i + 1) = fs.take i ++ [g] := by
        rw [List.take_add_one, eg]
        rfl
      refine ⟨_, _, rfl, s.trans s3, ?_⟩
      rw [e, sumF_snoc]
      exact .mk hp
    · obtain ⟨v, o, rfl, s, hv⟩ := h
      rw [hr0.len, List.take_length] at hv
      exact ⟨_, rfl, k v _ s hv⟩
  · refine ⟨_, (pss_cons (ps_set (i := 1) sc__law_total.nd rfl (Or.inl rfl) (pe_tup (pa_cons pe_int (pa_cons pe_int pa_nil))))
      (pss_cons (ps_for PassesOwn.never rfl (pi_tup (pv 0)) (pg_name (i := 2) sc__law_total.nd rfl (Or.inl rfl))
        (pss_one (ps_set (i := 1) sc__law_total.nd rfl (Or.inl rfl) (pc c__law_added hg hr (by decide) (by rfl) (pa_cons (pv 1) (pa_cons (pv 2) pa_nil))))))
      (pss_one (ps_ret (pv 1))))), ?_⟩
    refine ⟨by show 2 ≤ sizeLine; decide, fun p np => ?_⟩
    have s0 := same_upd (o := .tup [.int 0, .int 1]) np
    have h0 : Cpl K (upd H p (.tup [.int 0, .int 1])) (.ref p) (sumF (fs.take 0)).1 (sumF (fs.take 0)).2 := .mk upd_same
    refine ⟨_, rfl, a, rfl, ⟨_, s0.seqT hq⟩, for_it (walk_tup (K := K) (xs := xs) (a := a)) (fun i σ H' => ∃ v o, σ = [some (.ref a), some v, o] ∧ Same H H' ∧ Cpl K H' v (sumF (fs.take i)).1 (sumF (fs.take i)).2) ⟨_, _, rfl, s0, h0⟩ (fun i σ H' _ h => by
      obtain ⟨_, _, _, s, _⟩ := h
      exact s.seqT hq) (fun i x σ H1 H2 hi h y => ?_) fun σ H1 h => ?_⟩
    · obtain ⟨v, o, rfl, s, hv⟩ := h
      obtain ⟨rfl, hx⟩ := y
      obtain ⟨g, eg, hg1⟩ := hr0.get hx
      have tb := tb_sum fs i hs (by rw [← hr0.len]; omega)
      have sm := hs g (List.mem_of_getElem? eg)
      have hl2 : i ≤ 20 := by rw [hr0.len] at hi; omega
      refine ⟨_, rfl, _, rfl, v, x, (sumF (fs.take i)).1, (sumF (fs.take i)).2, g.1, g.2, rfl, hv, hg1.same s, tb.fr, sm.fr, tb.bn hl2, tb.bd hl2, sm.bn, sm.bd, fun p H3 s3 _ hp => ?_⟩
      have e : fs.take (i + 1) = fs.take i ++ [g] := by
        rw [List.take_add_one, eg]
        rfl
      refine ⟨_, _, rfl, s.trans s3, ?_⟩
      rw [e, sumF_snoc]
      exact .mk hp
    · obtain ⟨v, o, rfl, s, hv⟩ := h
      rw [hr0.len, List.take_length] at hv
      exact ⟨_, rfl, k v _ s hv⟩
end
end K01
namespace K01
open PySem PySem.Spec PyProof.Rows L2 Sw
def LeF (f g : Int × Int) : Prop := f.1 * g.2 ≤ g.1 * f.2
theorem leF_trans {f g h : Int × Int} (pf : 0 < f.2) (pg : 0 < g.2) (ph : 0 < h.2) (a : LeF f g) (b : LeF g h) : LeF f h := by
  unfold LeF at *
  refine Int.le_of_mul_le_mul_right (?_ : f.1 * h.2 * g.2 ≤ h.1 * f.2 * g.2) pg
  calc f.1 * h.2 * g.2 = (f.1 * g.2) * h.2 := by rw [Int.mul_assoc, Int.mul_comm h.2, ← Int.mul_assoc]
    _ ≤ (g.1 * f.2) * h.2 := Int.mul_le_mul_of_nonneg_right a (Int.le_of_lt ph)
    _ = (g.1 * h.2) * f.2 := by rw [Int.mul_assoc, Int.mul_comm f.2, ← Int.mul_assoc]
    _ ≤ (h.1 * g.2) * f.2 := Int.mul_le_mul_of_nonneg_right b (Int.le_of_lt pf)
    _ = h.1 * f.2 * g.2 := by rw [Int.mul_assoc, Int.mul_comm g.2, ← Int.mul_assoc]
theorem leF_refl (f : Int × Int) : LeF f f := Int.le_refl _
theorem leF_anti {f g : Int × Int} (hf : Fr f.1 f.2) (hg : Fr g.1 g.2) (a : LeF f g) (b : LeF g f) : f = g := by
  obtain ⟨e1, e2⟩ := fr_eq hf hg (Int.le_antisymm a b)
  exact Prod.ext e1 e2
theorem cmp_neg {f g : Int × Int} : (cmpF f.1 f.2 g.1 g.2 < 0) ↔ ¬ LeF g f := by
  unfold cmpF LeF
  split
  · omega
  · split <;> omega
theorem cmp_pos {f g : Int × Int} : (cmpF f.1 f.2 g.1 g.2 > 0) ↔ ¬ LeF f g := by
  unfold cmpF LeF
  split
  · omega
  · split <;> omega
def spEnd (K : PySem.W.Frag) (R : Int × Int → Int × Int → Prop) : Sp := fun vs H Q _ => ∃ (a : Addr) (fs : List (Int × Int)), vs = [.ref a] ∧ RowAt K H a fs ∧ (∀ f ∈ fs, SmF f) ∧ 0 < fs.length ∧ ∀ v f H', Same H H' → Cpl K H' v f.1 f.2 → f ∈ fs → (∀ g ∈ fs, R f g) → Q v H'
theorem spEnd_len {K : PySem.W.Frag} {R : Int × Int → Int × Int → Prop} {a : Str} : ∀ vs H Q E, spEnd K R vs H Q E → vs.length = [a].length := fun vs H Q E h => by
  obtain ⟨_, _, rfl, _⟩ := h
  rfl
section
variable {P : Program} {w : World} {K : PySem.W.Frag} {mg : Str → Option Value} {base : Heap}
abbrev sleast_of : Stmt := topS 14
theorem sc_least_of : FnScope ["fractions", "least", "one"] ["fractions"] (defScope sleast_of) := ⟨rfl, rfl, rfl, by decide +kernel, rfl, by decide +kernel, by decide +kernel⟩
theorem ok_least_of {f : Addr} {fd : FuncData} (F : Fun K "least_of" "least_of" sleast_of f fd) (B : Bt mg) (c_compared : CalG P w K mg base 3 "compared" (spCmp K)) : FnG P w K mg base 4 f fd ["fractions"] (spEnd K LeF) := by
  refine Fun.okG F sc_least_of spEnd_len (fun cdv A outer s H vs Q E hg hr h => ?_)
  obtain ⟨a, fs, rfl, ⟨xs, hq, hr0⟩, hs, hl, k⟩ := h
  have hl2 : 0 < xs.length := by rw [hr0.len]; exact hl
  obtain ⟨f0, e0, c0⟩ := hr0.get (List.getElem?_eq_getElem hl2)
  have ex0 : xs[0]? = some xs[0] := List.getElem?_eq_getElem hl2
  generalize xs[0] = x0 at ex0 c0
  rcases hq with hq | hq
  · refine ⟨_, (pss_cons (ps_set (i := 1) sc_least_of.nd rfl (Or.inl rfl) (pe_ix ix_list (pv 0) pe_int (fun _ _ => rfl)))
      (pss_cons (ps_for PassesOwn.never rfl (pi_list (pv 0)) (pg_name (i := 2) sc_least_of.nd rfl (Or.inl rfl))
        (pss_one (ps_if (pt_cmpR op_lt (pc c_compared hg hr (by decide) (by rfl) (pa_cons (pv 2) (pa_cons (pv 1) pa_nil))) pe_int (nomark _))
          (pss_one (ps_set (i := 1) sc_least_of.nd rfl (Or.inl rfl) (pv 2)))
          pss_nil)))
      (pss_one (ps_ret (pv 1))))), ?_⟩
    refine ⟨_, rfl, a, _, 0, x0, rfl, rfl, hq, atI_nat (j := 0) ex0, ?_⟩
    refine ⟨_, rfl, a, rfl, ⟨_, hq⟩, for_it (walk_list (K := K) (xs := xs) (a := a)) (fun i σ H' => ∃ v f o, σ = [some (.ref a), some v, o] ∧ Same H H' ∧ Cpl K H' v f.1 f.2 ∧ f ∈ fs ∧ ∀ g ∈ fs.take i, LeF f g) ⟨_, f0, _, rfl, .refl H, c0, List.mem_of_getElem? e0, fun g hg => by simp at hg⟩ (fun i σ H' _ h => by
      obtain ⟨_, _, _, _, sm, _⟩ := h
      exact sm.seq hq) (fun i x σ H1 H2 hi h y => ?_) fun σ H1 h => ?_⟩
    · obtain ⟨v, f, o, rfl, sm, hv, hf, hm⟩ := h
      obtain ⟨rfl, hx⟩ := y
      obtain ⟨g, eg, hg1⟩ := hr0.get hx
      have sg := hs g (List.mem_of_getElem? eg)
      have sf := hs f hf
      have et : fs.take (i + 1) = fs.take i ++ [g] := by
        rw [List.take_add_one, eg]
        rfl
      refine ⟨_, rfl, _, rfl, x, v, g.1, g.2, f.1, f.2, rfl, hg1.same sm, hv, sg.bn, sg.bd, sf.bn, sf.bd, sg.fr.pos, sf.fr.pos, fun H3 s3 => ⟨_, _, rfl, rfl, _, rfl, iteP (fun hc => ?_) fun hc => ?_⟩⟩
      · refine ⟨_, rfl, _, g, _, rfl, sm.trans s3, (hg1.same sm).same s3, List.mem_of_getElem? eg, fun h hh => ?_⟩
        have nle := cmp_neg.mp hc
        have lt : LeF g f := by
          unfold LeF at *
          omega
        rw [et, List.mem_append] at hh
        rcases hh with hh | hh
        · have sh := hs h (List.mem_of_mem_take hh)
          exact leF_trans sg.fr.pos sf.fr.pos sh.fr.pos lt (hm h hh)
        · rw [List.mem_singleton.mp hh]
          exact leF_refl g
      · refine ⟨_, f, _, rfl, sm.trans s3, hv.same s3, hf, fun h hh => ?_⟩
        have nle : LeF f g := Classical.not_not.mp fun z => hc (cmp_neg.mpr z)
        rw [et, List.mem_append] at hh
        rcases hh with hh | hh
        · exact hm h hh
        · rw [List.mem_singleton.mp hh]
          exact nle
    · obtain ⟨v, f, o, rfl, sm, hv, hf, hm⟩ := h
      rw [hr0.len, List.take_length] at hm
      exact ⟨_, rfl, k v f _ sm hv hf hm⟩
  · refine ⟨_, (pss_cons (ps_set (i := 1) sc_least_of.nd rfl (Or.inl rfl) (pe_ix ix_tup (pv 0) pe_int (fun _ _ => rfl)))
      (pss_cons (ps_for PassesOwn.never rfl (pi_tup (pv 0)) (pg_name (i := 2) sc_least_of.nd rfl (Or.inl rfl))
        (pss_one (ps_if (pt_cmpR op_lt (pc c_compared hg hr (by decide) (by rfl) (pa_cons (pv 2) (pa_cons (pv 1) pa_nil))) pe_int (nomark _))
          (pss_one (ps_set (i := 1) sc_least_of.nd rfl (Or.inl rfl) (pv 2)))
          pss_nil)))
      (pss_one (ps_ret (pv 1))))), ?_⟩
    refine ⟨_, rfl, a, _, 0, x0, rfl, rfl, hq, atI_nat (j := 0) ex0, ?_⟩
    refine ⟨_, rfl, a, rfl, ⟨_, hq⟩, for_it (walk_tup (K := K) (xs := xs) (a := a)) (fun i σ H' => ∃ v f o, σ = [some (.ref a), some v, o] ∧ Same H H' ∧ Cpl K H' v f.1 f.2 ∧ f ∈ fs ∧ ∀ g ∈ fs.take i, LeF f g) ⟨_, f0, _, rfl, .refl H, c0, List.mem_of_getElem? e0, fun g hg => by simp at hg⟩ (fun i σ H' _ h => by
      obtain ⟨_, _, _, _, sm, _⟩ := h
      exact sm.seqT hq) (fun i x σ H1 H2 hi h y => ?_) fun σ H1 h => ?_⟩
    · obtain ⟨v, f, o, rfl, sm, hv, hf, hm⟩ := h
      obtain ⟨rfl, hx⟩ := y
      obtain ⟨g, eg, hg1⟩ := hr0.get hx
      have sg := hs g (List.mem_of_getElem? eg)
      have sf := hs f hf
      have et : fs.take (i + 1) = fs.take i ++ [g] := by
        rw [List.take_add_one, eg]
        rfl
      refine ⟨_, rfl, _, rfl, x, v, g.1, g.2, f.1, f.2, rfl, hg1.same sm, hv, sg.bn, sg.bd, sf.bn, sf.bd, sg.fr.pos, sf.fr.pos, fun H3 s3 => ⟨_, _, rfl, rfl, _, rfl, iteP (fun hc => ?_) fun hc => ?_⟩⟩
      · refine ⟨_, rfl, _, g, _, rfl, sm.trans s3, (hg1.same sm).same s3, List.mem_of_getElem? eg, fun h hh => ?_⟩
        have nle := cmp_neg.mp hc
        have lt : LeF g f := by
          unfold LeF at *
          omega
        rw [et, List.mem_append] at hh
        rcases hh with hh | hh
        · have sh := hs h (List.mem_of_mem_take hh)
          exact leF_trans sg.fr.pos sf.fr.pos sh.fr.pos lt (hm h hh)
        · rw [List.mem_singleton.mp hh]
          exact leF_refl g
      · refine ⟨_, f, _, rfl, sm.trans s3, hv.same s3, hf, fun h hh => ?_⟩
        have nle : LeF f g := Classical.not_not.mp fun z => hc (cmp_neg.mpr z)
        rw [et, List.mem_append] at hh
        rcases hh with hh | hh
        · exact hm h hh
        · rw [List.mem_singleton.mp hh]
          exact nle
    · obtain ⟨v, f, o, rfl, sm, hv, hf, hm⟩ := h
      rw [hr0.len, List.take_length] at hm
      exact ⟨_, rfl, k v f _ sm hv hf hm⟩
abbrev sgreatest_of : Stmt := topS 15
theorem sc_greatest_of : FnScope ["fractions", "most", "one"] ["fractions"] (defScope sgreatest_of) := ⟨rfl, rfl, rfl, by decide +kernel, rfl, by decide +kernel, by decide +kernel⟩
theorem ok_greatest_of {f : Addr} {fd : FuncData} (F : Fun K "greatest_of" "greatest_of" sgreatest_of f fd) (B : Bt mg) (c_compared : CalG P w K mg base 3 "compared" (spCmp K)) : FnG P w K mg base 4 f fd ["fractions"] (spEnd K (fun f g => LeF g f)) := by
  refine Fun.okG F sc_greatest_of spEnd_len (fun cdv A outer s H vs Q E hg hr h => ?_)
  obtain ⟨a, fs, rfl, ⟨xs, hq, hr0⟩, hs, hl, k⟩ := h
  have hl2 : 0 < xs.length := by rw [hr0.len]; exact hl
  obtain ⟨f0, e0, c0⟩ := hr0.get (List.getElem?_eq_getElem hl2)
  have ex0 : xs[0]? = some xs[0] := List.getElem?_eq_getElem hl2
  generalize xs[0] = x0 at ex0 c0
  rcases hq with hq | hq
  · refine ⟨_, (pss_cons (ps_set (i := 1) sc_greatest_of.nd rfl (Or.inl rfl) (pe_ix ix_list (pv 0) pe_int (fun _ _ => rfl)))
      (pss_cons (ps_for PassesOwn.never rfl (pi_list (pv 0)) (pg_name (i := 2) sc_greatest_of.nd rfl (Or.inl rfl))
        (pss_one (ps_if (pt_cmpR op_gt (pc c_compared hg hr (by decide) (by rfl) (pa_cons (pv 2) (pa_cons (pv 1) pa_nil))) pe_int (nomark _))
          (pss_one (ps_set (i := 1) sc_greatest_of.nd rfl (Or.inl rfl) (pv 2)))
          pss_nil)))
      (pss_one (ps_ret (pv 1))))), ?_⟩
    refine ⟨_, rfl, a, _, 0, x0, rfl, rfl, hq, atI_nat (j := 0) ex0, ?_⟩
    refine ⟨_, rfl, a, rfl, ⟨_, hq⟩, for_it (walk_list (K := K) (xs := xs) (a := a)) (fun i σ H' => ∃ v f o, σ = [some (.ref a), some v, o] ∧ Same H H' ∧ Cpl K H' v f.1 f.2 ∧ f ∈ fs ∧ ∀ g ∈ fs.take i, (fun f g => LeF g f) f g) ⟨_, f0, _, rfl, .refl H, c0, List.mem_of_getElem? e0, fun g hg => by simp at hg⟩ (fun i σ H' _ h => by
      obtain ⟨_, _, _, _, sm, _⟩ := h
      exact sm.seq hq) (fun i x σ H1 H2 hi h y => ?_) fun σ H1 h => ?_⟩
    · obtain ⟨v, f, o, rfl, sm, hv, hf, hm⟩ := h
      obtain ⟨rfl, hx⟩ := y
      obtain ⟨g, eg, hg1⟩ := hr0.get hx
      have sg := hs g (List.mem_of_getElem? eg)
      have sf := hs f hf
      have et : fs.take (i + 1) = fs.take i ++ [g] := by
        rw [List.take_add_one, eg]
        rfl
      refine ⟨_, rfl, _, rfl, x, v, g.1, g.2, f.1, f.2, rfl, hg1.same sm, hv, sg.bn, sg.bd, sf.bn, sf.bd, sg.fr.pos, sf.fr.pos, fun H3 s3 => ⟨_, _, rfl, rfl, _, rfl, iteP (fun hc => ?_) fun hc => ?_⟩⟩
      · refine ⟨_, rfl, _, g, _, rfl, sm.trans s3, (hg1.same sm).same s3, List.mem_of_getElem? eg, fun h hh => ?_⟩
        have nle := cmp_pos.mp hc
        have lt : (fun f g => LeF g f) g f := by
          unfold LeF at *
          omega
        rw [et, List.mem_append] at hh
        rcases hh with hh | hh
        · have sh := hs h (List.mem_of_mem_take hh)
          exact leF_trans sh.fr.pos sf.fr.pos sg.fr.pos (hm h hh) lt
        · rw [List.mem_singleton.mp hh]
          exact leF_refl g
      · refine ⟨_, f, _, rfl, sm.trans s3, hv.same s3, hf, fun h hh => ?_⟩
        have nle : (fun f g => LeF g f) f g := Classical.not_not.mp fun z => hc (cmp_pos.mpr z)
        rw [et, List.mem_append] at hh
        rcases hh with hh | hh
        · exact hm h hh
        · rw [List.mem_singleton.mp hh]
          exact nle
    · obtain ⟨v, f, o, rfl, sm, hv, hf, hm⟩ := h
      rw [hr0.len, List.take_length] at hm
      exact ⟨_, rfl, k v f _ sm hv hf hm⟩
  · refine ⟨_, (pss_cons (ps_set (i := 1) sc_greatest_of.nd rfl (Or.inl rfl) (pe_ix ix_tup (pv 0) pe_int (fun _ _ => rfl)))
      (pss_cons (ps_for PassesOwn.never rfl (pi_tup (pv 0)) (pg_name (i := 2) sc_greatest_of.nd rfl (Or.inl rfl))
        (pss_one (ps_if (pt_cmpR op_gt (pc c_compared hg hr (by decide) (by rfl) (pa_cons (pv 2) (pa_cons (pv 1) pa_nil))) pe_int (nomark _))
          (pss_one (ps_set (i := 1) sc_greatest_of.nd rfl (Or.inl rfl) (pv 2)))
          pss_nil)))
      (pss_one (ps_ret (pv 1))))), ?_⟩
    refine ⟨_, rfl, a, _, 0, x0, rfl, rfl, hq, atI_nat (j := 0) ex0, ?_⟩
    refine ⟨_, rfl, a, rfl, ⟨_, hq⟩, for_it (walk_tup (K := K) (xs := xs) (a := a)) (fun i σ H' => ∃ v f o, σ = [some (.ref a), some v, o] ∧ Same H H' ∧ Cpl K H' v f.1 f.2 ∧ f ∈ fs ∧ ∀ g ∈ fs.take i, (fun f g => LeF g f) f g) ⟨_, f0, _, rfl, .refl H, c0, List.mem_of_getElem? e0, fun g hg => by simp at hg⟩ (fun i σ H' _ h => by
      obtain ⟨_, _, _, _, sm, _⟩ := h
      exact sm.seqT hq) (fun i x σ H1 H2 hi h y => ?_) fun σ H1 h => ?_⟩
    · obtain ⟨v, f, o, rfl, sm, hv, hf, hm⟩ := h
      obtain ⟨rfl, hx⟩ := y
      obtain ⟨g, eg, hg1⟩ := hr0.get hx
      have sg := hs g (List.mem_of_getElem? eg)
      have sf := hs f hf
      have et : fs.take (i + 1) = fs.take i ++ [g] := by
        rw [List.take_add_one, eg]
        rfl
      refine ⟨_, rfl, _, rfl, x, v, g.1, g.2, f.1, f.2, rfl, hg1.same sm, hv, sg.bn, sg.bd, sf.bn, sf.bd, sg.fr.pos, sf.fr.pos, fun H3 s3 => ⟨_, _, rfl, rfl, _, rfl, iteP (fun hc => ?_) fun hc => ?_⟩⟩
      · refine ⟨_, rfl, _, g, _, rfl, sm.trans s3, (hg1.same sm).same s3, List.mem_of_getElem? eg, fun h hh => ?_⟩
        have nle := cmp_pos.mp hc
        have lt : (fun f g => LeF g f) g f := by
          unfold LeF at *
          omega
        rw [et, List.mem_append] at hh
        rcases hh with hh | hh
        · have sh := hs h (List.mem_of_mem_take hh)
          exact leF_trans sh.fr.pos sf.fr.pos sg.fr.pos (hm h hh) lt
        · rw [List.mem_singleton.mp hh]
          exact leF_refl g
      · refine ⟨_, f, _, rfl, sm.trans s3, hv.same s3, hf, fun h hh => ?_⟩
        have nle : (fun f g => LeF g f) f g := Classical.not_not.mp fun z => hc (cmp_pos.mpr z)
        rw [et, List.mem_append] at hh
        rcases hh with hh | hh
        · exact hm h hh
        · rw [List.mem_singleton.mp hh]
          exact nle
    · obtain ⟨v, f, o, rfl, sm, hv, hf, hm⟩ := h
      rw [hr0.len, List.take_length] at hm
      exact ⟨_, rfl, k v f _ sm hv hf hm⟩
end
end K01
namespace K01
open PySem PySem.Spec PyProof.Rows L2 Sw
def below (o g : Int × Int) : Bool := decide (g.1 * o.2 < o.1 * g.2)
def Srt (gs : List (Int × Int)) : Prop := gs.Pairwise fun f g => ¬ LeF g f
theorem below_iff {o g : Int × Int} : below o g = true ↔ ¬ LeF o g := by
  unfold below LeF
  rw [decide_eq_true_eq]
  omega
/-- those below stand ahead -/
theorem cut_at (o : Int × Int) (po : 0 < o.2) : ∀ gs : List (Int × Int), Srt gs → (∀ g ∈ gs, 0 < g.2) → (∀ g ∈ gs.take (gs.filter (below o)).length, below o g = true) ∧ (∀ g ∈ gs.drop (gs.filter (below o)).length, below o g = false)
  | [], _, _ => ⟨fun g h => (by simp at h), fun g h => (by simp at h)⟩
  | x :: gs, hs, hp => by
    have hs' := List.pairwise_cons.mp hs
    obtain ⟨i1, i2⟩ := cut_at o po gs hs'.2 fun g h => hp g (List.mem_cons_of_mem _ h)
    have px := hp x List.mem_cons_self
    cases hx : below o x with
    | true =>
      rw [List.filter_cons_of_pos (by rw [hx])]
      refine ⟨fun g h => ?_, fun g h => ?_⟩
      · rw [List.length_cons, List.take_succ_cons] at h
        rcases List.mem_cons.mp h with rfl | h
        · exact hx
        · exact i1 g h
      · rw [List.length_cons, List.drop_succ_cons] at h
        exact i2 g h
    | false =>
      have all : ∀ g ∈ gs, below o g = false := fun g h => by
        refine Bool.eq_false_iff.mpr fun z => below_iff.mp z ?_
        have ox : LeF o x := Classical.not_not.mp fun q => by
          rw [below_iff.mpr q] at hx
          cases hx
        have xg : LeF x g := by
          have := hs'.1 g h
          unfold LeF at *
          omega
        exact leF_trans po px (hp g (List.mem_cons_of_mem _ h)) ox xg
      have e : (x :: gs).filter (below o) = [] := by
        rw [List.filter_cons_of_neg (by rw [hx]; exact Bool.false_ne_true), List.filter_eq_nil_iff]
        intro g h z
        rw [all g h] at z
        cases z
      rw [e]
      refine ⟨fun g h => (by simp at h), fun g h => ?_⟩
      rcases List.mem_cons.mp h with rfl | h
      · exact hx
      · exact all g h
theorem Srt.ins {gs : List (Int × Int)} {o : Int × Int} (h : Srt gs) (c : Nat) (h1 : ∀ g ∈ gs.take c, ¬ LeF o g) (h2 : ∀ g ∈ gs.drop c, ¬ LeF g o) (po : 0 < o.2) (hp : ∀ g ∈ gs, 0 < g.2) : Srt (gs.take c ++ o :: gs.drop c) := by
  unfold Srt at *
  have e := h
  rw [← List.take_append_drop c gs] at e
  obtain ⟨a, b, d⟩ := List.pairwise_append.mp e
  refine List.pairwise_append.mpr ⟨a, List.pairwise_cons.mpr ⟨h2, b⟩, fun g hg k hk => ?_⟩
  rcases List.mem_cons.mp hk with rfl | hk
  · exact h1 g hg
  · exact d g hg k hk
def spAsc (K : PySem.W.Frag) : Sp := fun vs H Q _ => ∃ (a : Addr) (xs : List V) (fs : List (Int × Int)), vs = [.ref a] ∧ SqL K H a xs ∧ RowF K H xs fs ∧ (∀ f ∈ fs, SmF f) ∧ fs.length ≤ 10 ∧
  ∀ p H' ys gs, Same H H' → H' p = some (.lst ys) → RowF K H' ys gs → (∀ g ∈ gs, g ∈ fs) → (∀ g ∈ fs, g ∈ gs) → Srt gs → Q (.ref p) H'
section
variable {P : Program} {w : World} {K : PySem.W.Frag} {mg : Str → Option Value} {base : Heap}
abbrev s_law_ascending : Stmt := topS 36
theorem sc__law_ascending : FnScope ["fractions", "found", "one", "at", "other"] ["fractions"] (defScope s_law_ascending) := ⟨rfl, rfl, rfl, by decide +kernel, rfl, by decide +kernel, by decide +kernel⟩
theorem ok__law_ascending {f : Addr} {fd : FuncData} (F : Fun K "_law_ascending" "_law_ascending" s_law_ascending f fd) (B : Bt mg) (c__law_is_below : CalG P w K mg base 1 "_law_is_below" (spBelow K)) : FnG P w K mg base 2 f fd ["fractions"] (spAsc K) := by
  refine Fun.okG F sc__law_ascending (fun vs H Q E h => ?_) (fun cdv A outer s H vs Q E hg hr h => ?_)
  · obtain ⟨_, _, _, rfl, _⟩ := h
    rfl
  obtain ⟨a, xs, fs, rfl, hq, hr0, hs, hl, k⟩ := h
  have hu := Room.u64 hr
  refine ⟨_, (pss_cons (ps_set (i := 1) sc__law_ascending.nd rfl (Or.inl rfl) (pe_lst pa_nil))
    (pss_cons (ps_for PassesOwn.never rfl (pi_list (pv 0)) (pg_name (i := 2) sc__law_ascending.nd rfl (Or.inr rfl))
      (pss_cons (ps_set (i := 3) sc__law_ascending.nd rfl (Or.inl rfl) (pe_callB call_lenA (by rfl) B.len boot_len (pa_cons (pe_lc (own := [("other", 4)]) rfl sc__law_ascending.nd (pi_list (pv 1)) (blkOk_by (own := [("other", 4)]) (N := ["fractions", "found", "one", "at", "other"]) (sc := (defScope s_law_ascending)) (by decide +kernel)) (fun _ _ _ _ _ => (pg_name (i := 4) sc__law_ascending.nd rfl (Or.inl rfl))) (fun _ _ _ _ _ => (pts_one (pt_val (pc c__law_is_below hg hr (by decide) (by rfl) (pa_cons (pv 4) (pa_cons (pv 2) pa_nil)))))) (fun _ _ _ _ _ => pe_int)) pa_nil)))
      (pss_one (ps_if (PW.pt (pw_or (pt_cmpR op_eq (pv 3) (pe_callB call_lenA (by rfl) B.len boot_len (pa_cons (pv 1) pa_nil)) (nomark _)) (pw_or1 (pt_cmpR (op_neW hu) (pe_ix ix_list (pv 1) (pv 3) (fun _ _ => rfl)) (pv 2) (nomark _)))))
        (pss_one (ps_expr (pe_bm PySem.F.plainAttrs_list PySem.F.slot_list_insert PySem.F.type_list_insert mt_insert (pv 1) (pa_cons (pv 3) (pa_cons (pv 2) pa_nil)))))
        pss_nil))))
    (pss_one (ps_ret (pv 1))))), ?_⟩
  refine ⟨Nat.zero_le _, fun p np => ?_⟩
  have s0 := same_upd (o := .lst []) np
  refine ⟨_, rfl, a, rfl, ⟨_, s0.seq hq⟩, for_it (walk_list (K := K) (xs := xs) (a := a)) (fun i σ H' => ∃ o2 o3 ys gs, σ = [some (.ref a), some (.ref p), o2, o3, none] ∧ Same H H' ∧ H' p = some (.lst ys) ∧ RowF K H' ys gs ∧ (∀ g ∈ gs, g ∈ fs.take i) ∧ (∀ g ∈ fs.take i, g ∈ gs) ∧ Srt gs ∧ gs.length ≤ i)
    ⟨none, none, [], [], rfl, s0, upd_same, True.intro, (fun g h => nomatch h), (fun g h => by simp at h), .nil, Nat.le_refl _⟩ (fun i σ H' _ h => by
      obtain ⟨_, _, _, _, _, s, _⟩ := h
      exact s.seq hq) (fun i x σ H1 H2 hi h y => ?_) fun σ H1 h => ?_⟩
  · obtain ⟨o2, o3, ys, gs, rfl, s1, hp, hrow, g1, g2, srt, gl⟩ := h
    obtain ⟨rfl, hx⟩ := y
    obtain ⟨o, eo, co⟩ := hr0.get hx
    have om := List.mem_of_getElem? eo
    have so := hs o om
    have et : fs.take (i + 1) = fs.take i ++ [o] := by
      rw [List.take_add_one, eo]
      rfl
    have hi10 : i ≤ 10 := by rw [hr0.len] at hi; omega
    have co1 := co.same s1
    have gsm : ∀ g ∈ gs, SmF g := fun g h => hs g (List.mem_of_mem_take (g1 g h))
    -- at
    refine ⟨_, rfl, p, rfl, ⟨_, .inl (.inl hp)⟩, fun D nD => ?_⟩
    have nDp : p ≠ D := fun z => by
      rw [← z, hp] at nD
      cases nD
    refine lc_it (walk_list (K := K) (xs := ys) (a := p)) (fun j H' => Same H2 H' ∧ H' D = some (.lst (List.replicate ((gs.take j).filter (below o)).length (.int 1)))) ⟨same_upd nD, by rw [upd_same]; rfl⟩ (fun _ _ _ h => .inl (.inl (h.1 _ _ hp))) (fun j y H3 H4 hj h y' => ?_) fun H3 h => ?_
    · obtain ⟨h1, h2⟩ := h
      obtain ⟨rfl, hy⟩ := y'
      obtain ⟨g, eg, cg⟩ := hrow.get hy
      have sg := gsm g (List.mem_of_getElem? eg)
      have ej : gs.take (j + 1) = gs.take j ++ [g] := by
        rw [List.take_add_one, eg]
        rfl
      have hlen : ((gs.take j).filter (below o)).length ≤ 10 := Nat.le_trans (List.length_filter_le _ _) (by rw [List.length_take]; omega)
      refine ⟨rfl, _, rfl, _, rfl, y, x, g.1, g.2, o.1, o.2, rfl, cg.same h1, co1.same h1, sg.bn, sg.bd, so.bn, so.bd, _, rfl, ?_⟩
      show if below o g = true then _ else _
      have sD : ∀ {ob : HO}, Same H2 (upd H4 D ob) := fun {ob} q u e => by
        rw [upd_ne (ne_of_none e nD)]
        exact h1 q u e
      cases hb : below o g with
      | true =>
        refine iteT ⟨_, h2, Nat.lt_of_le_of_lt (by rw [List.length_replicate]; exact Nat.le_refl _) (small1000 (by omega)), sD, ?_⟩
        rw [upd_same, ej, List.filter_append, List.filter_cons_of_pos hb, List.length_append]
        show _ = some (HO.lst (List.replicate (_ + 1) _))
        rw [List.replicate_succ']
      | false =>
        refine iteF ⟨h1, ?_⟩
        rw [h2, ej, List.filter_append, List.filter_cons_of_neg (by rw [hb]; exact Bool.false_ne_true), List.filter_nil, List.append_nil]
    obtain ⟨h1, h2⟩ := h
    rw [hrow.len, List.take_length] at h2
    refine ⟨_, _, rfl, .inl ⟨_, .inl (.inl h2), rfl⟩, ?_⟩
    obtain ⟨t1, t2⟩ := cut_at o so.fr.pos gs srt fun g h => (gsm g h).fr.pos
    have cle : (gs.filter (below o)).length ≤ gs.length := List.length_filter_le _ _
    rw [List.length_replicate]
    generalize (gs.filter (below o)).length = c at t1 t2 cle
    have hp3 := h1 _ _ hp
    have hrow3 := hrow.same h1
    have co3 := co1.same h1
    have s3 := s1.trans h1
    -- found.insert
    have ins : (∀ g ∈ gs.drop c, ¬ LeF g o) → ∃ ys' gs', ys.take c ++ [x] ++ ys.drop c = ys' ∧ Same H (upd H3 p (.lst ys')) ∧ RowF K (upd H3 p (.lst ys')) ys' gs' ∧ (∀ g ∈ gs', g ∈ fs.take (i + 1)) ∧ (∀ g ∈ fs.take (i + 1), g ∈ gs') ∧ Srt gs' ∧ gs'.length ≤ i + 1 := fun hgt => by
      refine ⟨_, gs.take c ++ o :: gs.drop c, rfl, fun q u e => ?_, ?_, fun g h => ?_, fun g h => ?_, ?_, ?_⟩
      · rw [upd_ne (ne_of_none e np)]
        exact s3 q u e
      · have z := (RowF.ins co3 c hrow3).fut (fut_at (o' := .lst (ys.take c ++ [x] ++ ys.drop c)) hp3)
        have e : ys.take c ++ x :: ys.drop c = ys.take c ++ [x] ++ ys.drop c := by simp
        rw [e] at z
        exact z
      · rw [et]
        rcases List.mem_append.mp h with h | h
        · exact List.mem_append.mpr (.inl (g1 g (List.mem_of_mem_take h)))
        · rcases List.mem_cons.mp h with rfl | h
          · exact List.mem_append.mpr (.inr List.mem_cons_self)
          · exact List.mem_append.mpr (.inl (g1 g (List.mem_of_mem_drop h)))
      · rw [et] at h
        rcases List.mem_append.mp h with h | h
        · have z := g2 g h
          rw [← List.take_append_drop c gs] at z
          rcases List.mem_append.mp z with z | z
          · exact List.mem_append.mpr (.inl z)
          · exact List.mem_append.mpr (.inr (List.mem_cons_of_mem _ z))
        · rw [List.mem_singleton.mp h]
          exact List.mem_append.mpr (.inr List.mem_cons_self)
      · exact srt.ins c (fun g h => below_iff.mp (t1 g h)) hgt so.fr.pos fun g h => (gsm g h).fr.pos
      · rw [List.length_append, List.length_cons, List.length_take, List.length_drop]
        omega
    have put : (∀ g ∈ gs.drop c, ¬ LeF g o) → ∃ (l : Addr) (zs : List V) (j : Int) (y : V), V.ref p = .ref l ∧ [V.int (c : Int), x] = [.int j, y] ∧ H3 l = some (.lst zs) ∧ zs.length < sizeLine ∧ 0 ≤ j ∧ j < 2 ^ 63 ∧
        ∃ o2 o3 ys gs, [some (.ref a), some (.ref p), some x, some (.int (c : Int)), none] = [some (.ref a), some (.ref p), o2, o3, none] ∧ Same H (upd H3 l (.lst (zs.take j.toNat ++ [y] ++ zs.drop j.toNat))) ∧ (upd H3 l (.lst (zs.take j.toNat ++ [y] ++ zs.drop j.toNat))) p = some (.lst ys) ∧ RowF K (upd H3 l (.lst (zs.take j.toNat ++ [y] ++ zs.drop j.toNat))) ys gs ∧ (∀ g ∈ gs, g ∈ fs.take (i + 1)) ∧ (∀ g ∈ fs.take (i + 1), g ∈ gs) ∧ Srt gs ∧ gs.length ≤ i + 1 := fun hgt => by
      obtain ⟨ys', gs', e, z1, z2, z3, z4, z5, z6⟩ := ins hgt
      refine ⟨p, ys, c, x, rfl, rfl, hp3, small1000 (by rw [hrow.len]; omega), by omega, by omega, _, _, ys', gs', rfl, ?_⟩
      rw [Int.toNat_natCast, e]
      exact ⟨z1, upd_same, z2, z3, z4, z5, z6⟩
    refine ⟨_, rfl, _, rfl, _, ys.length, rfl, .inl ⟨_, .inl (.inl hp3), rfl⟩, rfl, _, rfl, iteEq (fun e => ?_) fun e => ?_⟩
    · -- at the end
      refine iteT ⟨_, rfl, .inl ⟨rfl, _, .inl (.inl hp3)⟩, _, rfl, _, rfl, ?_⟩
      refine put fun g h => ?_
      have : c = gs.length := by rw [hrow.len] at e; omega
      rw [this, List.drop_length] at h
      cases h
    · have hc : c < gs.length := by rw [hrow.len] at e; omega
      obtain ⟨v, ev, cv⟩ := hrow3.getD (List.getElem?_eq_getElem hc)
      have hgc : gs[c] ∈ gs.drop c := by
        rw [List.drop_eq_getElem_cons hc]
        exact List.mem_cons_self
      refine ⟨_, rfl, _, rfl, p, ys, c, v, rfl, rfl, .inl (.inl hp3), atI_nat ev, _, rfl, (fun _ => False), _, _, cv.dt, co3.dt, shaped_cpl _ _, shaped_cpl _ _, ?_⟩
      rw [eqv_cpl]
      refine ⟨_, rfl, iteN (fun z => ?_) fun z => ?_⟩
      · have ne : gs[c] ≠ o := fun q => by
          rw [decide_eq_false_iff_not] at z
          exact z (by rw [q])
        refine ⟨_, rfl, .inl ⟨rfl, _, .inl (.inl hp3)⟩, _, rfl, _, rfl, ?_⟩
        refine put fun g h hle => ?_
        have pc := (gsm _ (List.getElem_mem hc)).fr
        have nb := t2 _ hgc
        have ole : LeF o gs[c] := Classical.not_not.mp fun q => by
          rw [below_iff.mpr q] at nb
          cases nb
        rw [List.drop_eq_getElem_cons hc] at h
        rcases List.mem_cons.mp h with rfl | h
        · exact ne (leF_anti pc so.fr hle ole)
        · have sr := srt
          unfold Srt at sr
          rw [← List.take_append_drop c gs, List.drop_eq_getElem_cons hc] at sr
          have lt := (List.pairwise_cons.mp (List.pairwise_append.mp sr).2.1).1 g h
          have pg := (gsm g (List.mem_of_mem_drop h)).fr
          exact lt (leF_trans pg.pos so.fr.pos pc.pos hle ole)
      · have q : gs[c] = o := by
          have := of_decide_eq_true z
          exact Prod.ext (congrArg Prod.fst this) (congrArg Prod.snd this)
        have oin : o ∈ gs := by
          rw [← q]
          exact List.getElem_mem hc
        refine ⟨_, _, ys, gs, rfl, s3, hp3, hrow3, fun g h => ?_, fun g h => ?_, srt, by omega⟩
        · rw [et]
          exact List.mem_append.mpr (.inl (g1 g h))
        · rw [et] at h
          rcases List.mem_append.mp h with h | h
          · exact g2 g h
          · rw [List.mem_singleton.mp h]
            exact oin
  · obtain ⟨o2, o3, ys, gs, rfl, s1, hp, hrow, g1, g2, srt, _⟩ := h
    rw [hr0.len, List.take_length] at g1 g2
    exact ⟨_, rfl, k p _ ys gs s1 hp hrow g1 g2 srt⟩
end
end K01
namespace K01
open PySem PySem.Spec PyProof.Rows L2 Sw
def spFrac (K : PySem.W.Frag) : Sp := fun vs H Q _ => ∃ (b : Addr) (mu : Addr → Prop), vs = [.ref b] ∧ mu b ∧ BagAt H b ∧ MuOk mu H ∧ ∀ v H' f, SmF f → Rel b H H' → Cpl K H' v f.1 f.2 → Q v H'
theorem smF_num {n m : Int} (h : NumP n m) : SmF (n, m) ∧ 0 < n := by
  obtain ⟨h1, h2, h3, h4, h5⟩ := h
  exact ⟨⟨⟨by show 0 < m; omega, gI_cp.mp h5⟩, by show n.natAbs ≤ _; omega, by show m ≤ _; omega⟩, by omega⟩
section
variable {P : Program} {w : World} {K : PySem.W.Frag} {mg : Str → Option Value} {base : Heap}
abbrev s_law_any_fraction : Stmt := topS 37
theorem sc__law_any_fraction : FnScope ["bag", "one"] ["bag"] (defScope s_law_any_fraction) := ⟨rfl, rfl, rfl, by decide +kernel, rfl, by decide +kernel, by decide +kernel⟩
theorem ok__law_any_fraction {f : Addr} {fd : FuncData} (F : Fun K "_law_any_fraction" "_law_any_fraction" s_law_any_fraction f fd) (B : Bt mg) (c__law_take : CalG P w K mg base 1 "_law_take" spTake) (c__law_reduced : CalG P w K mg base 2 "_law_reduced" spRed) (c__law_number : CalG P w K mg base 3 "_law_number" (spNum K)) :
    FnG P w K mg base 4 f fd ["bag"] (spFrac K) := by
  refine Fun.okG F sc__law_any_fraction (fun vs H Q E h => ?_) (fun cdv A outer s H vs Q E hg hr h => ?_)
  · obtain ⟨_, _, rfl, _⟩ := h
    rfl
  obtain ⟨b, mu, rfl, hmu, hb, hM, k⟩ := h
  refine ⟨_, (pss_cons (ps_set (i := 1) sc__law_any_fraction.nd rfl (Or.inl rfl) (pc c__law_number hg hr (by decide) (by rfl) (pa_cons (pv 0) (pa_cons pe_int pa_nil))))
    (C8.pss_cut (ps_if (pt_cmpR op_eq (pc c__law_take hg hr (by decide) (by rfl) (pa_cons (pv 0) (pa_cons pe_int pa_nil))) pe_int (nomark _))
      (pss_one (ps_set (i := 1) sc__law_any_fraction.nd rfl (Or.inl rfl) (pc c__law_reduced hg hr (by decide) (by rfl) (pa_cons (pe_op op_sub (pe_op op_pow pe_int pe_int) (pc c__law_take hg hr (by decide) (by rfl) (pa_cons (pv 0) (pa_cons pe_int pa_nil)))) (pa_cons (pe_op op_add pe_int (pc c__law_take hg hr (by decide) (by rfl) (pa_cons (pv 0) (pa_cons (pe_op op_pow pe_int pe_int) pa_nil)))) pa_nil)))))
      pss_nil)
    (pss_cons (ps_if (pt_cmpR op_eq (pc c__law_take hg hr (by decide) (by rfl) (pa_cons (pv 0) (pa_cons pe_int pa_nil))) pe_int (nomark _))
      (pss_one (ps_ret (pe_tup (pa_cons pe_int (pa_cons pe_int pa_nil)))))
      pss_nil)
    (pss_one (ps_ret (pe_ifExp (pt_cmpR op_eq (pc c__law_take hg hr (by decide) (by rfl) (pa_cons (pv 0) (pa_cons pe_int pa_nil))) pe_int (nomark _)) (pe_tup (pa_cons (pe_un un_neg (pe_ix ix_tup (pv 1) pe_int (fun _ _ => rfl))) (pa_cons (pe_ix ix_tup (pv 1) pe_int (fun _ _ => rfl)) pa_nil))) (pv 1))))))), ?_⟩
  refine ⟨_, rfl, 20, by decide, by decide, b, mu, rfl, hmu, hb, hM, fun v H1 d hd R1 e1 _ => ?_⟩
  obtain ⟨n, m, rfl, hnm⟩ := hd
  obtain ⟨sm, pn⟩ := smF_num hnm
  refine ⟨fun σ H' => ∃ v f, σ = [some (.ref b), some v] ∧ Rel b H H' ∧ Cpl K H' v f.1 f.2 ∧ SmF f, ?_, ?_⟩
  · refine ⟨_, rfl, b, _, rfl, R1.bag, by decide, by decide, fun t H2 t0 t1 R2 => ⟨rfl, _, rfl, iteEq (fun _ => ?_) fun _ => ?_⟩⟩
    · refine ⟨_, _, rfl, rfl, ⟨by decide, by decide, by decide⟩, _, rfl, b, _, rfl, R2.bag, by decide, by decide, fun t2 H3 u0 u1 R3 => ⟨_, _, rfl, rfl, ?_⟩⟩
      refine ⟨_, rfl, _, _, rfl, rfl, ⟨by decide, by decide, by decide⟩, b, _, rfl, R3.bag, by decide, by decide, fun t3 H4 w0 w1 R4 => ⟨_, _, rfl, rfl, ?_⟩⟩
      have e12 : (10 : Int) ^ (12 : Int).toNat = 1000000000000 := by decide
      have e9 : (10 : Int) ^ (9 : Int).toNat = 1000000000 := by decide
      rw [e9] at w1
      rw [e12]
      have e40 : (2 : Nat) ^ 40 = 1099511627776 := by decide
      have big : (1 + t3).natAbs < 2 ^ 8000 := Nat.lt_of_lt_of_le (show (1 + t3).natAbs < 2 ^ 40 by omega) (pow_ge (by decide))
      refine ⟨_, _, rfl, by omega, big, fun p np => ?_⟩
      obtain ⟨q1, q2, q3, q4, q5⟩ := redI_pos (show 0 < 1000000000000 - t2 by omega) (show 0 < 1 + t3 by omega)
      exact ⟨_, redI (1000000000000 - t2) (1 + t3), rfl, ((((R1.trans R2).trans R3).trans R4).same (same_upd np)), .mk upd_same, ⟨⟨by omega, gI_cp.mp q5⟩, by omega, by omega⟩⟩
    · exact ⟨v, (n, m), rfl, R1.trans R2, (e1.fut (R2.fut hmu R1.bag)).cpl, sm⟩
  · rintro σ H2 ⟨v2, g, rfl, R2, cg, sg⟩
    refine ⟨_, rfl, b, _, rfl, R2.bag, by decide, by decide, fun t H3 t0 t1 R3 => ⟨rfl, _, rfl, iteEq (fun _ => ?_) fun _ => ?_⟩⟩
    · refine ⟨by show 2 ≤ sizeLine; decide, fun p np => ?_⟩
      exact k (.ref p) _ (0, 1) ⟨⟨by decide, gI_cp.mp (by decide)⟩, by decide, by decide⟩ ((R2.trans R3).same (same_upd np)) (.mk upd_same)
    · have cg3 := cg.fut (R3.fut (mu := fun a => a = b) rfl R2.bag)
      refine ⟨_, rfl, b, _, rfl, R3.bag, by decide, by decide, fun t4 H4 v0 v1 R4 => ⟨rfl, _, rfl, iteEq (fun _ => ?_) fun _ => ?_⟩⟩
      · have cg4 := cg3.fut (R4.fut (mu := fun a => a = b) rfl R3.bag)
        obtain ⟨a, rfl, ha⟩ := cg4
        refine ⟨_, rfl, a, _, 0, _, rfl, rfl, ha, atI_nat (j := 0) rfl, _, rfl, _, rfl, a, _, 1, _, rfl, rfl, ha, atI_nat (j := 1) rfl, by show 2 ≤ sizeLine; decide, fun p np => ?_⟩
        exact k (.ref p) _ (-g.1, g.2) ⟨sg.fr.neg, by have := sg.n; show (-g.1).natAbs ≤ _; omega, sg.d⟩ (((R2.trans R3).trans R4).same (same_upd np)) (.mk upd_same)
      · exact ⟨_, rfl, k v2 _ g sg ((R2.trans R3).trans R4) (cg3.fut (R4.fut (mu := fun a => a = b) rfl R3.bag))⟩
/-- a row of texts in another order -/
def spMixed : Sp := fun vs H Q _ => ∃ (b t : Addr) (us : List Str), vs = [.ref b, .ref t] ∧ BagAt H b ∧ t ≠ b ∧ H t = some (.lst (us.map V.str)) ∧ us.length ≤ 100 ∧ ∀ (p : Addr) (H' : Hp) (zs : List Str), Rel b H H' → H' p = some (.lst (zs.map V.str)) → (∀ z ∈ zs, z ∈ us) → Q (.ref p) H'
abbrev s_law_mixed : Stmt := topS 27
theorem sc__law_mixed : FnScope ["bag", "things", "found", "thing"] ["bag", "things"] (defScope s_law_mixed) := ⟨rfl, rfl, rfl, by decide +kernel, rfl, by decide +kernel, by decide +kernel⟩
theorem ok__law_mixed {f : Addr} {fd : FuncData} (F : Fun K "_law_mixed" "_law_mixed" s_law_mixed f fd) (B : Bt mg) (c__law_take : CalG P w K mg base 1 "_law_take" spTake) : FnG P w K mg base 2 f fd ["bag", "things"] spMixed := by
  refine Fun.okG F sc__law_mixed (fun vs H Q E h => ?_) (fun cdv A outer s H vs Q E hg hr h => ?_)
  · obtain ⟨_, _, _, rfl, _⟩ := h
    rfl
  obtain ⟨b, t, us, rfl, hb, htb, ht, hl, k⟩ := h
  refine ⟨_, (pss_cons (ps_set (i := 2) sc__law_mixed.nd rfl (Or.inl rfl) (pe_lst pa_nil))
    (pss_cons (ps_for PassesOwn.never rfl (pi_list (pv 1)) (pg_name (i := 3) sc__law_mixed.nd rfl (Or.inl rfl))
      (pss_one (ps_expr (pe_bm PySem.F.plainAttrs_list PySem.F.slot_list_insert PySem.F.type_list_insert mt_insert (pv 2) (pa_cons (pc c__law_take hg hr (by decide) (by rfl) (pa_cons (pv 0) (pa_cons (pe_op op_add (pe_callB call_lenA (by rfl) B.len boot_len (pa_cons (pv 2) pa_nil)) pe_int) pa_nil))) (pa_cons (pv 3) pa_nil))))))
    (pss_one (ps_ret (pv 2))))), ?_⟩
  refine ⟨Nat.zero_le _, fun p np => ?_⟩
  have npb : p ≠ b := fun z => by
    obtain ⟨_, _, _, _, _, q, _⟩ := hb
    rw [z, q] at np
    cases np
  have npt : t ≠ p := ne_of_none ht np
  obtain ⟨x0, y0, z0, l0, cs0, hb0, hl0, _⟩ := id hb
  have hL0 : BagL H b l0 := ⟨_, _, _, hb0⟩
  refine ⟨_, rfl, t, rfl, ⟨_, .inl (.inl (same_upd np _ _ ht))⟩, for_it (walk_list (K := K) (xs := us.map V.str) (a := t)) (fun i σ H' => ∃ (o : Option V) (zs : List Str), σ = [some (.ref b), some (.ref t), some (.ref p), o] ∧ Rel b H H' ∧ H' p = some (.lst (zs.map V.str)) ∧ (∀ z ∈ zs, z ∈ us) ∧ zs.length = i)
    ⟨none, [], rfl, .of_same hb (same_upd np), upd_same, (fun z h => nomatch h), rfl⟩ (fun i σ H' _ h => by
      obtain ⟨_, _, _, R, _⟩ := h
      exact .inl (.inl (R.keep _ _ htb ht))) (fun i x σ H1 H2 hi h y => ?_) fun σ H1 h => ?_⟩
  · obtain ⟨o, zs, rfl, R, hp, hz, hzl⟩ := h
    obtain ⟨rfl, hx⟩ := y
    rw [List.getElem?_map] at hx
    rw [List.length_map] at hi
    rw [List.getElem?_eq_getElem hi] at hx
    cases hx
    refine ⟨_, rfl, .inl ⟨rfl, _, .inl (.inl hp)⟩, _, rfl, _, rfl, _, (zs.map V.str).length, rfl, .inl ⟨_, .inl (.inl hp), rfl⟩, _, _, rfl, rfl, b, _, rfl, R.bag, by omega, by rw [List.length_map]; omega, fun c H3 c0 c1 R3 => ?_⟩
    have hp3 := R3.keep _ _ npb hp
    refine ⟨_, rfl, p, _, c, _, rfl, rfl, hp3, by rw [List.length_map]; exact small1000 (by omega), c0, by rw [List.length_map] at c1; omega, ?_⟩
    obtain ⟨cn, rfl⟩ : ∃ cn : Nat, c = (cn : Int) := ⟨c.toNat, by omega⟩
    rw [Int.toNat_natCast]
    refine ⟨_, zs.take cn ++ [us[i]] ++ zs.drop cn, rfl, ?_, ?_, fun z h => ?_, ?_⟩
    · have R13 := R.trans R3
      refine ⟨fun a u n e => ?_, fun l hL => ?_, ?_⟩
      · rw [upd_ne (ne_of_none e np)]
        exact R13.keep a u n e
      · obtain ⟨x, y, z, e⟩ := R13.cell l hL
        exact ⟨x, y, z, by rw [upd_ne npb.symm]; exact e⟩
      · obtain ⟨x, y, z, l, cs, q1, q2, q3, q4⟩ := R13.bag
        by_cases e : l = p
        · exfalso
          have el : l0 = l := (R13.cell l0 hL0).eq q1
          rw [el, e, np] at hl0
          cases hl0
        · exact ⟨x, y, z, l, cs, by rw [upd_ne npb.symm]; exact q1, by rw [upd_ne e]; exact q2, q3, q4⟩
    · rw [upd_same]
      simp only [List.map_append, List.map_take, List.map_drop, List.map_cons, List.map_nil]
    · rcases List.mem_append.mp h with h | h
      · rcases List.mem_append.mp h with h | h
        · exact hz z (List.mem_of_mem_take h)
        · rw [List.mem_singleton.mp h]
          exact List.getElem_mem hi
      · exact hz z (List.mem_of_mem_drop h)
    · rw [List.length_append, List.length_append, List.length_take, List.length_drop, List.length_singleton]
      rw [List.length_map] at c1
      omega
  · obtain ⟨o, zs, rfl, R, hp, hz, _⟩ := h
    exact ⟨_, rfl, k p _ zs R hp hz⟩
end
end K01
namespace K01
open PySem PySem.Spec PyProof.Rows L2 Sw
/-- the decimal text of an integer -/
def tI (n : Int) : Str := Str.ofString (toString n)
def fT (n d : Int) : Str := if d = 1 then tI n else tI n ++ "/" ++ tI d
theorem str_app (a b : String) : Str.ofString a ++ Str.ofString b = Str.ofString (a ++ b) := by
  show (⟨(Str.ofString a).cps ++ (Str.ofString b).cps⟩ : Str) = _
  rw [Str.ofString_eq_toList, Str.ofString_eq_toList, Str.ofString_eq_toList]
  simp
theorem tI_neg {n : Int} (h : n < 0) : ("-" : Str) ++ tI (-n) = tI n := by
  unfold tI
  have e := toString_neg h
  rw [show (0 : Int) - n = -n by omega] at e
  rw [e]
  exact str_app "-" (toString (-n))
theorem tI_len {n : Int} (h : n.natAbs ≤ 1000000000000) : (tI n).length ≤ 60 := by
  have e := int_text_length_le10 (k := 40) (by decide) (show n.natAbs < 10 ^ 40 from Nat.lt_of_le_of_lt h (by decide))
  unfold tI
  rw [PySem.ofString_length]
  omega
theorem log_sm {i : Int} (h : i.natAbs ≤ 1000000000000) : i.natAbs.log2 < 1920 := by
  by_cases hz : i.natAbs = 0
  · rw [hz]
    decide
  · exact Nat.lt_trans ((Nat.log2_lt hz).mpr (sm_lt h)) (by decide)
theorem join_one' (x : Str) : Txt.join "" [x].reverse = x := by
  unfold Txt.join
  first
    | rfl
    | (simp [Builtin.Str.glued])
section
variable {P : Program} {w : World} {K : PySem.W.Frag} {mg : Str → Option Value} {base : Heap}
def spIText : Sp := fun vs H Q _ => ∃ n : Int, vs = [.int n] ∧ n.natAbs ≤ 1000000000000 ∧ ∀ H', Same H H' → Q (.str (tI n)) H'
abbrev sinteger_text : Stmt := topS 17
theorem sc_integer_text : FnScope ["n", "rest", "parts", "low", "digits"] ["n"] (defScope sinteger_text) := ⟨rfl, rfl, rfl, by decide +kernel, rfl, by decide +kernel, by decide +kernel⟩
theorem ok_integer_text {f : Addr} {fd : FuncData} (F : Fun K "integer_text" "integer_text" sinteger_text f fd) (B : Bt mg) (TD : mg "divmod" = none) (TR : mg "reversed" = none) : FnG P w K mg base 1 f fd ["n"] spIText := by
  refine Fun.okG F sc_integer_text (fun vs H Q E h => ?_) (fun cdv A outer s H vs Q E hg hr h => ?_)
  · obtain ⟨n, rfl, _⟩ := h
    rfl
  obtain ⟨n, rfl, hn, k⟩ := h
  refine ⟨_, (pss_cons (ps_set (i := 1) sc_integer_text.nd rfl (Or.inl rfl) (pe_callB call_abs (by rfl) B.abs bb_abs (pa_cons (pv 0) pa_nil)))
    (pss_cons (ps_set (i := 2) sc_integer_text.nd rfl (Or.inl rfl) (pe_lst pa_nil))
    (pss_cons (ps_while PassesOwn.never (pt_cmpR op_gt (pe_bits (pv 1)) pe_int (nomark _))
      (pss_cons (ps_asg (pe_callB call_divmodW (by rfl) TD bb_divmod (pa_cons (pv 1) (pa_cons (pe_op op_pow pe_int pe_int) pa_nil))) (pg_tup (n := 2) rfl (pgs_cons (pg_name (i := 1) sc_integer_text.nd rfl (Or.inl rfl)) (pgs_cons (pg_name (i := 3) sc_integer_text.nd rfl (Or.inl rfl)) pgs_nil))))
      (pss_one (ps_expr (pe_bm PySem.F.plainAttrs_list PySem.F.slot_list_append PySem.F.type_list_append mt_append (pv 2) (pa_cons (pe_bm PySem.F.plainAttrs_str PySem.F.slot_str_zfill PySem.F.type_str_zfill mt_zfill (pe_callTy call_str_int (by rfl) B.str bb_str (pa_cons (pv 3) pa_nil)) (pa_cons pe_int pa_nil)) pa_nil))))))
    (pss_cons (ps_expr (pe_bm PySem.F.plainAttrs_list PySem.F.slot_list_append PySem.F.type_list_append mt_append (pv 2) (pa_cons (pe_callTy call_str_int (by rfl) B.str bb_str (pa_cons (pv 1) pa_nil)) pa_nil)))
    (pss_cons (ps_set (i := 4) sc_integer_text.nd rfl (Or.inl rfl) (pe_joinRev rfl (by rfl) TR (pv 2)))
    (pss_one (ps_ret (pe_ifExp (pt_cmpR op_lt (pv 0) pe_int (nomark _)) (pe_op op_add_str pe_str (pv 4)) (pv 4))))))))), ?_⟩
  refine ⟨_, rfl, n, rfl, ?_⟩
  refine ⟨Nat.zero_le _, fun p np => ?_⟩
  have s1 := same_upd (o := .lst []) np
  have ab : (if n < 0 then -n else n) = (n.natAbs : Int) := by split <;> omega
  rw [ab]
  refine while_by (fun σ H1 => σ = [some (.int n), some (.int (n.natAbs : Int)), some (.ref p), none, none] ∧ H1 = upd H p (.lst [])) (fun _ _ => 0) ⟨rfl, rfl⟩ ?_ ?_
  · rintro σ H1 ⟨rfl, rfl⟩
    refine ⟨_, rfl, _, rfl, _, _, rfl, rfl, _, rfl, iteP (fun h => ?_) fun h => ?_⟩
    · exfalso
      have := intBits_le_64 (k := (n.natAbs : Int)) (by omega) (by omega)
      omega
    · refine ⟨_, rfl, .inl ⟨rfl, _, .inl (.inl upd_same)⟩, _, rfl, _, rfl, log_sm (by rw [Int.natAbs_natCast]; exact hn), ?_⟩
      refine ⟨p, [], _, rfl, rfl, upd_same, by decide, ?_⟩
      have hp2 : (upd (upd H p (.lst [])) p (.lst ([] ++ [.str (tI n.natAbs)]))) p = some (.lst ([tI n.natAbs].map V.str)) := upd_same
      have s2 : Same H (upd (upd H p (.lst [])) p (.lst ([] ++ [.str (tI n.natAbs)]))) := fun a o e => by
        rw [upd_ne (ne_of_none e np)]
        exact s1 _ _ e
      refine ⟨_, rfl, p, [tI n.natAbs], rfl, .inl (.inl hp2), ?_, ?_⟩
      · have z := tI_len (n := n.natAbs) (by rw [Int.natAbs_natCast]; exact hn)
        show (tI n.natAbs).length + 0 + 1 * 0 ≤ _
        omega
      rw [join_one']
      refine ⟨_, rfl, _, _, rfl, rfl, _, rfl, iteP (fun h0 => ?_) fun h0 => ?_⟩
      · have z := tI_len (n := n.natAbs) (by rw [Int.natAbs_natCast]; exact hn)
        refine ⟨_, rfl, _, _, rfl, rfl, ?_, ?_⟩
        · show 1 + (tI n.natAbs).length ≤ sizeLine
          exact Nat.le_of_lt (small1000 (by omega))
        · have e2 : ("-" : Str) ++ tI (n.natAbs : Int) = tI n := by
            rw [show (n.natAbs : Int) = -n by omega]
            exact tI_neg h0
          have kk := k _ s2
          rw [← e2] at kk
          exact kk
      · have e2 : tI (n.natAbs : Int) = tI n := by
          rw [show (n.natAbs : Int) = n by omega]
        have kk := k _ s2
        rw [← e2] at kk
        exact ⟨_, rfl, kk⟩
  · rintro σ H1 R R' hh ⟨v, e1, x, ex, i, j, e2, e3, c, e4, q⟩
    exact ⟨v, e1, x, ex, i, j, e2, e3, c, e4, hh _ _ q⟩
def spFText (K : PySem.W.Frag) : Sp := fun vs H Q _ => ∃ (v : V) (n d : Int), vs = [v] ∧ Cpl K H v n d ∧ SmF (n, d) ∧ ∀ H', Same H H' → Q (.str (fT n d)) H'
theorem spFText_len {K : PySem.W.Frag} {a : Str} : ∀ vs H Q E, spFText K vs H Q E → vs.length = [a].length := fun vs H Q E h => by
  obtain ⟨_, _, _, rfl, _⟩ := h
  rfl
theorem app_len (a b : Str) : (a ++ b).length = a.length + b.length := by
  show (a.cps ++ b.cps).size = _
  rw [Array.size_append]
  rfl
abbrev sfraction_text : Stmt := topS 19
theorem sc_fraction_text : FnScope ["one", "n", "d"] ["one"] (defScope sfraction_text) := ⟨rfl, rfl, rfl, by decide +kernel, rfl, by decide +kernel, by decide +kernel⟩
theorem ok_fraction_text {f : Addr} {fd : FuncData} (F : Fun K "fraction_text" "fraction_text" sfraction_text f fd) (B : Bt mg) (c_integer_text : CalG P w K mg base 1 "integer_text" spIText) : FnG P w K mg base 2 f fd ["one"] (spFText K) := by
  refine Fun.okG F sc_fraction_text spFText_len (fun cdv A outer s H vs Q E hg hr h => ?_)
  obtain ⟨v, n, d, rfl, ⟨a, rfl, ha⟩, sm, k⟩ := h
  have hd : d.natAbs ≤ 1000000000000 := by have := sm.d; have := sm.fr.pos; have : d ≤ 1000000000000 := sm.d; have : 0 < d := sm.fr.pos; omega
  have hn : n.natAbs ≤ 1000000000000 := sm.n
  refine ⟨_, (pss_cons (ps_asg (pv 0) (pg_tup (n := 2) rfl (pgs_cons (pg_name (i := 1) sc_fraction_text.nd rfl (Or.inl rfl)) (pgs_cons (pg_name (i := 2) sc_fraction_text.nd rfl (Or.inl rfl)) pgs_nil))))
    (pss_cons (ps_if (pt_cmpR op_eq (pv 2) pe_int (nomark _))
      (pss_one (ps_ret (pc c_integer_text hg hr (by decide) (by rfl) (pa_cons (pv 1) pa_nil))))
      pss_nil)
    (pss_one (ps_ret (pe_op op_add_str (pe_op op_add_str (pc c_integer_text hg hr (by decide) (by rfl) (pa_cons (pv 1) pa_nil)) pe_str) (pc c_integer_text hg hr (by decide) (by rfl) (pa_cons (pv 2) pa_nil))))))), ?_⟩
  refine ⟨_, rfl, a, _, rfl, ha, rfl, _, _, rfl, _, _, rfl, rfl, ?_⟩
  unfold fT at k
  refine ⟨_, rfl, rfl, _, rfl, iteEq (fun e => ?_) fun e => ?_⟩
  · rw [if_pos e] at k
    exact ⟨_, rfl, n, rfl, hn, fun H' s => k H' s⟩
  · rw [if_neg e] at k
    have z1 := tI_len hn
    have z2 := tI_len hd
    refine ⟨_, rfl, n, rfl, hn, fun H1 s1 => ⟨_, _, rfl, rfl, ?_, _, rfl, d, rfl, hd, fun H2 s2 => ⟨_, _, rfl, rfl, ?_, k _ (s1.trans s2)⟩⟩⟩
    · show _ + 1 ≤ sizeLine
      exact Nat.le_of_lt (small1000 (by omega))
    · rw [app_len]
      show _ + 1 + _ ≤ sizeLine
      exact Nat.le_of_lt (small1000 (by omega))
abbrev s_law_text : Stmt := topS 38
theorem sc__law_text : FnScope ["one"] ["one"] (defScope s_law_text) := ⟨rfl, rfl, rfl, by decide +kernel, rfl, by decide +kernel, by decide +kernel⟩
theorem ok__law_text {f : Addr} {fd : FuncData} (F : Fun K "_law_text" "_law_text" s_law_text f fd) (B : Bt mg) : FnG P w K mg base 1 f fd ["one"] (spFText K) := by
  refine Fun.okG F sc__law_text spFText_len (fun cdv A outer s H vs Q E hg hr h => ?_)
  obtain ⟨v, n, d, rfl, ⟨a, rfl, ha⟩, sm, k⟩ := h
  have hd : d.natAbs ≤ 1000000000000 := by have : d ≤ 1000000000000 := sm.d; have : 0 < d := sm.fr.pos; omega
  have hn : n.natAbs ≤ 1000000000000 := sm.n
  have z1 := tI_len hn
  have z2 := tI_len hd
  refine ⟨_, (pss_one (ps_ret (pe_op op_add_str (pe_callTy call_str_int (by rfl) B.str bb_str (pa_cons (pe_ix ix_tup (pv 0) pe_int (fun _ _ => rfl)) pa_nil)) (pe_ifExp (pt_cmpR op_ne (pe_ix ix_tup (pv 0) pe_int (fun _ _ => rfl)) pe_int (nomark _)) (pe_op op_add_str pe_str (pe_callTy call_str_int (by rfl) B.str bb_str (pa_cons (pe_ix ix_tup (pv 0) pe_int (fun _ _ => rfl)) pa_nil))) pe_str)))), ?_⟩
  refine ⟨_, rfl, a, _, 0, _, rfl, rfl, ha, atI_nat (j := 0) rfl, n, rfl, log_sm hn, ?_⟩
  refine ⟨_, rfl, a, _, 1, _, rfl, rfl, ha, atI_nat (j := 1) rfl, rfl, _, rfl, iteNe (fun e => ?_) fun e => ?_⟩
  · refine ⟨_, rfl, a, _, 1, _, rfl, rfl, ha, atI_nat (j := 1) rfl, d, rfl, log_sm hd, _, _, rfl, rfl, ?_, _, _, rfl, rfl, ?_, ?_⟩
    · show 1 + (tI d).length ≤ sizeLine
      exact Nat.le_of_lt (small1000 (by omega))
    · show (tI n).length + (("/" : Str) ++ tI d).length ≤ sizeLine
      rw [app_len]
      show _ + (1 + _) ≤ sizeLine
      exact Nat.le_of_lt (small1000 (by omega))
    · have kk := k H (.refl H)
      unfold fT at kk
      rw [if_neg e] at kk
      have as : tI n ++ ("/" : Str) ++ tI d = tI n ++ (("/" : Str) ++ tI d) := by
        show (⟨((tI n).cps ++ _) ++ (tI d).cps⟩ : Str) = ⟨(tI n).cps ++ (_ ++ (tI d).cps)⟩
        rw [Array.append_assoc]
      rw [as] at kk
      exact kk
  · refine ⟨_, _, rfl, rfl, ?_, ?_⟩
    · show (tI n).length + 0 ≤ sizeLine
      exact Nat.le_of_lt (small1000 (by omega))
    · have kk := k H (.refl H)
      unfold fT at kk
      rw [if_pos e] at kk
      have ae : tI n ++ ("" : Str) = tI n := by
        show (⟨(tI n).cps ++ #[]⟩ : Str) = tI n
        simp
      rw [← ae] at kk
      exact kk
end
end K01
namespace K01
open PySem PySem.Spec PyProof.Rows L2 Sw
abbrev SL (l : List Nat) : Str := ⟨l.toArray⟩
theorem SL_len (l : List Nat) : (SL l).length = l.length := by
  show l.toArray.size = _
  rw [List.size_toArray]
theorem strip_len (l : List Nat) : (stripL l).length ≤ l.length := by
  rcases min_or l with ⟨r, rfl⟩ | hn
  · rw [(strip_min r).1, List.length_cons]
    omega
  · rw [(strip_no hn).1]
    exact Nat.le_refl _
def oV : Option Int → V
  | some n => .int n
  | none => .non
def spIntIn : Sp := fun vs H Q _ => ∃ l : List Nat, vs = [.str (SL l)] ∧ l.length ≤ 10000 ∧ Q (oV (intL l)) H
theorem len_fit {n : Nat} (h : n ≤ 10000) : n + 2 ≤ sizeLine := Nat.le_trans (show n + 2 ≤ 20000 by omega) (by decide)
theorem dig_pow {r : List Nat} (h : NumText.AllDigits r) : NumText.digitsVal r < 10 ^ r.length := by
  have key : ∀ (r : List Nat) (acc : Nat), NumText.AllDigits r → r.foldl (fun acc c => acc * 10 + (c - 48)) acc < (acc + 1) * 10 ^ r.length := by
    intro r
    induction r with
    | nil =>
      intro acc _
      simp
    | cons c r ih =>
      intro acc h
      have hc := h c List.mem_cons_self
      have z := ih (acc * 10 + (c - 48)) h.tail
      rw [List.foldl_cons, List.length_cons, Nat.pow_succ]
      refine Nat.lt_of_lt_of_le z ?_
      have : acc * 10 + (c - 48) + 1 ≤ (acc + 1) * 10 := by omega
      calc (acc * 10 + (c - 48) + 1) * 10 ^ r.length ≤ ((acc + 1) * 10) * 10 ^ r.length := Nat.mul_le_mul_right _ this
        _ = (acc + 1) * (10 ^ r.length * 10) := by rw [Nat.mul_assoc, Nat.mul_comm 10]
  have z := key r 0 h
  rw [Nat.zero_add, Nat.one_mul] at z
  exact z
theorem val_small {l : List Nat} (h : digL (stripL l) = true) (hl : (stripL l).length ≤ 40) : (valL l).natAbs < 10 ^ 40 := by
  have key : NumText.digitsVal (stripL l) < 10 ^ 40 := Nat.lt_of_lt_of_le (dig_pow (digL_iff.mp h).2) (Nat.pow_le_pow_right (by decide) hl)
  rcases min_or l with ⟨r, rfl⟩ | hn
  · rw [(strip_min r).1] at key
    rw [(strip_min r).2]
    omega
  · rw [(strip_no hn).1] at key
    rw [(strip_no hn).2]
    omega
theorem log40 {i : Int} (h : i.natAbs < 10 ^ 40) : i.natAbs.log2 < 1920 := int_log (Nat.lt_of_lt_of_le h (Nat.pow_le_pow_right (by decide) (by decide)))
section
variable {P : Program} {w : World} {K : PySem.W.Frag} {mg : Str → Option Value} {base : Heap}
abbrev sinteger_in : Stmt := topS 18
theorem sc_integer_in : FnScope ["text", "digits", "n"] ["text"] (defScope sinteger_in) := ⟨rfl, rfl, rfl, by decide +kernel, rfl, by decide +kernel, by decide +kernel⟩
theorem ok_integer_in {f : Addr} {fd : FuncData} (F : Fun K "integer_in" "integer_in" sinteger_in f fd) (B : Bt mg) (TG : ∃ u, mg "DIGITS_READ" = some u ∧ RelV (.int 40) u) : FnG P w K mg base 1 f fd ["text"] spIntIn := by
  refine Fun.okG F sc_integer_in (fun vs H Q E h => ?_) (fun cdv A outer s H vs Q E hg hr h => ?_)
  · obtain ⟨l, rfl, _⟩ := h
    rfl
  obtain ⟨l, rfl, hl, k⟩ := h
  refine ⟨_, (pss_cons (ps_set (i := 1) sc_integer_in.nd rfl (Or.inl rfl) (pe_bm PySem.F.plainAttrs_str PySem.F.slot_str_removeprefix PySem.F.type_str_removeprefix mt_removeprefix (pv 0) (pa_cons pe_str pa_nil)))
    (pss_cons (ps_if (PW.pt (pw_or (pt_not (PW.pt (pw_and (pt_val (pe_bm0 PySem.F.plainAttrs_str PySem.F.slot_str_isascii PySem.F.type_str_isascii mt_isascii (pv 1))) (pw_and1 (pt_val (pe_bm0 PySem.F.plainAttrs_str PySem.F.slot_str_isdigit PySem.F.type_str_isdigit mt_isdigit (pv 1))))))) (pw_or1 (pt_cmpR op_gt (pe_callB call_lenA (by rfl) B.len boot_len (pa_cons (pv 1) pa_nil)) (C8.pe_gc rfl TG) (nomark _)))))
      (pss_one (ps_ret pe_non))
      pss_nil)
    (pss_cons (ps_set (i := 2) sc_integer_in.nd rfl (Or.inl rfl) (pe_callTy call_int_str (by rfl) B.int bb_int (pa_cons (pv 0) pa_nil)))
    (pss_one (ps_ret (pe_ifExp (pt_cmpR op_eq (pe_callTy call_str_int (by rfl) B.str bb_str (pa_cons (pv 2) pa_nil)) (pv 0) (nomark _)) (pv 2) pe_non)))))), ?_⟩
  refine ⟨_, rfl, rfl, _, _, rfl, rfl, by rw [SL_len]; have := len_fit hl; omega, ?_⟩
  rw [removeprefix_min]
  have sl := strip_len l
  have hfit := len_fit hl
  have bad : ¬ (digL (stripL l) = true ∧ (stripL l).length ≤ 40) → Q .non H := fun h => by
    have e : intL l = none := if_neg fun z => h ⟨z.1, z.2.1⟩
    rw [e] at k
    exact k
  have long : ∀ {A B : Prop}, (40 < (stripL l).length → A) → ((stripL l).length ≤ 40 → B) → (if decide (((stripL l).length : Int) > 40) = true then A else B) := fun h1 h2 => iteP (fun z => h1 (by omega)) fun z => h2 (by omega)
  refine ⟨_, rfl, rfl, _, rfl, rfl, trivial, _, rfl, ?_⟩
  have dd := dig_eq (stripL l)
  cases h1 : Txt.isascii ⟨(stripL l).toArray⟩ with
  | false =>
    rw [h1, Bool.false_and] at dd
    exact iteF (iteT (iteT (bad fun z => by rw [z.1] at dd; cases dd)))
  | true =>
    rw [h1, Bool.true_and] at dd
    refine iteT ⟨_, rfl, rfl, _, rfl, rfl, trivial, _, rfl, ?_⟩
    rw [dd]
    cases h2 : digL (stripL l) with
    | false => exact iteT (iteT (bad fun z => by rw [z.1] at h2; cases h2))
    | true =>
      refine iteF ⟨_, rfl, .str _, (stripL l).length, rfl, ⟨by rw [SL_len]; omega, (SL_len _).symm⟩, _, _, rfl, rfl, _, rfl, long (fun h => bad fun z => by omega) fun h => ?_⟩
      obtain ⟨r1, r2⟩ := int_reads h2 h
      refine ⟨_, rfl, _, _, rfl, r1, by rw [SL_len]; omega, ?_⟩
      refine ⟨_, rfl, _, rfl, log40 (val_small h2 h), _, rfl, rfl, _, rfl, iteP (fun e => ?_) fun e => ?_⟩
      · have e2 : (Str.ofString (toString (valL l))).cps.toList = l := by
          have := V.str.inj e
          rw [this]
        have e3 : intL l = some (valL l) := if_pos ⟨h2, h, e2⟩
        rw [e3] at k
        exact ⟨_, rfl, k⟩
      · have e3 : intL l = none := if_neg fun z => e (by
          have := z.2.2
          congr 1
          rw [← TL.mk_tl (Str.ofString (toString (valL l)))]
          show (⟨(Str.ofString (toString (valL l))).cps.toList.toArray⟩ : Str) = _
          rw [this])
        rw [e3] at k
        exact k
/-- the FRACTION that a text shows -/
def finL (l : List Nat) : Option (Int × Int) := match TL.par [47] [] l with
  | none => (intL l).map fun n => (n, 1)
  | some (p, q) => match intL p, intL q with
    | some n, some d => if 2 ≤ d ∧ gI n d = 1 then some (n, d) else none
    | _, _ => none
def RF (K : PySem.W.Frag) (H : Hp) (v : V) : Option (Int × Int) → Prop
  | none => v = .non
  | some f => Cpl K H v f.1 f.2
def spFIn (K : PySem.W.Frag) : Sp := fun vs H Q _ => ∃ l : List Nat, vs = [.str (SL l)] ∧ l.length ≤ 10000 ∧ ∀ v H', Same H H' → RF K H' v (finL l) → Q v H'
theorem par_lenA : ∀ (l acc p q : List Nat), TL.par [47] acc l = some (p, q) → p.length ≤ acc.length + l.length ∧ q.length ≤ l.length
  | [], acc, p, q, h => nomatch h
  | c :: r, acc, p, q, h => by
    unfold TL.par at h
    split at h
    · cases h
      rw [List.length_drop]
      omega
    · have z := par_lenA r _ p q h
      rw [List.length_append] at z
      simp only [List.length_cons, List.length_nil] at z ⊢
      omega
theorem par_len {l p q : List Nat} (h : TL.par [47] [] l = some (p, q)) : p.length ≤ l.length ∧ q.length ≤ l.length := by
  have z := par_lenA l [] p q h
  rw [List.length_nil, Nat.zero_add] at z
  exact z
abbrev sfraction_in : Stmt := topS 20
theorem sc_fraction_in : FnScope ["text", "upper", "stroke", "lower", "n", "d"] ["text"] (defScope sfraction_in) := ⟨rfl, rfl, rfl, by decide +kernel, rfl, by decide +kernel, by decide +kernel⟩
theorem ok_fraction_in {f : Addr} {fd : FuncData} (F : Fun K "fraction_in" "fraction_in" sfraction_in f fd) (B : Bt mg) (T : Tx mg) (c_integer_in : CalG P w K mg base 1 "integer_in" spIntIn) : FnG P w K mg base 2 f fd ["text"] (spFIn K) := by
  refine Fun.okG F sc_fraction_in (fun vs H Q E h => ?_) (fun cdv A outer s H vs Q E hg hr h => ?_)
  · obtain ⟨l, rfl, _⟩ := h
    rfl
  obtain ⟨l, rfl, hl, k⟩ := h
  refine ⟨_, (pss_cons (ps_asg (pe_bm PySem.F.plainAttrs_str PySem.F.slot_str_partition PySem.F.type_str_partition mt_partition (pv 0) (pa_cons pe_str pa_nil)) (pg_tup (n := 3) rfl (pgs_cons (pg_name (i := 1) sc_fraction_in.nd rfl (Or.inl rfl)) (pgs_cons (pg_name (i := 2) sc_fraction_in.nd rfl (Or.inl rfl)) (pgs_cons (pg_name (i := 3) sc_fraction_in.nd rfl (Or.inl rfl)) pgs_nil)))))
    (pss_cons (ps_set (i := 4) sc_fraction_in.nd rfl (Or.inl rfl) (pc c_integer_in hg hr (by decide) (by rfl) (pa_cons (pv 1) pa_nil)))
    (pss_cons (ps_if (pt_cmpR op_isN (pv 4) pe_non (nomark _))
      (pss_one (ps_ret pe_non))
      pss_nil)
    (pss_cons (ps_if (pt_cmpR op_eq (pv 2) pe_str (nomark _))
      (pss_one (ps_ret (pe_tup (pa_cons (pv 4) (pa_cons pe_int pa_nil)))))
      pss_nil)
    (pss_cons (ps_set (i := 5) sc_fraction_in.nd rfl (Or.inl rfl) (pc c_integer_in hg hr (by decide) (by rfl) (pa_cons (pv 3) pa_nil)))
    (pss_cons (ps_if (PW.pt (pw_or (pt_cmpR op_isN (pv 5) pe_non (nomark _)) (pw_or (pt_cmpR op_lt (pv 5) pe_int (nomark _)) (pw_or1 (pt_cmpR op_ne (pe_callBfun cr_gcd (by rfl) T.gcd (pa_cons (pv 4) (pa_cons (pv 5) pa_nil))) pe_int (nomark _))))))
      (pss_one (ps_ret pe_non))
      pss_nil)
    (pss_one (ps_ret (pe_tup (pa_cons (pv 4) (pa_cons (pv 5) pa_nil))))))))))), ?_⟩
  have hfit := len_fit hl
  have es : ("/" : Str) = SX.S [47] := by decide +kernel
  refine ⟨_, rfl, rfl, _, _, rfl, rfl, by decide +kernel, by rw [SL_len]; omega, fun p np => ?_⟩
  have s1 := same_upd (o := .tup [.str (Txt.partition (SL l) "/").1, .str (Txt.partition (SL l) "/").2.1, .str (Txt.partition (SL l) "/").2.2]) np
  refine ⟨p, _, rfl, .inl (.inl upd_same), rfl, _, _, rfl, _, _, rfl, _, _, rfl, rfl, ?_⟩
  unfold finL at k
  cases hp : TL.par [47] [] l with
  | none =>
    rw [hp] at k
    have e := SX.partition_none (a := l) (b := [47]) (by decide) hp
    rw [← es] at e
    have e1 : (Txt.partition (SL l) "/").1 = SL l := congrArg Prod.fst e
    have e2 : (Txt.partition (SL l) "/").2.1 = SL [] := congrArg (fun z => z.2.1) e
    have e3 : (Txt.partition (SL l) "/").2.2 = SL [] := congrArg (fun z => z.2.2) e
    rw [e1, e2, e3] at s1 ⊢
    refine ⟨_, rfl, l, rfl, hl, ?_⟩
    cases hi : intL l with
    | none =>
      rw [hi] at k
      exact ⟨_, rfl, rfl, _, rfl, iteT (k _ _ s1 rfl)⟩
    | some n =>
      rw [hi] at k
      refine ⟨_, rfl, rfl, _, rfl, iteF ?_⟩
      refine ⟨_, rfl, rfl, _, rfl, iteT ⟨_, rfl, by show 2 ≤ sizeLine; decide, fun q nq => ?_⟩⟩
      exact k _ _ (s1.trans (same_upd nq)) (.mk upd_same)
  | some pq =>
    obtain ⟨a, b⟩ := pq
    rw [hp] at k
    dsimp only at k
    obtain ⟨la, lb⟩ := par_len hp
    have e := SX.partition_some (a := l) (b := [47]) (by decide) hp
    rw [← es] at e
    have e1 : (Txt.partition (SL l) "/").1 = SL a := congrArg Prod.fst e
    have e2 : (Txt.partition (SL l) "/").2.1 = "/" := congrArg (fun z => z.2.1) e
    have e3 : (Txt.partition (SL l) "/").2.2 = SL b := congrArg (fun z => z.2.2) e
    rw [e1, e2, e3] at s1 ⊢
    refine ⟨_, rfl, a, rfl, by omega, ?_⟩
    cases hi : intL a with
    | none =>
      rw [hi] at k
      exact ⟨_, rfl, rfl, _, rfl, iteT (k _ _ s1 rfl)⟩
    | some n =>
      rw [hi] at k
      refine ⟨_, rfl, rfl, _, rfl, iteF ?_⟩
      refine ⟨_, rfl, rfl, _, rfl, ?_⟩
      rw [show decide (V.str "/" = V.str "") = false by decide +kernel]
      refine iteF ⟨_, rfl, b, rfl, by omega, ?_⟩
      cases hj : intL b with
      | none =>
        rw [hj] at k
        exact ⟨_, rfl, rfl, _, rfl, iteT (iteT (k _ _ s1 rfl))⟩
      | some d =>
        rw [hj] at k
        refine ⟨_, rfl, rfl, _, rfl, iteF ⟨_, rfl, _, _, rfl, rfl, _, rfl, iteP (fun h => ?_) fun h => ?_⟩⟩
        · have k' : ∀ v H', Same H H' → RF K H' v none → Q v H' := by
            have e0 : (if 2 ≤ d ∧ gI n d = 1 then some (n, d) else none) = none := if_neg fun z => by omega
            simp only [e0] at k
            exact k
          exact iteT (k' _ _ s1 rfl)
        · refine ⟨_, rfl, _, rfl, n, d, rfl, rfl, _, rfl, iteNe (fun h2 => ?_) fun h2 => ?_⟩
          · have k' : ∀ v H', Same H H' → RF K H' v none → Q v H' := by
              have e0 : (if 2 ≤ d ∧ gI n d = 1 then some (n, d) else none) = none := if_neg fun z => h2 z.2
              simp only [e0] at k
              exact k
            exact k' _ _ s1 rfl
          · have k' : ∀ v H', Same H H' → RF K H' v (some (n, d)) → Q v H' := by
              have e0 : (if 2 ≤ d ∧ gI n d = 1 then some (n, d) else none) = some (n, d) := if_pos ⟨by omega, h2⟩
              simp only [e0] at k
              exact k
            refine ⟨_, rfl, _, rfl, by show 2 ≤ sizeLine; decide, fun q nq => ?_⟩
            exact k' _ _ (s1.trans (same_upd nq)) (.mk upd_same)
end
end K01
namespace K01
open PySem PySem.Spec PyProof.Rows L2 Sw
theorem tI_nat (m : Nat) : (tI (m : Int)).cps.toList = TL.numL m := TL.tl_num m
theorem digL_num (m : Nat) : digL (TL.numL m) = true := digL_iff.mpr ⟨TL.numL_ne m, TL.numL_digits m⟩
theorem num_no (m : Nat) : ∀ r, TL.numL m ≠ 45 :: r := fun r e => by
  have := TL.numL_digits m 45 (by rw [e]; exact List.mem_cons_self)
  omega
theorem num_len {m : Nat} (h : m ≤ 1000000000000) : (TL.numL m).length ≤ 40 := Nat.le_trans (TL.numL_len (k := 13) (by decide) (Nat.lt_of_le_of_lt h (by decide))) (by decide)
theorem tI_negL {n : Int} (h : n < 0) : (tI n).cps.toList = 45 :: TL.numL n.natAbs := by
  rw [← tI_neg h]
  have e1 : -n = (n.natAbs : Int) := by omega
  rw [e1]
  have e2 : ("-" : Str) = ⟨#[45]⟩ := by decide +kernel
  rw [e2]
  show ((#[45] : Array Nat) ++ (tI (n.natAbs : Int)).cps).toList = _
  rw [Array.toList_append, tI_nat]
  rfl
/-- an integer's text is read back -/
theorem intL_tI {n : Int} (h : n.natAbs ≤ 1000000000000) : intL (tI n).cps.toList = some n := by
  by_cases hn : n < 0
  · have e := tI_negL hn
    have v : valL (tI n).cps.toList = n := by
      rw [e, (strip_min _).2, TL.numL_val]
      omega
    unfold intL
    rw [v, if_pos]
    refine ⟨?_, ?_, rfl⟩
    · rw [e, (strip_min _).1]
      exact digL_num _
    · rw [e, (strip_min _).1]
      exact num_len h
  · have e : (tI n).cps.toList = TL.numL n.natAbs := by
      rw [show n = (n.natAbs : Int) by omega, tI_nat, Int.natAbs_natCast]
    have v : valL (tI n).cps.toList = n := by
      rw [e, (strip_no (num_no _)).2, TL.numL_val]
      omega
    unfold intL
    rw [v, if_pos]
    refine ⟨?_, ?_, rfl⟩
    · rw [e, (strip_no (num_no _)).1]
      exact digL_num _
    · rw [e, (strip_no (num_no _)).1]
      exact num_len h
theorem tI_free {n : Int} : 47 ∉ (tI n).cps.toList := by
  by_cases hn : n < 0
  · rw [tI_negL hn]
    intro m
    rcases List.mem_cons.mp m with m | m
    · cases m
    · exact TL.numL_free (.inl (by decide)) m
  · rw [show n = (n.natAbs : Int) by omega, tI_nat]
    exact TL.numL_free (.inl (by decide))
theorem finL_fT {n d : Int} (h : SmF (n, d)) : finL (fT n d).cps.toList = some (n, d) := by
  have hd : d.natAbs ≤ 1000000000000 := by
    have : d ≤ 1000000000000 := h.d
    have : 0 < d := h.fr.pos
    omega
  have hn : n.natAbs ≤ 1000000000000 := h.n
  unfold fT finL
  by_cases e : d = 1
  · rw [if_pos e, TL.par_none1 tI_free]
    dsimp only
    rw [intL_tI hn, e]
    rfl
  · rw [if_neg e]
    have es : ("/" : Str) = ⟨#[47]⟩ := by decide +kernel
    have el : (tI n ++ ("/" : Str) ++ tI d).cps.toList = (tI n).cps.toList ++ 47 :: (tI d).cps.toList := by
      rw [es]
      show (((tI n).cps ++ (#[47] : Array Nat)) ++ (tI d).cps).toList = _
      rw [Array.toList_append, Array.toList_append, List.append_assoc]
      rfl
    have ep : TL.par [47] [] ((tI n).cps.toList ++ 47 :: (tI d).cps.toList) = some ((tI n).cps.toList, (tI d).cps.toList) := by
      have z := TL.par_part1 (s := 47) (S := []) (p := (tI n).cps.toList) (acc := []) (rest := (tI d).cps.toList) tI_free
      simpa using z
    rw [el, ep]
    dsimp only
    rw [intL_tI hn, intL_tI hd]
    dsimp only
    rw [if_pos ⟨by have : 0 < d := h.fr.pos; omega, gI_cp.mpr h.fr.cp⟩]
end K01
namespace K01
open PySem PySem.Spec PyProof.Rows L2 Sw
def spAlike' := spAlike
/-- small data without dicts -/
structure Sd (d : PyData) : Prop where
  ok : okD d = true
  nd : d.hasDict = false
  dp : d.depth ≤ 3
  wt : d.weight ≤ 3000
theorem okA_of : ∀ {ds : List PyData}, (∀ d ∈ ds, Sd d) → okA ds = true ∧ PyData.hasDictAll ds = false ∧ PyData.depthAll ds ≤ 3 ∧ PyData.weightAll ds ≤ 3001 * ds.length
  | [], _ => ⟨rfl, rfl, Nat.zero_le _, Nat.le_refl _⟩
  | d :: ds, h => by
    obtain ⟨a, b, c, e⟩ := okA_of fun x hx => h x (List.mem_cons_of_mem _ hx)
    obtain ⟨a1, b1, c1, e1⟩ := h d List.mem_cons_self
    refine ⟨by simp only [okA, a, a1, Bool.and_self], by simp only [PyData.hasDictAll, b, b1, Bool.or_self], ?_, ?_⟩
    · simp only [PyData.depthAll]
      omega
    · simp only [PyData.weightAll, List.length_cons]
      omega
theorem Sd.ok' {d : PyData} (h : Sd d) : Ok d := ⟨h.ok, by have := h.dp; omega, by have := h.wt; omega⟩
theorem sd_list {ds : List PyData} (h : ∀ d ∈ ds, Sd d) (hl : ds.length ≤ 8) : Ok (.list ds) ∧ (PyData.list ds).hasDict = false ∧ Ok (.tuple ds) ∧ (PyData.tuple ds).hasDict = false := by
  obtain ⟨a, b, c, e⟩ := okA_of h
  have e2 : PyData.weightAll ds ≤ 24008 := Nat.le_trans e (by omega)
  refine ⟨⟨by simp only [okD]; exact a, by simp only [PyData.depth]; omega, by simp only [PyData.weight]; omega⟩, by simp only [PyData.hasDict]; exact b, ⟨by simp only [okD]; exact a, by simp only [PyData.depth]; omega, by simp only [PyData.weight]; omega⟩, by simp only [PyData.hasDict]; exact b⟩
theorem int_wt {i : Int} (h : i.natAbs < 2 ^ 1200) : (PyData.int i).weight ≤ 1300 ∧ i.natAbs < 10 ^ 500 := by
  refine ⟨?_, Nat.lt_of_lt_of_le h (by decide +kernel)⟩
  by_cases hz : i.natAbs = 0
  · simp only [PyData.weight]
    split <;> (try rw [hz]) <;> decide
  · have e : i.natAbs.log2 < 1200 := (Nat.log2_lt hz).mpr h
    simp only [PyData.weight]
    split <;> omega
theorem sd_int {i : Int} (h : i.natAbs < 2 ^ 1200) : Sd (.int i) := by
  obtain ⟨a, b⟩ := int_wt h
  exact ⟨by simp only [okD, decide_eq_true_eq]; exact b, by simp [PyData.hasDict], by simp [PyData.depth], by omega⟩
def fD (f : Int × Int) : PyData := .tuple [.int f.1, .int f.2]
theorem sd_fr {f : Int × Int} (h1 : f.1.natAbs < 2 ^ 1200) (h2 : f.2.natAbs < 2 ^ 1200) : Sd (fD f) := by
  obtain ⟨a, b⟩ := int_wt h1
  obtain ⟨c, d⟩ := int_wt h2
  unfold fD
  refine ⟨?_, by simp [PyData.hasDict, PyData.hasDictAll], by simp [PyData.depth, PyData.depthAll], ?_⟩
  · simp only [okD, okA, Bool.and_true, Bool.and_eq_true, decide_eq_true_eq]
    exact ⟨b, d⟩
  · simp only [PyData.weight, PyData.weightAll] at a c ⊢
    omega
theorem SmF.sd {f : Int × Int} (h : SmF f) : Sd (fD f) := sd_fr (Nat.lt_of_lt_of_le h.n40 (pow_ge (by decide))) (Nat.lt_of_lt_of_le h.d40 (pow_ge (by decide)))
theorem TBd.sd {i : Nat} {f : Int × Int} (h : TBd i f) (hi : i ≤ 10) : Sd (fD f) := sd_fr (Nat.lt_of_lt_of_le h.n (pow_ge (by omega))) (Nat.lt_of_lt_of_le h.d (pow_ge (by omega)))
theorem sd_red {x y : Int} (h : y ≠ 0) (h1 : x.natAbs < 2 ^ 1200) (h2 : y.natAbs < 2 ^ 1200) : Sd (fD (redI x y)) := by
  obtain ⟨l1, l2⟩ := redI_le (x := x) h
  exact sd_fr (Nat.lt_of_le_of_lt l1 h1) (Nat.lt_of_le_of_lt l2 h2)
theorem SmF.m80 {f g : Int × Int} (h : SmF f) (k : SmF g) : (f.1 * g.2).natAbs < 2 ^ 80 ∧ (f.2 * g.2).natAbs < 2 ^ 80 ∧ (f.1 * g.1).natAbs < 2 ^ 80 ∧ f.2 * g.2 ≠ 0 :=
  ⟨natAbs_lt_mul h.n40 k.d40, natAbs_lt_mul h.d40 k.d40, natAbs_lt_mul h.n40 k.n40, Int.mul_ne_zero (by have := h.fr.pos; omega) (by have := k.fr.pos; omega)⟩
theorem sd_ops {f g : Int × Int} (h : SmF f) (k : SmF g) : Sd (fD (addF f.1 f.2 g.1 g.2)) ∧ Sd (fD (subF f.1 f.2 g.1 g.2)) ∧ Sd (fD (mulF f.1 f.2 g.1 g.2)) := by
  obtain ⟨a, b, c, d⟩ := h.m80 k
  obtain ⟨a', _, _, _⟩ := k.m80 h
  have big : (2 : Nat) ^ 81 ≤ 2 ^ 1200 := pow_ge (by decide)
  have big0 : (2 : Nat) ^ 80 ≤ 2 ^ 1200 := pow_ge (by decide)
  refine ⟨sd_red d (Nat.lt_of_lt_of_le (natAbs_lt_add a a') big) (Nat.lt_of_lt_of_le b big0), sd_red d ?_ (Nat.lt_of_lt_of_le b big0), sd_red d (Nat.lt_of_lt_of_le c big0) (Nat.lt_of_lt_of_le b big0)⟩
  rw [Int.sub_eq_add_neg]
  exact Nat.lt_of_lt_of_le (natAbs_lt_add a (by rw [Int.natAbs_neg]; exact a')) big
theorem cmp_sum (f g : Int × Int) : (if decide (g.1 * f.2 < f.1 * g.2) = true then (1 : Int) else 0) - (if decide (f.1 * g.2 < g.1 * f.2) = true then (1 : Int) else 0) = cmpF f.1 f.2 g.1 g.2 := by
  unfold cmpF
  by_cases h1 : f.1 * g.2 < g.1 * f.2
  · rw [if_neg (by rw [decide_eq_true_eq]; omega), if_pos (by rw [decide_eq_true_eq]; exact h1), if_pos h1]
    rfl
  · by_cases h2 : g.1 * f.2 < f.1 * g.2
    · rw [if_pos (by rw [decide_eq_true_eq]; exact h2), if_neg (by rw [decide_eq_true_eq]; exact h1), if_neg h1, if_pos h2]
      rfl
    · rw [if_neg (by rw [decide_eq_true_eq]; exact h2), if_neg (by rw [decide_eq_true_eq]; exact h1), if_neg h1, if_neg h2]
      rfl
theorem cmp_self (n d : Int) : cmpF n d n d = 0 := by
  unfold cmpF
  rw [if_neg (by omega), if_neg (by omega)]
theorem sd_cmp (n d m e : Int) : Sd (.int (cmpF n d m e)) := by
  unfold cmpF
  split
  · exact sd_int (by decide +kernel)
  · split
    · exact sd_int (by decide +kernel)
    · exact sd_int (by decide +kernel)
theorem tI_chars (n : Int) : ∀ c ∈ (tI n).cps.toList, c < 128 := fun c hc => by
  by_cases hn : n < 0
  · rw [tI_negL hn] at hc
    rcases List.mem_cons.mp hc with rfl | hc
    · decide
    · have := TL.numL_digits _ c hc
      omega
  · rw [show n = (n.natAbs : Int) by omega, tI_nat] at hc
    have := TL.numL_digits _ c hc
    omega
theorem fT_list (n d : Int) : (fT n d).cps.toList = if d = 1 then (tI n).cps.toList else (tI n).cps.toList ++ 47 :: (tI d).cps.toList := by
  unfold fT
  by_cases e : d = 1
  · rw [if_pos e, if_pos e]
  · rw [if_neg e, if_neg e]
    have es : ("/" : Str) = ⟨#[47]⟩ := by decide +kernel
    rw [es]
    show (((tI n).cps ++ (#[47] : Array Nat)) ++ (tI d).cps).toList = _
    rw [Array.toList_append, Array.toList_append, List.append_assoc]
    rfl
theorem fT_len {n d : Int} (h : SmF (n, d)) : (fT n d).cps.toList.length ≤ 130 := by
  have hd : d.natAbs ≤ 1000000000000 := by
    have : d ≤ 1000000000000 := h.d
    have : 0 < d := h.fr.pos
    omega
  have z1 := tI_len (n := n) h.n
  have z2 := tI_len hd
  have e1 : (tI n).cps.toList.length ≤ 60 := z1
  have e2 : (tI d).cps.toList.length ≤ 60 := z2
  rw [fT_list]
  split
  · omega
  · rw [List.length_append, List.length_cons]
    omega
theorem ok_fT {n d : Int} (h : SmF (n, d)) : Ok (.str (fT n d)) := by
  have hl := fT_len h
  refine ⟨?_, by simp [PyData.depth], ?_⟩
  · simp only [okD]
    unfold PyData.strOk
    rw [← Array.all_toList, List.all_eq_true]
    intro c hc
    rw [decide_eq_true_eq]
    rw [fT_list] at hc
    have key : c < 128 := by
      split at hc
      · exact tI_chars n c hc
      · rcases List.mem_append.mp hc with hc | hc
        · exact tI_chars n c hc
        · rcases List.mem_cons.mp hc with rfl | hc
          · decide
          · exact tI_chars d c hc
    omega
  · simp only [PyData.weight]
    have : (fT n d).cps.size ≤ 130 := by rw [← Array.length_toList]; exact hl
    omega
theorem intL_small {l : List Nat} {n : Int} (h : intL l = some n) : n.natAbs < 2 ^ 1200 := by
  unfold intL at h
  split at h
  · rename_i z
    cases h
    exact Nat.lt_of_lt_of_le (val_small z.1 z.2.1) (by decide +kernel)
  · cases h
theorem finL_small {l : List Nat} {f : Int × Int} (h : finL l = some f) : Sd (fD f) := by
  unfold finL at h
  split at h
  · cases e : intL l with
    | none =>
      rw [e] at h
      cases h
    | some n =>
      rw [e] at h
      cases h
      exact sd_fr (f := (n, 1)) (intL_small e) (show (1 : Int).natAbs < 2 ^ 1200 by decide +kernel)
  · rename_i p q _
    cases e1 : intL p with
    | none =>
      rw [e1] at h
      cases h
    | some n =>
      cases e2 : intL q with
      | none =>
        rw [e1, e2] at h
        cases h
      | some d =>
        rw [e1, e2] at h
        dsimp only at h
        split at h
        · cases h
          exact sd_fr (intL_small e1) (intL_small e2)
        · cases h
theorem leF_of_not {f g : Int × Int} (h : ¬ LeF g f) : LeF f g := by
  unfold LeF at *
  omega
theorem srt_first : ∀ {gs : List (Int × Int)} {g0 : Int × Int}, Srt gs → gs[0]? = some g0 → ∀ g ∈ gs, LeF g0 g
  | x :: gs, g0, h, e, g, hg => by
    have ex : x = g0 := by simpa using e
    subst ex
    rcases List.mem_cons.mp hg with rfl | hg
    · exact leF_refl _
    · exact leF_of_not ((List.pairwise_cons.mp h).1 g hg)
theorem srt_last : ∀ {gs : List (Int × Int)} {z : Int × Int}, Srt gs → gs.getLast? = some z → ∀ g ∈ gs, LeF g z := fun {gs z} h e g hg => by
  obtain ⟨ys, rfl⟩ := List.getLast?_eq_some_iff.mp e
  rcases List.mem_append.mp hg with hg | hg
  · exact leF_of_not ((List.pairwise_append.mp h).2.2 g hg z List.mem_cons_self)
  · rw [List.mem_singleton.mp hg]
    exact leF_refl _
theorem shaped_list0 : SeqAt.shaped (.list []) = true := by decide +kernel
/-- alike, without dicts -/
theorem alike_of {K : PySem.W.Frag} {mu : Addr → Prop} {H : Hp} {x y : V} {d : PyData} {Q : VK} {E : XK} (h1 : Dt K mu H x d) (h2 : Dt K mu H y d) (o : Ok d) (n : d.hasDict = false) (q : Q (.bl true) H) : spAlike K [x, y] H Q E := ⟨x, y, mu, d, rfl, h1, h2, o, .inl n, q⟩
/-- the two near FRACTIONS -/
theorem near_sm {g : Int} (h1 : 2 ≤ g) (h2 : g < 1000000000000) : SmF (g + 1, g) ∧ SmF (g, g - 1) := by
  have c : ∀ a : Int, Cp (a + 1) a := fun a => by
    have z : Cp 1 a := .of fun k hk _ => by
      have := Int.natCast_dvd_natCast (m := k) (n := 1)
      exact Nat.dvd_one.mp (this.mp hk)
    have y := z.add (k := 1)
    rw [Int.one_mul, Int.add_comm] at y
    exact y
  refine ⟨⟨⟨by show 0 < g; omega, c g⟩, by show (g + 1).natAbs ≤ _; omega, by show g ≤ _; omega⟩, ⟨⟨by show 0 < g - 1; omega, ?_⟩, by show g.natAbs ≤ _; omega, by show g - 1 ≤ _; omega⟩⟩
  have z := c (g - 1)
  rw [show g - 1 + 1 = g by omega] at z
  exact z
theorem near_lt {g : Int} : ¬ LeF (g, g - 1) (g + 1, g) ∧ LeF (g + 1, g) (g, g - 1) := by
  have e : (g + 1) * (g - 1) = g * g - 1 := by
    rw [Int.add_mul, Int.mul_sub, Int.one_mul, Int.mul_one]
    omega
  unfold LeF
  refine ⟨?_, ?_⟩
  · show ¬ g * g ≤ (g + 1) * (g - 1)
    omega
  · show (g + 1) * (g - 1) ≤ g * g
    omega
theorem cmpF_near {g : Int} : cmpF (g + 1) g g (g - 1) = -1 ∧ cmpF g (g - 1) (g + 1) g = 1 := by
  have e : (g + 1) * (g - 1) = g * g - 1 := by
    rw [Int.add_mul, Int.mul_sub, Int.one_mul, Int.mul_one]
    omega
  unfold cmpF
  refine ⟨if_pos (by omega), ?_⟩
  rw [if_neg (by omega), if_pos (by omega)]
end K01
namespace K01
open PySem PySem.Spec PyProof.Rows L2 Sw
def spLaw (K : PySem.W.Frag) : Sp := fun vs H Q _ => ∃ (a : Addr) (ns : List Int), vs = [.ref a] ∧ SqL K H a (ns.map V.int) ∧ ns.length ≤ 63 ∧ ∀ H', Q (.bl true) H'
def spTexts (K : PySem.W.Frag) : Sp := fun vs H Q _ => ∃ (b : Addr) (v : V) (n d : Int), vs = [.ref b, v] ∧ BagAt H b ∧ Cpl K H v n d ∧ SmF (n, d) ∧ ∀ (p : Addr) (H' : Hp) (zs : List Str), Rel b H H' → H' p = some (.lst (zs.map V.str)) → (∀ z ∈ zs, z.length ≤ 10000) → Q (.ref p) H'
structure Defs (P : Program) (w : World) (K : PySem.W.Frag) (mg : Str → Option Value) (base : Heap) : Prop where
  bag : CalG P w K mg base 1 "_law_bag" (spBag K)
  take : CalG P w K mg base 1 "_law_take" spTake
  some : CalG P w K mg base 2 "_law_some" spSome
  alike : CalG P w K mg base 1 "_law_alike" (spAlike K)
  compared : CalG P w K mg base 3 "compared" (spCmp K)
  least : CalG P w K mg base 4 "least_of" (spEnd K LeF)
  greatest : CalG P w K mg base 4 "greatest_of" (spEnd K (fun f g => LeF g f))
  anyf : CalG P w K mg base 4 "_law_any_fraction" (spFrac K)
  reduced : CalG P w K mg base 1 "reduced" spReduced
  added : CalG P w K mg base 1 "added" (spTwo K addF)
  lessened : CalG P w K mg base 2 "lessened" (spTwo K subF)
  times : CalG P w K mg base 1 "times" (spTwo K mulF)
  over : CalG P w K mg base 2 "over" (spDiv K)
  ladded : CalG P w K mg base 3 "_law_added" (spTwo K addF)
  llessened : CalG P w K mg base 3 "_law_lessened" (spTwo K subF)
  lmult : CalG P w K mg base 3 "_law_multiplied" (spTwo K mulF)
  ldiv : CalG P w K mg base 3 "_law_divided" (spDiv K)
  below : CalG P w K mg base 1 "_law_is_below" (spBelow K)
  total : CalG P w K mg base 2 "total" (spTotal K)
  ltotal : CalG P w K mg base 4 "_law_total" (spTotal K)
  asc : CalG P w K mg base 2 "_law_ascending" (spAsc K)
  ftext : CalG P w K mg base 2 "fraction_text" (spFText K)
  ltext : CalG P w K mg base 1 "_law_text" (spFText K)
  fin : CalG P w K mg base 2 "fraction_in" (spFIn K)
  lin : CalG P w K mg base 3 "_law_in_text" (spFIn K)
  texts : CalG P w K mg base 3 "_law_texts" (spTexts K)
section
variable {P : Program} {w : World} {K : PySem.W.Frag} {mg : Str → Option Value} {base : Heap}
abbrev slaw : Stmt := topS 41
theorem sc_law : FnScope ["script", "bag", "great", "near", "far", "turn", "one", "other", "factor", "told", "due", "row", "more", "some", "shown", "ascending", "text"] ["script"] (defScope slaw) := ⟨rfl, rfl, rfl, by decide +kernel, rfl, by decide +kernel, by decide +kernel⟩
theorem ok_law {f : Addr} {fd : FuncData} (F : Fun K "law" "law" slaw f fd) (B : Bt mg) (D : Defs P w K mg base) : FnG P w K mg base 5 f fd ["script"] (spLaw K) := by
  refine Fun.okG F sc_law (fun vs H Q E h => ?_) (fun cdv A outer s H vs Q E hg hr h => ?_)
  · obtain ⟨a, ns, rfl, _⟩ := h
    rfl
  obtain ⟨a, ns, rfl, hS, hl, k⟩ := h
  have hu := Room.u64 hr
  have c__law_bag := D.bag
  have c__law_take := D.take
  have c__law_some := D.some
  have c__law_alike := D.alike
  have c_compared := D.compared
  have c_least_of := D.least
  have c_greatest_of := D.greatest
  have c__law_any_fraction := D.anyf
  have c_reduced := D.reduced
  have c_added := D.added
  have c_lessened := D.lessened
  have c_times := D.times
  have c_over := D.over
  have c__law_added := D.ladded
  have c__law_lessened := D.llessened
  have c__law_multiplied := D.lmult
  have c__law_divided := D.ldiv
  have c__law_is_below := D.below
  have c_total := D.total
  have c__law_total := D.ltotal
  have c__law_ascending := D.asc
  have c_fraction_text := D.ftext
  have c__law_text := D.ltext
  have c_fraction_in := D.fin
  have c__law_in_text := D.lin
  have c__law_texts := D.texts
  refine ⟨_, (pss_cons (ps_set (i := 1) sc_law.nd rfl (Or.inr rfl) (pc c__law_bag hg hr (by decide) (by rfl) (pa_cons (pv 0) pa_nil)))
    (pss_cons (ps_set (i := 2) sc_law.nd rfl (Or.inl rfl) (pe_op op_add (pe_op op_pow pe_int pe_int) (pc c__law_take hg hr (by decide) (by rfl) (pa_cons (pv 1) (pa_cons pe_int pa_nil)))))
    (pss_cons (ps_par (i := 3) (j := 4) rfl sc_law.nd rfl rfl (by decide) rfl rfl (pa_cons (pe_tup (pa_cons (pe_op op_add (pv 2) pe_int) (pa_cons (pv 2) pa_nil))) (pa_cons (pe_tup (pa_cons (pv 2) (pa_cons (pe_op op_sub (pv 2) pe_int) pa_nil))) pa_nil)) (by rfl))
    (pss_cons (ps_if (pt_not (pt_val (pc c__law_alike hg hr (by decide) (by rfl) (pa_cons (pe_lst (pa_cons (pc c_compared hg hr (by decide) (by rfl) (pa_cons (pv 3) (pa_cons (pv 4) pa_nil))) (pa_cons (pc c_compared hg hr (by decide) (by rfl) (pa_cons (pv 4) (pa_cons (pv 3) pa_nil))) (pa_cons (pc c_least_of hg hr (by decide) (by rfl) (pa_cons (pe_lst (pa_cons (pv 4) (pa_cons (pv 3) pa_nil))) pa_nil)) (pa_cons (pc c_greatest_of hg hr (by decide) (by rfl) (pa_cons (pe_tup (pa_cons (pv 3) (pa_cons (pv 4) pa_nil))) pa_nil)) pa_nil))))) (pa_cons (pe_lst (pa_cons (pe_un un_neg pe_int) (pa_cons pe_int (pa_cons (pv 3) (pa_cons (pv 4) pa_nil))))) pa_nil)))))
      (pss_one (ps_ret pe_bl))
      pss_nil)
    (pss_cons (ps_for PassesOwn.never rfl (pi_range1 (by rfl) B.range (pa_cons pe_int pa_nil)) (pg_name (i := 5) sc_law.nd rfl (Or.inl rfl))
      (pss_cons (ps_par (i := 6) (j := 7) rfl sc_law.nd rfl rfl (by decide) rfl rfl (pa_cons (pc c__law_any_fraction hg hr (by decide) (by rfl) (pa_cons (pv 1) pa_nil)) (pa_cons (pc c__law_any_fraction hg hr (by decide) (by rfl) (pa_cons (pv 1) pa_nil)) pa_nil)) (by rfl))
      (pss_cons (ps_set (i := 8) sc_law.nd rfl (Or.inl rfl) (pc c__law_some hg hr (by decide) (by rfl) (pa_cons (pv 1) (pa_cons (pe_lst (pa_cons pe_int (pa_cons (pe_un un_neg pe_int) (pa_cons pe_int (pa_cons (pe_un un_neg pe_int) (pa_cons (pe_op op_pow pe_int pe_int) pa_nil)))))) pa_nil))))
      (pss_cons (ps_set (i := 9) sc_law.nd rfl (Or.inl rfl) (pe_lst (pa_cons (pc c_reduced hg hr (by decide) (by rfl) (pa_cons (pe_op op_mulW (pe_ix ix_tup (pv 6) pe_int (fun _ _ => rfl)) (pv 8)) (pa_cons (pe_op op_mulW (pe_ix ix_tup (pv 6) pe_int (fun _ _ => rfl)) (pv 8)) pa_nil))) (pa_cons (pc c_added hg hr (by decide) (by rfl) (pa_cons (pv 6) (pa_cons (pv 7) pa_nil))) (pa_cons (pc c_lessened hg hr (by decide) (by rfl) (pa_cons (pv 6) (pa_cons (pv 7) pa_nil))) (pa_cons (pc c_times hg hr (by decide) (by rfl) (pa_cons (pv 6) (pa_cons (pv 7) pa_nil))) (pa_cons (pc c_compared hg hr (by decide) (by rfl) (pa_cons (pv 6) (pa_cons (pv 7) pa_nil))) pa_nil)))))))
      (pss_cons (ps_set (i := 10) sc_law.nd rfl (Or.inl rfl) (pe_lst (pa_cons (pv 6) (pa_cons (pc c__law_added hg hr (by decide) (by rfl) (pa_cons (pv 6) (pa_cons (pv 7) pa_nil))) (pa_cons (pc c__law_lessened hg hr (by decide) (by rfl) (pa_cons (pv 6) (pa_cons (pv 7) pa_nil))) (pa_cons (pc c__law_multiplied hg hr (by decide) (by rfl) (pa_cons (pv 6) (pa_cons (pv 7) pa_nil))) pa_nil))))))
      (pss_cons (ps_expr (pe_bm PySem.F.plainAttrs_list PySem.F.slot_list_append PySem.F.type_list_append mt_append (pv 10) (pa_cons (pe_op op_sub (pe_callTy call_int1 (by rfl) B.int bb_int (pa_cons (pc c__law_is_below hg hr (by decide) (by rfl) (pa_cons (pv 7) (pa_cons (pv 6) pa_nil))) pa_nil)) (pe_callTy call_int1 (by rfl) B.int bb_int (pa_cons (pc c__law_is_below hg hr (by decide) (by rfl) (pa_cons (pv 6) (pa_cons (pv 7) pa_nil))) pa_nil))) pa_nil)))
      (pss_cons (ps_if (PW.pt (pw_or (pt_not (pt_val (pc c__law_alike hg hr (by decide) (by rfl) (pa_cons (pv 9) (pa_cons (pv 10) pa_nil))))) (pw_or1 (pt_cmpR op_ne (pc c_compared hg hr (by decide) (by rfl) (pa_cons (pv 6) (pa_cons (pv 6) pa_nil))) pe_int (nomark _)))))
        (pss_one (ps_ret pe_bl))
        pss_nil)
      (C8.pss_cut (ps_if (PW.pt (pw_and (pt_cmpR op_ne (pe_ix ix_tup (pv 7) pe_int (fun _ _ => rfl)) pe_int (nomark _)) (pw_and1 (pt_not (pt_val (pc c__law_alike hg hr (by decide) (by rfl) (pa_cons (pc c_over hg hr (by decide) (by rfl) (pa_cons (pv 6) (pa_cons (pv 7) pa_nil))) (pa_cons (pc c__law_divided hg hr (by decide) (by rfl) (pa_cons (pv 6) (pa_cons (pv 7) pa_nil))) pa_nil))))))))
        (pss_one (ps_ret pe_bl))
        pss_nil)
      (pss_cons (ps_setLc (i := 11) (own := [("more", 12)]) rfl sc_law.nd rfl rfl (sw_true rfl rfl rfl (by decide +kernel)) (pi_range1 (by rfl) B.range (pa_cons (pc c__law_take hg hr (by decide) (by rfl) (pa_cons (pv 1) (pa_cons pe_int pa_nil))) pa_nil)) (blkOk_by (own := [("more", 12)]) (N := ["script", "bag", "great", "near", "far", "turn", "one", "other", "factor", "told", "due", "row", "more", "some", "shown", "ascending", "text"]) (sc := (defScope slaw)) (by decide +kernel)) (fun _ _ _ _ _ => (pg_name (i := 12) sc_law.nd rfl (Or.inl rfl))) (fun _ _ _ _ _ => pts_nil) (fun _ _ _ _ _ => (pc c__law_any_fraction hg hr (by decide) (by rfl) (pa_cons (pv 1) pa_nil))))
      (pss_cons (ps_set (i := 13) sc_law.nd rfl (Or.inl rfl) (pc c__law_some hg hr (by decide) (by rfl) (pa_cons (pv 1) (pa_cons (pe_lst (pa_cons (pv 11) (pa_cons (pe_callTy call_tuple_of (by rfl) B.tuple bb_tuple (pa_cons (pv 11) pa_nil)) pa_nil))) pa_nil))))
      (pss_cons (ps_set (i := 14) sc_law.nd rfl (Or.inl rfl) (pe_callB (call_repr hg hu) (by rfl) B.repr bb_repr (pa_cons (pv 13) pa_nil)))
      (pss_cons (ps_if (pt_not (pt_val (pc c__law_alike hg hr (by decide) (by rfl) (pa_cons (pc c_total hg hr (by decide) (by rfl) (pa_cons (pv 13) pa_nil)) (pa_cons (pc c__law_total hg hr (by decide) (by rfl) (pa_cons (pv 11) pa_nil)) pa_nil)))))
        (pss_one (ps_ret pe_bl))
        pss_nil)
      (pss_cons (ps_set (i := 15) sc_law.nd rfl (Or.inl rfl) (pc c__law_ascending hg hr (by decide) (by rfl) (pa_cons (pv 11) pa_nil)))
      (C8.pss_cut (ps_if (PW.pt (pw_and (pt_cmpR (op_neW hu) (pv 11) (pe_lst pa_nil) (nomark _)) (pw_and1 (pt_not (pt_val (pc c__law_alike hg hr (by decide) (by rfl) (pa_cons (pe_lst (pa_cons (pc c_least_of hg hr (by decide) (by rfl) (pa_cons (pv 13) pa_nil)) (pa_cons (pc c_greatest_of hg hr (by decide) (by rfl) (pa_cons (pv 13) pa_nil)) pa_nil))) (pa_cons (pe_lst (pa_cons (pe_ix ix_list (pv 15) pe_int (fun _ _ => rfl)) (pa_cons (pe_ix ix_list (pv 15) (pe_un un_neg pe_int) (fun _ _ => rfl)) pa_nil))) pa_nil))))))))
        (pss_one (ps_ret pe_bl))
        pss_nil)
      (pss_cons (ps_if (PW.pt (pw_or (pt_cmpR op_ne (pe_callB (call_repr hg hu) (by rfl) B.repr bb_repr (pa_cons (pv 13) pa_nil)) (pv 14) (nomark _)) (pw_or (pt_not (pt_val (pc c__law_alike hg hr (by decide) (by rfl) (pa_cons (pc c_fraction_text hg hr (by decide) (by rfl) (pa_cons (pv 6) pa_nil)) (pa_cons (pc c__law_text hg hr (by decide) (by rfl) (pa_cons (pv 6) pa_nil)) pa_nil))))) (pw_or1 (pt_cmpR (op_neW hu) (pc c_fraction_in hg hr (by decide) (by rfl) (pa_cons (pc c__law_text hg hr (by decide) (by rfl) (pa_cons (pv 6) pa_nil)) pa_nil)) (pv 6) (nomark _))))))
        (pss_one (ps_ret pe_bl))
        pss_nil)
      (pss_one (ps_for PassesOwn.never rfl (pi_list (pc c__law_texts hg hr (by decide) (by rfl) (pa_cons (pv 1) (pa_cons (pv 6) pa_nil)))) (pg_name (i := 16) sc_law.nd rfl (Or.inl rfl))
        (pss_one (ps_if (pt_not (pt_val (pc c__law_alike hg hr (by decide) (by rfl) (pa_cons (pc c_fraction_in hg hr (by decide) (by rfl) (pa_cons (pv 16) pa_nil)) (pa_cons (pc c__law_in_text hg hr (by decide) (by rfl) (pa_cons (pv 16) pa_nil)) pa_nil)))))
          (pss_one (ps_ret pe_bl))
          pss_nil)))))))))))))))))))
    (pss_one (ps_ret pe_bl))))))), ?_⟩
  refine ⟨_, rfl, a, ns, rfl, hS, hl, fun b H1 s1 nb hb => ?_⟩
  refine ⟨_, _, rfl, rfl, ⟨by decide, by decide, by decide⟩, _, rfl, b, _, rfl, hb, by decide, by decide, fun t H2 t0 t1 R2 => ⟨_, _, rfl, rfl, ?_⟩⟩
  have e11 : (10 : Int) ^ (11 : Int).toNat = 100000000000 := by decide
  rw [e11]
  obtain ⟨sn, sf⟩ := near_sm (g := 100000000000 + t) (by omega) (by omega)
  -- near, far
  refine ⟨_, rfl, _, _, rfl, rfl, _, rfl, by show 2 ≤ sizeLine; decide, fun p np => ⟨_, rfl, _, rfl, _, _, rfl, rfl, by show 2 ≤ sizeLine; decide, fun q nq => ⟨_, _, rfl, ?_⟩⟩⟩
  have np' : H2 p = none := np
  have nq' : (upd H2 p (.tup [.int (100000000000 + t + 1), .int (100000000000 + t)])) q = none := nq
  have sp := same_upd (o := .tup [.int ((100000000000 + t) + 1), .int (100000000000 + t)]) np'
  have sq := same_upd (o := .tup [.int (100000000000 + t), .int ((100000000000 + t) - 1)]) nq'
  have cn : Cpl K (upd (upd H2 p (.tup [.int ((100000000000 + t) + 1), .int (100000000000 + t)])) q (.tup [.int (100000000000 + t), .int ((100000000000 + t) - 1)])) (.ref p) ((100000000000 + t) + 1) (100000000000 + t) := (Cpl.mk upd_same).same sq
  have cf : Cpl K (upd (upd H2 p (.tup [.int ((100000000000 + t) + 1), .int (100000000000 + t)])) q (.tup [.int (100000000000 + t), .int ((100000000000 + t) - 1)])) (.ref q) (100000000000 + t) ((100000000000 + t) - 1) := .mk upd_same
  have R3 := (R2.same sp).same sq
  have hb3 := R3.bag
  clear R3 R2 sp sq np' nq'
  revert cn cf hb3
  generalize upd (upd H2 p (.tup [.int ((100000000000 + t) + 1), .int (100000000000 + t)])) q (.tup [.int (100000000000 + t), .int ((100000000000 + t) - 1)]) = H3x
  intro cn cf hb3
  -- compared, least_of, greatest_of of two that are near
  refine ⟨_, rfl, _, rfl, .ref p, .ref q, _, _, _, _, rfl, cn, cf, sn.bn, sn.bd, sf.bn, sf.bd, sn.fr.pos, sf.fr.pos, fun H3y ty => ?_⟩
  rw [cmpF_near.1]
  refine ⟨_, rfl, _, rfl, .ref q, .ref p, _, _, _, _, rfl, cf.same ty, cn.same ty, sf.bn, sf.bd, sn.bn, sn.bd, sf.fr.pos, sn.fr.pos, fun H3 tz => ?_⟩
  rw [cmpF_near.2]
  have cn := (cn.same ty).same tz
  have cf := (cf.same ty).same tz
  have hb3 := (hb3.same ty).same tz
  clear ty tz
  refine ⟨_, rfl, _, rfl, by show 2 ≤ sizeLine; decide, fun u nu => ?_⟩
  have su := same_upd (o := .lst [.ref q, .ref p]) nu
  refine ⟨u, [((100000000000 + t), (100000000000 + t) - 1), ((100000000000 + t) + 1, (100000000000 + t))], rfl, ⟨[.ref q, .ref p], .inl (.inl (.inl upd_same)), cf.same su, cn.same su, trivial⟩, fun f hf => ?_, (show 0 < 2 by decide), fun v f Hu sU hv hf hm => ?_⟩
  · rcases List.mem_cons.mp hf with rfl | hf
    · exact sf
    · rw [List.mem_singleton.mp hf]
      exact sn
  have ef : f = ((100000000000 + t) + 1, (100000000000 + t)) := by
    rcases List.mem_cons.mp hf with rfl | hf
    · exact absurd (hm _ (List.mem_cons_of_mem _ List.mem_cons_self)) near_lt.1
    · exact List.mem_singleton.mp hf
  subst ef
  refine ⟨_, rfl, _, rfl, by show 2 ≤ sizeLine; decide, fun x nx => ?_⟩
  have sx := same_upd (o := .tup [.ref p, .ref q]) nx
  have sux0 := (su.trans sU).trans sx
  refine ⟨x, [((100000000000 + t) + 1, (100000000000 + t)), ((100000000000 + t), (100000000000 + t) - 1)], rfl, ⟨[.ref p, .ref q], .inr (.inl (.inl upd_same)), cn.same sux0, cf.same sux0, trivial⟩, fun f hf => ?_, (show 0 < 2 by decide), fun v2 f2 Hw sW hv2 hf2 hm2 => ?_⟩
  · rcases List.mem_cons.mp hf with rfl | hf
    · exact sn
    · rw [List.mem_singleton.mp hf]
      exact sf
  have ef2 : f2 = ((100000000000 + t), (100000000000 + t) - 1) := by
    rcases List.mem_cons.mp hf2 with rfl | hf2
    · exact absurd (hm2 _ (List.mem_cons_of_mem _ List.mem_cons_self)) near_lt.1
    · exact List.mem_singleton.mp hf2
  subst ef2
  have hv' := (hv.same sx).same sW
  have sux := sux0.trans sW
  refine ⟨by show 4 ≤ sizeLine; decide, fun y ny => ?_⟩
  have sy := same_upd (o := .lst [.int (-1), .int 1, v, v2]) ny
  refine ⟨_, rfl, _, rfl, _, rfl, by show 4 ≤ sizeLine; decide, fun z nz => ?_⟩
  have sz := same_upd (o := .lst [.int (-1), .int 1, .ref p, .ref q]) nz
  have hy := sz _ _ (upd_same (H := Hw) (a := y) (o := .lst [.int (-1), .int 1, v, v2]))
  have sAll := (sux.trans sy).trans sz
  obtain ⟨ok1, nd1, _, _⟩ := sd_list (ds := [.int (-1), .int 1, fD ((100000000000 + t) + 1, (100000000000 + t)), fD ((100000000000 + t), (100000000000 + t) - 1)]) (fun d hd => by
    simp only [List.mem_cons, List.not_mem_nil, or_false] at hd
    rcases hd with rfl | rfl | rfl | rfl
    · exact sd_int (by decide +kernel)
    · exact sd_int (by decide +kernel)
    · exact sn.sd
    · exact sf.sd) (show 4 ≤ 8 by decide)
  refine ⟨_, _, (fun _ => False), _, rfl, .lst (fun z => z) (.inl hy) (.cons (.int _) (.cons (.int _) (.cons ((hv'.same sy).same sz).dt (.cons ((hv2.same sy).same sz).dt .nil)))), .lst (fun z => z) (.inl upd_same) (.cons (.int _) (.cons (.int _) (.cons (cn.same sAll).dt (.cons (cf.same sAll).dt .nil)))), ok1, .inl nd1, ?_⟩
  refine ⟨_, rfl, iteF ?_⟩
  have hb4 := hb3.same sAll
  clear sAll hy sz sy hv' sux sux0 sW sU sx su nz ny nx nu hv2 hv hm hm2 hf hf2
  -- three turns
  have go : ∀ (Hx : Hp) (Ex : Ends), BagAt Hx b → (∀ σ H', Ex.nx σ H') → True := fun _ _ _ _ => trivial
  revert hb4
  generalize upd (upd Hw y (.lst [.int (-1), .int 1, v, v2])) z (.lst [.int (-1), .int 1, .ref p, .ref q]) = H4
  intro hb4
  refine ⟨3, rfl, by decide, by decide, for_range (lo := 0) (n := 3) (fun i σ H => ∃ o2 o3 o4 o5 o6 o7 o8 o9 o10 o11 o13 o14 o15 o16, σ = [some (.ref a), some (.ref b), o2, o3, o4, o5, o6, o7, o8, o9, o10, o11, none, o13, o14, o15, o16] ∧ BagAt H b)
    ⟨_, _, _, _, _, _, _, _, _, _, _, _, _, _, rfl, hb4⟩ (fun i σ H5 hi h => ?_) fun σ H5 h => k _⟩
  obtain ⟨o2, o3, o4, o5, o6, o7, o8, o9, o10, o11, o13, o14, o15, o16, rfl, hb5⟩ := h
  -- one, other
  refine ⟨_, rfl, b, (fun a => a = b ∨ a = sysModules), rfl, .inl rfl, hb5, MuOk.bag hb5, fun v1 H6 f1 s1 R6 c1 => ?_⟩
  refine ⟨_, rfl, b, (fun a => a = b ∨ a = sysModules), rfl, .inl rfl, R6.bag, MuOk.bag R6.bag, fun v2 H7 f2 s2 R7 c2 => ⟨_, _, rfl, ?_⟩⟩
  have c1 := c1.fut (R7.fut (mu := fun a => a = b) rfl R6.bag)
  have hb7 := R7.bag
  -- factor
  refine gv_some (K := K) (mu := fun a => a = b ∨ a = sysModules) (D := fun d => ∃ j : Int, d = .int j ∧ j ≠ 0 ∧ j.natAbs ≤ 1000000000) (n := 5) (.inl rfl) rfl
    (gvA_cons (.inl rfl) (ge_int.gv ⟨1, rfl, by decide, by decide⟩) (gvA_cons (.inl rfl) (ge_neg.gv ⟨-1, rfl, by decide, by decide⟩) (gvA_cons (.inl rfl) (ge_int.gv ⟨6, rfl, by decide, by decide⟩) (gvA_cons (.inl rfl) (ge_neg.gv ⟨-35, rfl, by decide, by decide⟩)
      (gvA_cons (.inl rfl) (fun H r m Q q => ⟨_, _, rfl, rfl, ⟨by decide, by decide, by decide⟩, q _ H (.int (10 ^ 9)) ⟨_, rfl, by decide, by decide⟩ (.refl r.bag) (.int _) (own_not fun _ z => nomatch z)⟩) gvA_nil))))) (by decide) (by decide) H7 (.refl hb7) (MuOk.bag hb7) _ fun vj H8 dj hdj R8 hvj _ => ?_
  obtain ⟨j, rfl, j0, j1⟩ := hdj
  cases hvj
  have c1 := c1.fut (R8.fut (mu := fun a => a = b) rfl hb7)
  have c2 := c2.fut (R8.fut (mu := fun a => a = b) rfl hb7)
  have hb8 := R8.bag
  have hb8 := R8.bag
  obtain ⟨a1, rfl, h1⟩ := id c1
  -- told
  have dp := s1.fr.pos
  have jw : j.natAbs < 2 ^ 8000 := Nat.lt_of_le_of_lt j1 (Nat.lt_of_lt_of_le (show 1000000000 < 2 ^ 40 by decide) (pow_ge (by decide)))
  have jb : j.natAbs < 2 ^ 40 := Nat.lt_of_le_of_lt j1 (by decide)
  have er : redI (f1.1 * j) (f1.2 * j) = (f1.1, f1.2) := redI_eq (Int.mul_ne_zero (by omega) j0) s1.fr (by rw [Int.mul_assoc, Int.mul_comm j])
  refine ⟨_, rfl, a1, _, 0, _, rfl, rfl, h1, atI_nat (j := 0) rfl, _, rfl, _, _, rfl, rfl, mulW s1.bn.w jw, ?_⟩
  refine ⟨_, rfl, a1, _, 1, _, rfl, rfl, h1, atI_nat (j := 1) rfl, _, rfl, _, _, rfl, rfl, mulW s1.bd.w jw, ?_⟩
  refine ⟨_, _, rfl, Int.mul_ne_zero (by omega) j0, Nat.lt_of_lt_of_le (natAbs_lt_mul s1.d40 jb) (pow_ge (by decide)), fun p1 H9 t1 _ e1 => ?_⟩
  rw [er] at e1
  have d1 : Cpl K H9 (.ref p1) f1.1 f1.2 := .mk e1
  refine ⟨_, rfl, _, rfl, _, _, f1.1, f1.2, f2.1, f2.2, rfl, c1.same t1, c2.same t1, s1.fr, s2.fr, s1.bn, s1.bd, s2.bn, s2.bd, fun p2 H10 t2 _ e2 => ?_⟩
  have t12 := t1.trans t2
  refine ⟨_, rfl, _, rfl, _, _, f1.1, f1.2, f2.1, f2.2, rfl, c1.same t12, c2.same t12, s1.fr, s2.fr, s1.bn, s1.bd, s2.bn, s2.bd, fun p3 H11 t3 _ e3 => ?_⟩
  have t13 := t12.trans t3
  refine ⟨_, rfl, _, rfl, _, _, f1.1, f1.2, f2.1, f2.2, rfl, c1.same t13, c2.same t13, s1.fr, s2.fr, s1.bn, s1.bd, s2.bn, s2.bd, fun p4 H12x t4x _ e4x => ?_⟩
  have t14x := t13.trans t4x
  refine ⟨_, rfl, _, rfl, _, _, f1.1, f1.2, f2.1, f2.2, rfl, c1.same t14x, c2.same t14x, s1.bn, s1.bd, s2.bn, s2.bd, s1.fr.pos, s2.fr.pos, fun H12 tq => ?_⟩
  have t4 := t4x.trans tq
  have e4 := tq _ _ e4x
  have t14 := t13.trans t4
  refine ⟨by show 5 ≤ sizeLine; decide, fun pt npt => ?_⟩
  have tt := same_upd (o := .lst [.ref p1, .ref p2, .ref p3, .ref p4, .int (cmpF f1.1 f1.2 f2.1 f2.2)]) npt
  have told : Dt K (fun _ => False) (upd H12 pt (.lst [.ref p1, .ref p2, .ref p3, .ref p4, .int (cmpF f1.1 f1.2 f2.1 f2.2)])) (.ref pt) (.list [fD f1, fD (addF f1.1 f1.2 f2.1 f2.2), fD (subF f1.1 f1.2 f2.1 f2.2), fD (mulF f1.1 f1.2 f2.1 f2.2), .int (cmpF f1.1 f1.2 f2.1 f2.2)]) :=
    .lst (fun z => z) (.inl upd_same) (.cons ((((d1.same t2).same t3).same t4).same tt).dt (.cons (((((Cpl.mk e2).same t3).same t4)).same tt).dt (.cons (((Cpl.mk e3).same t4).same tt).dt (.cons ((Cpl.mk e4).same tt).dt (.cons (.int _) .nil)))))
  have t15 := t14.trans tt
  revert told t15
  clear tt
  generalize upd H12 pt (.lst [.ref p1, .ref p2, .ref p3, .ref p4, .int (cmpF f1.1 f1.2 f2.1 f2.2)]) = H13
  intro told t15
  -- due
  refine ⟨_, rfl, _, rfl, _, rfl, _, _, f1.1, f1.2, f2.1, f2.2, rfl, c1.same t15, c2.same t15, s1.fr, s2.fr, s1.bn, s1.bd, s2.bn, s2.bd, fun q2 H14 t16 _ g2 => ?_⟩
  have u16 := t15.trans t16
  refine ⟨_, rfl, _, rfl, _, _, f1.1, f1.2, f2.1, f2.2, rfl, c1.same u16, c2.same u16, s1.fr, s2.fr, s1.bn, s1.bd, s2.bn, s2.bd, fun q3 H15 t17 _ g3 => ?_⟩
  have u17 := u16.trans t17
  refine ⟨_, rfl, _, rfl, _, _, f1.1, f1.2, f2.1, f2.2, rfl, c1.same u17, c2.same u17, s1.fr, s2.fr, s1.bn, s1.bd, s2.bn, s2.bd, fun q4 H16 t18 _ g4 => ?_⟩
  have u18 := u17.trans t18
  refine ⟨by show 4 ≤ sizeLine; decide, fun pd npd => ?_⟩
  have td := same_upd (o := .lst [.ref a1, .ref q2, .ref q3, .ref q4]) npd
  have u19 := u18.trans td
  refine ⟨_, rfl, .inl ⟨rfl, _, .inl (.inl upd_same)⟩, ?_⟩
  refine ⟨_, rfl, _, rfl, _, _, f2.1, f2.2, f1.1, f1.2, rfl, c2.same u19, c1.same u19, s2.bn, s2.bd, s1.bn, s1.bd, .inr ⟨_, rfl, ?_⟩⟩
  refine ⟨_, rfl, _, rfl, _, _, f1.1, f1.2, f2.1, f2.2, rfl, c1.same u19, c2.same u19, s1.bn, s1.bd, s2.bn, s2.bd, .inr ⟨_, rfl, _, _, rfl, rfl, ?_⟩⟩
  refine ⟨pd, _, .int (cmpF f1.1 f1.2 f2.1 f2.2), rfl, congrArg (fun z => [V.int z]) (cmp_sum f1 f2), upd_same, (show 4 < sizeLine by decide), ?_⟩
  have sD : Same H16 (upd (upd H16 pd (.lst [.ref a1, .ref q2, .ref q3, .ref q4])) pd (.lst ([.ref a1, .ref q2, .ref q3, .ref q4] ++ [.int (cmpF f1.1 f1.2 f2.1 f2.2)]))) := fun a o e => by
    rw [upd_ne (ne_of_none e npd)]
    exact td _ _ e
  have due : Dt K (fun _ => False) (upd (upd H16 pd (.lst [.ref a1, .ref q2, .ref q3, .ref q4])) pd (.lst ([.ref a1, .ref q2, .ref q3, .ref q4] ++ [.int (cmpF f1.1 f1.2 f2.1 f2.2)]))) (.ref pd) (.list [fD f1, fD (addF f1.1 f1.2 f2.1 f2.2), fD (subF f1.1 f1.2 f2.1 f2.2), fD (mulF f1.1 f1.2 f2.1 f2.2), .int (cmpF f1.1 f1.2 f2.1 f2.2)]) :=
    .lst (fun z => z) (.inl upd_same) (.cons ((c1.same u18).same sD).dt (.cons (((((Cpl.mk g2).same t17).same t18)).same sD).dt (.cons (((Cpl.mk g3).same t18).same sD).dt (.cons ((Cpl.mk g4).same sD).dt (.cons (.int _) .nil)))))
  have told2 := told.fut (.of_same (((t16.trans t17).trans t18).trans sD))
  have u20 := u18.trans sD
  revert due told2 u20
  clear sD td u19
  generalize upd (upd H16 pd (.lst [.ref a1, .ref q2, .ref q3, .ref q4])) pd (.lst ([.ref a1, .ref q2, .ref q3, .ref q4] ++ [.int (cmpF f1.1 f1.2 f2.1 f2.2)])) = H17x
  intro due told2 u20
  obtain ⟨sa, sb, sc⟩ := sd_ops s1 s2
  obtain ⟨ok2, nd2, _, _⟩ := sd_list (ds := [fD f1, fD (addF f1.1 f1.2 f2.1 f2.2), fD (subF f1.1 f1.2 f2.1 f2.2), fD (mulF f1.1 f1.2 f2.1 f2.2), .int (cmpF f1.1 f1.2 f2.1 f2.2)]) (fun d hd => by
    simp only [List.mem_cons, List.not_mem_nil, or_false] at hd
    rcases hd with rfl | rfl | rfl | rfl | rfl
    · exact s1.sd
    · exact sa
    · exact sb
    · exact sc
    · exact sd_cmp _ _ _ _) (show 5 ≤ 8 by decide)
  refine ⟨_, rfl, _, rfl, _, _, (fun _ => False), _, rfl, told2, due, ok2, .inl nd2, ?_⟩
  refine ⟨_, rfl, iteF ?_⟩
  have c1a := c1.same u20
  have c2a := c2.same u20
  refine ⟨_, rfl, _, rfl, _, _, f1.1, f1.2, f1.1, f1.2, rfl, c1a, c1a, s1.bn, s1.bd, s1.bn, s1.bd, s1.fr.pos, s1.fr.pos, fun H17 tz => ?_⟩
  have c1a := c1a.same tz
  have c2a := c2a.same tz
  rw [cmp_self]
  refine ⟨rfl, _, rfl, iteF ?_⟩
  have hb17 := (hb8.same u20).same tz
  clear tz due told2 told tq t4x t14x e4x t16 t17 t18 u16 u17 u18 t15 t14 t13 t12 t1 t2 t3 t4 d1 e1 e2 e3 e4 g2 g3 g4 ok2 nd2
  -- over
  obtain ⟨a2, rfl, h2⟩ := id c2a
  refine ⟨fun σ H' => σ = [some (.ref a), some (.ref b), o2, o3, o4, some (.int (0 + (i : Nat))), some (.ref a1), some (.ref a2), some (.int j), some (.ref pt), some (.ref pd), o11, none, o13, o14, o15, o16] ∧ Same H17 H', ?_, ?_⟩
  · refine ⟨_, rfl, a2, _, 0, _, rfl, rfl, h2, atI_nat (j := 0) rfl, rfl, _, rfl, iteNe (fun e => ?_) fun e => ?_⟩
    · refine ⟨_, rfl, _, rfl, _, _, f1.1, f1.2, f2.1, f2.2, rfl, c1a, c2a, s1.fr, s2.fr, s1.bn, s1.bd, s2.bn, s2.bd, e, fun p H18 t1 _ e1 => ?_⟩
      refine ⟨_, rfl, _, rfl, _, _, f1.1, f1.2, f2.1, f2.2, rfl, c1a.same t1, c2a.same t1, s1.fr, s2.fr, s1.bn, s1.bd, s2.bn, s2.bd, e, fun q H19 t2 _ e2 => ?_⟩
      obtain ⟨m1, _, _, _⟩ := s1.m80 s2
      have m2 := natAbs_lt_mul s1.d40 s2.n40
      have big0 : (2 : Nat) ^ 80 ≤ 2 ^ 1200 := pow_ge (by decide)
      have sd : Sd (fD (divF f1.1 f1.2 f2.1 f2.2)) := sd_red (Int.mul_ne_zero (by have := s1.fr.pos; omega) e) (Nat.lt_of_lt_of_le m1 big0) (Nat.lt_of_lt_of_le m2 big0)
      refine ⟨_, _, (fun _ => False), _, rfl, ((Cpl.mk e1).same t2).dt, (Cpl.mk e2).dt, sd.ok', .inl sd.nd, ?_⟩
      exact ⟨_, rfl, iteF ⟨rfl, t1.trans t2⟩⟩
    · exact ⟨rfl, .refl _⟩
  rintro σ H18 ⟨rfl, t18⟩
  have c1b := c1a.same t18
  have hb18 := hb17.same t18
  -- row
  refine ⟨_, rfl, b, _, rfl, hb18, by decide, by decide, fun n H19 n0 n1 R19 => ⟨n, rfl, by omega, by omega, fun Dr nD => ?_⟩⟩
  have Rd := R19.same (same_upd (o := .lst []) nD)
  refine lc_it (walk_range (lo := 0) (n := n.toNat)) (fun i H' => ∃ xs fs, H' Dr = some (.lst xs) ∧ RowF K H' xs fs ∧ (∀ f ∈ fs, SmF f) ∧ fs.length = i ∧ Rel b H18 H') ⟨[], [], upd_same, trivial, (fun f h => nomatch h), rfl, Rd⟩ (fun _ _ _ _ => True.intro) (fun i' x H20 H21 hi' h y => ?_) fun H20 h => ?_
  · obtain ⟨xs, fs, hD, hrow, hsm, hlen, R20⟩ := h
    obtain ⟨rfl, rfl⟩ := y
    have nDb : Dr ≠ b := fun z => by
      obtain ⟨_, _, _, _, _, q, _⟩ := R19.bag
      rw [z, q] at nD
      cases nD
    refine ⟨rfl, _, rfl, b, (fun a => a = b ∨ a = sysModules), rfl, .inl rfl, R20.bag, MuOk.bag R20.bag, fun v H22 g sg R22 cg => ?_⟩
    have hD2 := R22.keep _ _ nDb hD
    refine ⟨_, hD2, small1000 (by rw [hrow.len]; omega), xs ++ [v], fs ++ [g], upd_same, ?_, ?_, by rw [List.length_append, hlen]; rfl, (R20.trans R22).at hb18 (R19.some nD)⟩
    · exact RowF.snoc (cg.fut (fut_at hD2)) ((hrow.fut (R22.fut (mu := fun a => a = b) rfl R20.bag)).fut (fut_at hD2))
    · intro f hf
      rcases List.mem_append.mp hf with hf | hf
      · exact hsm f hf
      · rw [List.mem_singleton.mp hf]
        exact sg
  obtain ⟨xs, fs, hD, hrow, hsm, hlen, R20⟩ := h
  have hlen5 : fs.length ≤ 5 := by omega
  have c1c := c1b.fut (R20.fut (mu := fun a => a = b) rfl hb18)
  have hDb : Dr ≠ b := fun z => by
    obtain ⟨_, _, _, _, _, q, _⟩ := R19.bag
    rw [z, q] at nD
    cases nD
  have hb20 := R20.bag
  clear R20 R19 Rd nD hb18 t18 c1b
  -- some
  refine ⟨_, rfl, _, rfl, _, rfl, Dr, xs, rfl, .inl ⟨.inl (.inl hD), fun tp ntp => ⟨by show 2 ≤ sizeLine; decide, fun lp nlp => ?_⟩⟩⟩
  have st1 := same_upd (o := .tup xs) ntp
  have st2 := same_upd (o := .lst [.ref Dr, .ref tp]) nlp
  have st := st1.trans st2
  have nlb : lp ≠ b := fun z => by
    obtain ⟨_, _, _, _, _, q, _⟩ := hb20.same st1
    rw [z, q] at nlp
    cases nlp
  refine ⟨b, lp, _, rfl, hb20.same st, nlb, upd_same, (show 0 < 2 by decide), (show 2 ≤ 1000 by decide), fun ix sv H23 hix R23 => ?_⟩
  have hD23 := R23.keep _ _ hDb (st _ _ hD)
  have hrow23 := (hrow.same st).fut (R23.fut (mu := fun a => a = b) rfl (hb20.same st))
  have c1d := (c1c.same st).fut (R23.fut (mu := fun a => a = b) rfl (hb20.same st))
  have hb23 := R23.bag
  have ht23 : H23 tp = some (.tup xs) := R23.keep _ _ (fun z => by
    obtain ⟨_, _, _, _, _, q, _⟩ := hb20
    rw [z, q] at ntp
    cases ntp) (st2 _ _ upd_same)
  have hsv : ∃ sa, sv = .ref sa ∧ (SqL K H23 sa xs ∨ SqT K H23 sa xs) ∧ ∃ d, Dt K (fun _ => False) H23 sv d ∧ Ok d ∧ d.hasDict = false := by
    have sds : ∀ d ∈ fs.map fD, Sd d := fun d hd => by
      obtain ⟨f, hf, rfl⟩ := List.mem_map.mp hd
      exact (hsm f hf).sd
    obtain ⟨k1, k2, k3, k4⟩ := sd_list sds (by rw [List.length_map]; omega)
    match ix, hix with
    | 0, hix =>
      cases hix
      exact ⟨Dr, rfl, .inl (.inl (.inl hD23)), .list (fs.map fD), .lst (fun z => z) (.inl hD23) hrow23.dt, k1, k2⟩
    | 1, hix =>
      cases hix
      exact ⟨tp, rfl, .inr (.inl (.inl ht23)), .tuple (fs.map fD), .tup (.inl ht23) hrow23.dt, k3, k4⟩
    | i + 2, hix => simp at hix
  clear st st1 st2 hix hrow hD c1c
  obtain ⟨sa, rfl, hseq, dsv, hdsv, oks, nds⟩ := hsv
  -- shown, total
  refine ⟨_, rfl, .ref sa, _, dsv, rfl, hdsv, oks.show, .inl nds, by have := oks.dp; omega, oks.fits, ?_⟩
  refine ⟨_, rfl, sa, fs, rfl, ⟨xs, hseq, hrow23⟩, hsm, by omega, fun w1 H24 t1 e1 => ?_⟩
  refine ⟨_, rfl, Dr, fs, rfl, ⟨xs, .inl (.inl (.inl (t1 _ _ hD23))), hrow23.same t1⟩, hsm, by omega, fun w2 H25 t2 e2 => ?_⟩
  have tbs := tb_sum fs fs.length hsm (Nat.le_refl _)
  rw [List.take_length] at tbs
  have sds := tbs.sd (by omega)
  refine ⟨_, _, (fun _ => False), _, rfl, (e1.same t2).dt, e2.dt, sds.ok', .inl sds.nd, ?_⟩
  refine ⟨_, rfl, iteF ?_⟩
  have t12 := t1.trans t2
  -- ascending
  refine ⟨_, rfl, Dr, xs, fs, rfl, .inl (.inl (t12 _ _ hD23)), hrow23.same t12, hsm, by omega, fun pa H26 ys gs t3 hpa hys g1 g2 srt => ?_⟩
  have t13 := t12.trans t3
  have hrow26 := hrow23.same t13
  have hD26 := t13 _ _ hD23
  have hseq26 : SqL K H26 sa xs ∨ SqT K H26 sa xs := hseq.imp (fun z => t13.seq z) (fun z => t13.seqT z)
  clear e1 e2 t1 t2 t3 t12
  refine ⟨fun σ H' => σ = [some (.ref a), some (.ref b), o2, o3, o4, some (.int (0 + (i : Nat))), some (.ref a1), some (.ref a2), some (.int j), some (.ref pt), some (.ref pd), some (.ref Dr), none, some (.ref sa), some (.str dsv.shown), some (.ref pa), o16] ∧ Same H26 H', ?_, ?_⟩
  · refine ⟨_, rfl, Nat.zero_le _, fun pe npe => ?_⟩
    have tE := same_upd (o := .lst []) npe
    refine ⟨(fun _ => False), .list (fs.map fD), .list [], .lst (fun z => z) (.inl (tE _ _ hD26)) (hrow26.same tE).dt, .lst (fun z => z) (.inl upd_same) .nil, ?_, shaped_list0, ?_⟩
    · have sdl : ∀ d ∈ fs.map fD, Sd d := fun d hd => by
        obtain ⟨f, hf, rfl⟩ := List.mem_map.mp hd
        exact (hsm f hf).sd
      obtain ⟨k1, k2, _, _⟩ := sd_list sdl (by rw [List.length_map]; omega)
      exact k1.shaped k2
    cases efs : fs with
    | nil => exact ⟨_, rfl, iteF (iteF ⟨rfl, tE⟩)⟩
    | cons f0 fr =>
      have hne : 0 < fs.length := by rw [efs]; exact Nat.succ_pos _
      have ev : PyData.eqv (.list ((f0 :: fr).map fD)) (.list []) = false := by simp [PyData.eqv, PyData.eqvAll]
      rw [ev]
      refine ⟨_, rfl, iteT ?_⟩
      have hrowE := hrow26.same tE
      have hseqE : SqL K (upd H26 pe (.lst [])) sa xs ∨ SqT K (upd H26 pe (.lst [])) sa xs := hseq26.imp (fun z => tE.seq z) (fun z => tE.seqT z)
      refine ⟨_, rfl, sa, fs, rfl, ⟨xs, hseqE, hrowE⟩, hsm, hne, fun v f Hu sU hv hf hm => ?_⟩
      refine ⟨_, rfl, sa, fs, rfl, ⟨xs, hseqE.imp (fun z => sU.seq z) (fun z => sU.seqT z), hrowE.same sU⟩, hsm, hne, fun v' f' Hw sW hv' hf' hm' => ⟨by show 2 ≤ sizeLine; decide, fun l1 nl1 => ?_⟩⟩
      have tL := same_upd (o := .lst [v, v']) nl1
      have gne : 0 < gs.length := List.length_pos_of_mem (g2 f hf)
      have yne : 0 < ys.length := by rw [hys.len]; exact gne
      have hysE := (((hys.same tE).same sU).same sW).same tL
      have hpaE := tL _ _ (sW _ _ (sU _ _ (tE _ _ hpa)))
      obtain ⟨g0, eg0, cg0⟩ := hysE.get (List.getElem?_eq_getElem yne)
      have hz : ys.length - 1 < ys.length := by omega
      obtain ⟨gz, egz, cgz⟩ := hysE.get (List.getElem?_eq_getElem hz)
      have elast : gs.getLast? = some gz := by
        rw [List.getLast?_eq_getElem?, ← hys.len]
        exact egz
      have at1 : atI ys (-1) = some ys[ys.length - 1] := by
        have e : ys = ys.dropLast ++ [ys[ys.length - 1]] := by
          have := List.dropLast_concat_getLast (List.ne_nil_of_length_pos yne)
          rw [List.getLast_eq_getElem] at this
          exact this.symm
        conv => lhs; rw [e]
        exact atI_last _ _
      refine ⟨_, rfl, pa, ys, 0, ys[0], rfl, rfl, .inl (.inl hpaE), atI_nat (j := 0) (List.getElem?_eq_getElem yne), _, rfl, _, rfl, pa, ys, -1, ys[ys.length - 1], rfl, rfl, .inl (.inl hpaE), at1, by show 2 ≤ sizeLine; decide, fun l2 nl2 => ?_⟩
      have tM := same_upd (o := .lst [ys[0], ys[ys.length - 1]]) nl2
      have fr1 := (hsm f hf).fr
      have fr2 := (hsm f' hf').fr
      have m0 := List.mem_of_getElem? eg0
      have mz := List.mem_of_getElem? egz
      have ef : f = g0 := leF_anti fr1 (hsm _ (g1 _ m0)).fr (hm _ (g1 _ m0)) (srt_first srt eg0 _ (g2 f hf))
      have ez : f' = gz := leF_anti fr2 (hsm _ (g1 _ mz)).fr (srt_last srt elast _ (g2 f' hf')) (hm' _ (g1 _ mz))
      subst ef ez
      obtain ⟨k1, k2, _, _⟩ := sd_list (ds := [fD f, fD f']) (fun d hd => by
        simp only [List.mem_cons, List.not_mem_nil, or_false] at hd
        rcases hd with rfl | rfl
        · exact (hsm f hf).sd
        · exact (hsm f' hf').sd) (show 2 ≤ 8 by decide)
      refine ⟨_, _, (fun _ => False), _, rfl, .lst (fun z => z) (.inl (tM _ _ upd_same)) (.cons (((hv.same sW).same tL).same tM).dt (.cons ((hv'.same tL).same tM).dt .nil)), .lst (fun z => z) (.inl upd_same) (.cons (cg0.same tM).dt (.cons (cgz.same tM).dt .nil)), k1, .inl k2, ?_⟩
      exact ⟨_, rfl, iteF ⟨rfl, (((tE.trans sU).trans sW).trans tL).trans tM⟩⟩
  rintro σ H27 ⟨rfl, t27⟩
  have t14 := t13.trans t27
  have c1e := c1d.same t14
  have hb27 := hb23.same t14
  have hdsv27 := hdsv.fut (.of_same t14)
  have stx : ([V.str (fT f1.1 f1.2)] : List V) = [V.str (SL (fT f1.1 f1.2).cps.toList)] := congrArg (fun z => [V.str z]) (TL.mk_tl _).symm
  have lenx : (fT f1.1 f1.2).cps.toList.length ≤ 10000 := Nat.le_trans (fT_len s1) (show 130 ≤ 10000 by decide)
  refine ⟨_, rfl, .ref sa, _, dsv, rfl, hdsv27, oks.show, .inl nds, by have := oks.dp; omega, oks.fits, ?_⟩
  refine ⟨_, rfl, rfl, _, rfl, ?_⟩
  rw [show (!decide (V.str dsv.shown = V.str dsv.shown)) = false by rw [decide_eq_true rfl]; rfl]
  refine iteF ?_
  refine ⟨_, rfl, .ref a1, f1.1, f1.2, rfl, c1e, s1, fun H28 t28 => ?_⟩
  refine ⟨_, rfl, .ref a1, f1.1, f1.2, rfl, c1e.same t28, s1, fun H29 t29 => ?_⟩
  refine ⟨_, _, (fun _ => False), .str (fT f1.1 f1.2), rfl, .str _, .str _, ok_fT s1, .inl (by simp [PyData.hasDict]), ?_⟩
  refine ⟨_, rfl, iteF ?_⟩
  have t289 := t28.trans t29
  refine ⟨_, rfl, .ref a1, f1.1, f1.2, rfl, c1e.same t289, s1, fun H30 t30 => ?_⟩
  have t2830 := t289.trans t30
  refine ⟨_, stx, lenx, fun w H31 t31 rf => ?_⟩
  rw [finL_fT s1] at rf
  have c1f := (c1e.same t2830).same t31
  refine ⟨_, rfl, (fun _ => False), _, _, Cpl.dt rf, c1f.dt, shaped_cpl _ _, shaped_cpl _ _, ?_⟩
  rw [eqv_cpl, decide_eq_true rfl]
  refine ⟨_, rfl, iteF ?_⟩
  have hb31 := (hb27.same t2830).same t31
  -- texts
  refine ⟨_, rfl, _, rfl, b, .ref a1, f1.1, f1.2, rfl, hb31, c1f, s1, fun px H32 zs R32 hpx hzs => ?_⟩
  refine ⟨px, rfl, ⟨_, .inl (.inl hpx)⟩, for_list (xs := zs.map V.str) (a := px) (fun i' σ H' => ∃ o, σ = [some (.ref a), some (.ref b), o2, o3, o4, some (.int (0 + (i : Nat))), some (.ref a1), some (.ref a2), some (.int j), some (.ref pt), some (.ref pd), some (.ref Dr), none, some (.ref sa), some (.str dsv.shown), some (.ref pa), o] ∧ Same H32 H')
    ⟨_, rfl, .refl _⟩ (fun i' σ H' _ h => by
      obtain ⟨_, _, h⟩ := h
      exact .inl (.inl (h _ _ hpx))) (fun i' x σ H33 hx h => ?_) fun σ H33 h => ?_⟩
  · obtain ⟨o, rfl, t33⟩ := h
    rw [List.getElem?_map] at hx
    cases ez : zs[i']? with
    | none =>
      rw [ez] at hx
      cases hx
    | some z =>
      rw [ez] at hx
      cases hx
      have hzl := hzs z (List.mem_of_getElem? ez)
      have sz : ([V.str z] : List V) = [V.str (SL z.cps.toList)] := congrArg (fun z => [V.str z]) (TL.mk_tl _).symm
      refine ⟨_, rfl, _, sz, hzl, fun w1 H34 t34 r34 => ?_⟩
      refine ⟨_, rfl, _, sz, hzl, fun w2 H35 t35 r35 => ?_⟩
      have fin : ∀ {d : PyData}, Dt K (fun _ => False) H35 w1 d → Dt K (fun _ => False) H35 w2 d → Ok d → d.hasDict = false → spAlike K [w1, w2] H35 (fun v H' => v = .bl true ∧ H' = H35) E0 := fun h1 h2 o n => ⟨_, _, _, _, rfl, h1, h2, o, .inl n, rfl, rfl⟩
      cases ef : finL z.cps.toList with
      | none =>
        rw [ef] at r34 r35
        have r34 : w1 = .non := r34
        have r35 : w2 = .non := r35
        subst r34 r35
        refine ⟨_, _, (fun _ => False), .none, rfl, .non, .non, by decide +kernel, .inl (by simp [PyData.hasDict]), ?_⟩
        exact ⟨_, rfl, iteF ⟨_, rfl, (t33.trans t34).trans t35⟩⟩
      | some f =>
        rw [ef] at r34 r35
        have sdf := finL_small ef
        refine ⟨_, _, (fun _ => False), fD f, rfl, (Cpl.same r34 t35).dt, Cpl.dt r35, sdf.ok', .inl sdf.nd, ?_⟩
        exact ⟨_, rfl, iteF ⟨_, rfl, (t33.trans t34).trans t35⟩⟩
  · obtain ⟨o, rfl, t33⟩ := h
    exact ⟨_, _, _, _, _, _, _, _, _, _, _, _, _, _, rfl, R32.bag.same t33⟩
end
end K01
namespace K01
open PySem PySem.Spec PyProof.Rows L2 Sw
theorem sz {n : Nat} (h : n ≤ 10000) : n ≤ sizeLine := Nat.le_trans h (by decide)
theorem cut_strs (zs : List Str) (lo hi : Option Int) : ∃ ys : List Str, cutV (zs.map V.str) lo hi = ys.map V.str ∧ ∀ y ∈ ys, y ∈ zs := by
  refine ⟨(zs.drop (HT.sIx zs.length 0 lo)).take (HT.sIx zs.length zs.length hi - HT.sIx zs.length 0 lo), ?_, fun y h => List.mem_of_mem_drop (List.mem_of_mem_take h)⟩
  unfold cutV
  rw [List.map_take, List.map_drop, List.length_map]
section
variable {P : Program} {w : World} {K : PySem.W.Frag} {mg : Str → Option Value} {base : Heap}
abbrev s_law_texts : Stmt := topS 40
theorem sc__law_texts : FnScope ["bag", "one", "text", "found"] ["bag", "one"] (defScope s_law_texts) := ⟨rfl, rfl, rfl, by decide +kernel, rfl, by decide +kernel, by decide +kernel⟩
theorem ok__law_texts {f : Addr} {fd : FuncData} (F : Fun K "_law_texts" "_law_texts" s_law_texts f fd) (B : Bt mg) (c__law_text : CalG P w K mg base 1 "_law_text" (spFText K)) (c__law_mixed : CalG P w K mg base 2 "_law_mixed" spMixed) : FnG P w K mg base 3 f fd ["bag", "one"] (spTexts K) := by
  refine Fun.okG F sc__law_texts (fun vs H Q E h => ?_) (fun cdv A outer s H vs Q E hg hr h => ?_)
  · obtain ⟨_, _, _, _, rfl, _⟩ := h
    rfl
  obtain ⟨b, v, n, d, rfl, hb, hc, sm, k⟩ := h
  refine ⟨_, (pss_cons (ps_set (i := 2) sc__law_texts.nd rfl (Or.inl rfl) (pc c__law_text hg hr (by decide) (by rfl) (pa_cons (pv 1) pa_nil)))
    (pss_cons (ps_set (i := 3) sc__law_texts.nd rfl (Or.inl rfl) (pe_lst (pa_cons (pv 2) (pa_lit op_add_str (pv 2) (pat_of (pe_op op_add_str (pv 2) pe_str) (pat_of (pe_op op_add_str pe_str (pv 2)) (pat_of (pe_op op_add_str pe_str (pv 2)) (pat_of (pe_op op_add_str pe_str (pv 2)) (pat_of (pe_op op_add_str (pv 2) pe_str) (pat_of (pe_op op_add_str (pv 2) pe_str) (pat_cons (CwR.pet_replC (pv 2)) pat_nil)))))))))))
    (pss_cons (ps_expr (pe_bm PySem.F.plainAttrs_list PySem.F.slot_list_extend PySem.F.type_list_extend mt_extend (pv 3) (pa_cons (pe_lst (pa_cons (pe_op op_add_str (pv 2) pe_str) (pa_cons pe_str (pa_cons pe_str (pa_cons pe_str (pa_cons pe_str (pa_cons pe_str (pa_cons pe_str (pa_cons pe_str (pa_cons pe_str (pa_cons pe_str (pa_cons pe_str (pa_cons (pe_op op_repS pe_str pe_int) (pa_cons (pe_op op_repS pe_str pe_int) (pa_cons (pe_op op_add_str pe_str (pe_op op_repS pe_str pe_int)) (pa_cons (pe_op op_add_str pe_str (pe_op op_repS pe_str pe_int)) pa_nil)))))))))))))))) pa_nil)))
    (pss_cons (ps_expr (pe_bm PySem.F.plainAttrs_list PySem.F.slot_list_extend PySem.F.type_list_extend mt_extend (pv 3) (pa_cons (pe_lst (pa_cons (pe_op op_add_str pe_str (pe_op op_repS pe_str pe_int)) (pa_cons (pe_op op_add_str pe_str (pe_op op_repS pe_str pe_int)) (pa_cons pe_str (pa_cons pe_str (pa_cons pe_str (pa_cons pe_str pa_nil))))))) pa_nil)))
    (pss_one (ps_ret (pe_slice sl_list (pc c__law_mixed hg hr (by decide) (by rfl) (pa_cons (pv 0) (pa_cons (pv 3) pa_nil))) po_none (po_some pe_int)))))))), ?_⟩
  refine ⟨_, rfl, v, n, d, rfl, hc, sm, fun H1 s1 => ?_⟩
  have hx : (fT n d).length ≤ 130 := fT_len sm
  generalize fT n d = x at hx
  have al : ∀ a b : Str, (a ++ b).length = a.length + b.length := app_len
  have c1 : (" " : Str).length = 1 := by decide +kernel
  have c2 : ("+" : Str).length = 1 := by decide +kernel
  have c3 : ("-" : Str).length = 1 := by decide +kernel
  have c4 : ("0" : Str).length = 1 := by decide +kernel
  have c5 : ("/1" : Str).length = 2 := by decide +kernel
  have c6 : ("/0" : Str).length = 2 := by decide +kernel
  have c7 : ("//" : Str).length = 2 := by decide +kernel
  have lr := TK.replace_len x "/" "//"
  rw [c7] at lr
  refine ⟨_, rfl, _, rfl, _, _, rfl, rfl, sz (by rw [c1]; omega), ?_⟩
  refine ⟨_, rfl, _, _, rfl, rfl, sz (by rw [c1]; omega), ?_⟩
  refine ⟨_, rfl, _, _, rfl, rfl, sz (by rw [c2]; omega), ?_⟩
  refine ⟨_, rfl, _, _, rfl, rfl, sz (by rw [c3]; omega), ?_⟩
  refine ⟨_, rfl, _, _, rfl, rfl, sz (by rw [c4]; omega), ?_⟩
  refine ⟨_, rfl, _, _, rfl, rfl, sz (by rw [c5]; omega), ?_⟩
  refine ⟨_, rfl, _, _, rfl, rfl, sz (by rw [c6]; omega), ?_⟩
  refine ⟨_, rfl, x, rfl, by rw [c7]; omega, ?_⟩
  refine ⟨by show 9 ≤ sizeLine; decide, fun p np => ?_⟩
  have l1 : ∀ u ∈ ([x, " " ++ x, x ++ " ", "+" ++ x, "-" ++ x, "0" ++ x, x ++ "/1", x ++ "/0", Txt.replace x "/" "//"] : List Str), u.length ≤ 1000 := fun u hu => by
    simp only [List.mem_cons, List.not_mem_nil, or_false] at hu
    rcases hu with rfl | rfl | rfl | rfl | rfl | rfl | rfl | rfl | rfl <;> (try rw [al]) <;> omega
  have np' : H1 p = none := np
  have t1 := same_upd (o := .lst (([x, " " ++ x, x ++ " ", "+" ++ x, "-" ++ x, "0" ++ x, x ++ "/1", x ++ "/0", Txt.replace x "/" "//"] : List Str).map V.str)) np'
  have hp1 : (upd H1 p (.lst (([x, " " ++ x, x ++ " ", "+" ++ x, "-" ++ x, "0" ++ x, x ++ "/1", x ++ "/0", Txt.replace x "/" "//"] : List Str).map V.str))) p = some (.lst (([x, " " ++ x, x ++ " ", "+" ++ x, "-" ++ x, "0" ++ x, x ++ "/1", x ++ "/0", Txt.replace x "/" "//"] : List Str).map V.str)) := upd_same
  refine ⟨_, rfl, .inl ⟨rfl, _, .inl (.inl hp1)⟩, ?_⟩
  refine ⟨_, rfl, _, _, rfl, rfl, sz (by rw [c4]; omega), ?_⟩
  have k9 : ("9" : Str).length = 1 := by decide +kernel
  have k7 : ("7" : Str).length = 1 := by decide +kernel
  have kd : ("1/" : Str).length = 2 := by decide +kernel
  refine ⟨_, _, rfl, rfl, by decide, by decide, by rw [k9]; omega, by rw [k9]; omega, fun r1 g1 => ?_⟩
  refine ⟨_, _, rfl, rfl, by decide, by decide, by rw [k9]; omega, by rw [k9]; omega, fun r2 g2 => ?_⟩
  refine ⟨_, _, rfl, rfl, by decide, by decide, by rw [k7]; omega, by rw [k7]; omega, fun r3 g3 => ⟨_, _, rfl, rfl, sz (by rw [g3, k7, kd]; decide), ?_⟩⟩
  refine ⟨_, _, rfl, rfl, by decide, by decide, by rw [k7]; omega, by rw [k7]; omega, fun r4 g4 => ⟨_, _, rfl, rfl, sz (by rw [g4, k7, kd]; decide), ?_⟩⟩
  refine ⟨by show 15 ≤ sizeLine; decide, fun q nq => ?_⟩
  rw [k9] at g1 g2
  rw [k7] at g3 g4
  have l2 : ∀ u ∈ ([x ++ "0", "", "/", "-", "1/", "/2", "-0", "0/5", "2/4", "1_0", "3\n", r1, r2, "1/" ++ r3, "1/" ++ r4] : List Str), u.length ≤ 1000 := fun u hu => by
    have q1 : r1.length = 40 := by rw [g1]; rfl
    have q2 : r2.length = 41 := by rw [g2]; rfl
    have q3 : r3.length = 40 := by rw [g3]; rfl
    have q4 : r4.length = 41 := by rw [g4]; rfl
    have kc : ∀ z ∈ (["", "/", "-", "1/", "/2", "-0", "0/5", "2/4", "1_0", "3\n"] : List Str), z.length ≤ 1000 := by decide +kernel
    simp only [List.mem_cons, List.not_mem_nil, or_false] at hu
    rcases hu with rfl | rfl | rfl | rfl | rfl | rfl | rfl | rfl | rfl | rfl | rfl | rfl | rfl | rfl | rfl <;> first | omega | (rw [al]; omega) | exact kc _ (by simp)
  have nq' : (upd H1 p (.lst (([x, " " ++ x, x ++ " ", "+" ++ x, "-" ++ x, "0" ++ x, x ++ "/1", x ++ "/0", Txt.replace x "/" "//"] : List Str).map V.str))) q = none := nq
  have hpq : p ≠ q := fun z => by
    rw [← z, hp1] at nq'
    cases nq'
  have t2 := same_upd (o := .lst (([x ++ "0", "", "/", "-", "1/", "/2", "-0", "0/5", "2/4", "1_0", "3\n", r1, r2, "1/" ++ r3, "1/" ++ r4] : List Str).map V.str)) nq'
  refine ⟨p, q, ([x, " " ++ x, x ++ " ", "+" ++ x, "-" ++ x, "0" ++ x, x ++ "/1", x ++ "/0", Txt.replace x "/" "//"] : List Str).map V.str, ([x ++ "0", "", "/", "-", "1/", "/2", "-0", "0/5", "2/4", "1_0", "3\n", r1, r2, "1/" ++ r3, "1/" ++ r4] : List Str).map V.str, rfl, rfl, t2 _ _ hp1, upd_same, by show 9 + 15 ≤ sizeLine; decide, ?_⟩
  have hp2 : (upd (upd (upd H1 p (.lst (([x, " " ++ x, x ++ " ", "+" ++ x, "-" ++ x, "0" ++ x, x ++ "/1", x ++ "/0", Txt.replace x "/" "//"] : List Str).map V.str))) q (.lst (([x ++ "0", "", "/", "-", "1/", "/2", "-0", "0/5", "2/4", "1_0", "3\n", r1, r2, "1/" ++ r3, "1/" ++ r4] : List Str).map V.str))) p (.lst (([x, " " ++ x, x ++ " ", "+" ++ x, "-" ++ x, "0" ++ x, x ++ "/1", x ++ "/0", Txt.replace x "/" "//"] : List Str).map V.str ++ ([x ++ "0", "", "/", "-", "1/", "/2", "-0", "0/5", "2/4", "1_0", "3\n", r1, r2, "1/" ++ r3, "1/" ++ r4] : List Str).map V.str))) p = some (.lst (([x, " " ++ x, x ++ " ", "+" ++ x, "-" ++ x, "0" ++ x, x ++ "/1", x ++ "/0", Txt.replace x "/" "//"] : List Str).map V.str ++ ([x ++ "0", "", "/", "-", "1/", "/2", "-0", "0/5", "2/4", "1_0", "3\n", r1, r2, "1/" ++ r3, "1/" ++ r4] : List Str).map V.str)) := upd_same
  have S2 : Same H1 (upd (upd (upd H1 p (.lst (([x, " " ++ x, x ++ " ", "+" ++ x, "-" ++ x, "0" ++ x, x ++ "/1", x ++ "/0", Txt.replace x "/" "//"] : List Str).map V.str))) q (.lst (([x ++ "0", "", "/", "-", "1/", "/2", "-0", "0/5", "2/4", "1_0", "3\n", r1, r2, "1/" ++ r3, "1/" ++ r4] : List Str).map V.str))) p (.lst (([x, " " ++ x, x ++ " ", "+" ++ x, "-" ++ x, "0" ++ x, x ++ "/1", x ++ "/0", Txt.replace x "/" "//"] : List Str).map V.str ++ ([x ++ "0", "", "/", "-", "1/", "/2", "-0", "0/5", "2/4", "1_0", "3\n", r1, r2, "1/" ++ r3, "1/" ++ r4] : List Str).map V.str))) := fun a o e => by
    rw [upd_ne (ne_of_none e np')]
    exact t2 _ _ (t1 _ _ e)
  refine ⟨_, rfl, .inl ⟨rfl, _, .inl (.inl hp2)⟩, ?_⟩
  refine ⟨_, _, rfl, rfl, by decide, by decide, by rw [k9]; omega, by rw [k9]; omega, fun r5 g5 => ⟨_, _, rfl, rfl, sz (by rw [g5, k9, c3]; decide), ?_⟩⟩
  refine ⟨_, _, rfl, rfl, by decide, by decide, by rw [k9]; omega, by rw [k9]; omega, fun r6 g6 => ⟨_, _, rfl, rfl, sz (by rw [g6, k9, c3]; decide), ?_⟩⟩
  refine ⟨by show 6 ≤ sizeLine; decide, fun q2 nq2 => ?_⟩
  have l3 : ∀ u ∈ (["-" ++ r5, "-" ++ r6, "1/02", "1/-2", "1/+2", "1/2_0"] : List Str), u.length ≤ 1000 := fun u hu => by
    rw [k9] at g5 g6
    have q5 : r5.length = 40 := by rw [g5]; rfl
    have q6 : r6.length = 41 := by rw [g6]; rfl
    have kc : ∀ z ∈ (["1/02", "1/-2", "1/+2", "1/2_0"] : List Str), z.length ≤ 1000 := by decide +kernel
    simp only [List.mem_cons, List.not_mem_nil, or_false] at hu
    rcases hu with rfl | rfl | rfl | rfl | rfl | rfl <;> first | (rw [al]; omega) | exact kc _ (by simp)
  have nq3 : (upd (upd (upd H1 p (.lst (([x, " " ++ x, x ++ " ", "+" ++ x, "-" ++ x, "0" ++ x, x ++ "/1", x ++ "/0", Txt.replace x "/" "//"] : List Str).map V.str))) q (.lst (([x ++ "0", "", "/", "-", "1/", "/2", "-0", "0/5", "2/4", "1_0", "3\n", r1, r2, "1/" ++ r3, "1/" ++ r4] : List Str).map V.str))) p (.lst (([x, " " ++ x, x ++ " ", "+" ++ x, "-" ++ x, "0" ++ x, x ++ "/1", x ++ "/0", Txt.replace x "/" "//"] : List Str).map V.str ++ ([x ++ "0", "", "/", "-", "1/", "/2", "-0", "0/5", "2/4", "1_0", "3\n", r1, r2, "1/" ++ r3, "1/" ++ r4] : List Str).map V.str))) q2 = none := nq2
  have t3 := same_upd (o := .lst ((["-" ++ r5, "-" ++ r6, "1/02", "1/-2", "1/+2", "1/2_0"] : List Str).map V.str)) nq3
  refine ⟨p, q2, ([x, " " ++ x, x ++ " ", "+" ++ x, "-" ++ x, "0" ++ x, x ++ "/1", x ++ "/0", Txt.replace x "/" "//"] : List Str).map V.str ++ ([x ++ "0", "", "/", "-", "1/", "/2", "-0", "0/5", "2/4", "1_0", "3\n", r1, r2, "1/" ++ r3, "1/" ++ r4] : List Str).map V.str, (["-" ++ r5, "-" ++ r6, "1/02", "1/-2", "1/+2", "1/2_0"] : List Str).map V.str, rfl, rfl, t3 _ _ hp2, upd_same, by show (9 + 15) + 6 ≤ sizeLine; decide, ?_⟩
  have hp4 : (upd (upd (upd (upd (upd H1 p (.lst (([x, " " ++ x, x ++ " ", "+" ++ x, "-" ++ x, "0" ++ x, x ++ "/1", x ++ "/0", Txt.replace x "/" "//"] : List Str).map V.str))) q (.lst (([x ++ "0", "", "/", "-", "1/", "/2", "-0", "0/5", "2/4", "1_0", "3\n", r1, r2, "1/" ++ r3, "1/" ++ r4] : List Str).map V.str))) p (.lst (([x, " " ++ x, x ++ " ", "+" ++ x, "-" ++ x, "0" ++ x, x ++ "/1", x ++ "/0", Txt.replace x "/" "//"] : List Str).map V.str ++ ([x ++ "0", "", "/", "-", "1/", "/2", "-0", "0/5", "2/4", "1_0", "3\n", r1, r2, "1/" ++ r3, "1/" ++ r4] : List Str).map V.str))) q2 (.lst ((["-" ++ r5, "-" ++ r6, "1/02", "1/-2", "1/+2", "1/2_0"] : List Str).map V.str))) p (.lst ((([x, " " ++ x, x ++ " ", "+" ++ x, "-" ++ x, "0" ++ x, x ++ "/1", x ++ "/0", Txt.replace x "/" "//"] : List Str).map V.str ++ ([x ++ "0", "", "/", "-", "1/", "/2", "-0", "0/5", "2/4", "1_0", "3\n", r1, r2, "1/" ++ r3, "1/" ++ r4] : List Str).map V.str) ++ (["-" ++ r5, "-" ++ r6, "1/02", "1/-2", "1/+2", "1/2_0"] : List Str).map V.str))) p = some (.lst (((([x, " " ++ x, x ++ " ", "+" ++ x, "-" ++ x, "0" ++ x, x ++ "/1", x ++ "/0", Txt.replace x "/" "//"] : List Str) ++ ([x ++ "0", "", "/", "-", "1/", "/2", "-0", "0/5", "2/4", "1_0", "3\n", r1, r2, "1/" ++ r3, "1/" ++ r4] : List Str)) ++ (["-" ++ r5, "-" ++ r6, "1/02", "1/-2", "1/+2", "1/2_0"] : List Str)).map V.str)) := by
    rw [upd_same, List.map_append, List.map_append]
  have S4 : Same H1 (upd (upd (upd (upd (upd H1 p (.lst (([x, " " ++ x, x ++ " ", "+" ++ x, "-" ++ x, "0" ++ x, x ++ "/1", x ++ "/0", Txt.replace x "/" "//"] : List Str).map V.str))) q (.lst (([x ++ "0", "", "/", "-", "1/", "/2", "-0", "0/5", "2/4", "1_0", "3\n", r1, r2, "1/" ++ r3, "1/" ++ r4] : List Str).map V.str))) p (.lst (([x, " " ++ x, x ++ " ", "+" ++ x, "-" ++ x, "0" ++ x, x ++ "/1", x ++ "/0", Txt.replace x "/" "//"] : List Str).map V.str ++ ([x ++ "0", "", "/", "-", "1/", "/2", "-0", "0/5", "2/4", "1_0", "3\n", r1, r2, "1/" ++ r3, "1/" ++ r4] : List Str).map V.str))) q2 (.lst ((["-" ++ r5, "-" ++ r6, "1/02", "1/-2", "1/+2", "1/2_0"] : List Str).map V.str))) p (.lst ((([x, " " ++ x, x ++ " ", "+" ++ x, "-" ++ x, "0" ++ x, x ++ "/1", x ++ "/0", Txt.replace x "/" "//"] : List Str).map V.str ++ ([x ++ "0", "", "/", "-", "1/", "/2", "-0", "0/5", "2/4", "1_0", "3\n", r1, r2, "1/" ++ r3, "1/" ++ r4] : List Str).map V.str) ++ (["-" ++ r5, "-" ++ r6, "1/02", "1/-2", "1/+2", "1/2_0"] : List Str).map V.str))) := fun a o e => by
    rw [upd_ne (ne_of_none e np')]
    exact t3 _ _ (S2 _ _ e)
  have b4 := hb.same (s1.trans S4)
  have npb : p ≠ b := fun z => by
    obtain ⟨_, _, _, _, _, q, _⟩ := hb.same s1
    rw [z, q] at np'
    cases np'
  refine ⟨_, rfl, _, rfl, b, p, (([x, " " ++ x, x ++ " ", "+" ++ x, "-" ++ x, "0" ++ x, x ++ "/1", x ++ "/0", Txt.replace x "/" "//"] : List Str) ++ ([x ++ "0", "", "/", "-", "1/", "/2", "-0", "0/5", "2/4", "1_0", "3\n", r1, r2, "1/" ++ r3, "1/" ++ r4] : List Str)) ++ (["-" ++ r5, "-" ++ r6, "1/02", "1/-2", "1/+2", "1/2_0"] : List Str), rfl, b4, npb, hp4, by show (9 + 15) + 6 ≤ 100; decide, fun pm H' zs R hpm hz => ?_⟩
  refine ⟨9, rfl, pm, zs.map V.str, rfl, .inl (.inl hpm), fun ps nps => ?_⟩
  obtain ⟨ys, ey, hy⟩ := cut_strs zs none (some 9)
  have R' : Rel b H (upd H' ps (.lst (cutV (zs.map V.str) none (some 9)))) := ((Rel.of_same hb (s1.trans S4)).trans R).same (same_upd nps)
  rw [ey] at R' ⊢
  refine k ps _ ys R' upd_same fun z hzz => ?_
  have hm := hz z (hy z hzz)
  rcases List.mem_append.mp hm with hm | hm
  · rcases List.mem_append.mp hm with hm | hm
    · exact Nat.le_trans (l1 z hm) (by decide)
    · exact Nat.le_trans (l2 z hm) (by decide)
  · exact Nat.le_trans (l3 z hm) (by decide)
end
end K01
namespace K01
open PySem PySem.Spec PyProof.Rows L2 Sw
/-! ### the parts of a text -/
theorem pre47 (c : Nat) (r : List Nat) : TL.pre [47] (c :: r) = decide (c = 47) := by
  unfold TL.pre
  show (List.take 1 (c :: r) == [47]) = _
  rw [Bool.eq_iff_iff, beq_iff_eq, decide_eq_true_eq]
  exact ⟨fun h => by simpa using h, fun h => by simp [h]⟩
theorem par_cons {acc r : List Nat} {c : Nat} : TL.par [47] acc (c :: r) = if c = 47 then some (acc, r) else TL.par [47] (acc ++ [c]) r := by
  show (if TL.pre [47] (c :: r) = true then some (acc, (c :: r).drop 1) else TL.par [47] (acc ++ [c]) r) = _
  rw [pre47]
  by_cases h : c = 47
  · rw [if_pos h, if_pos (decide_eq_true h)]
    rfl
  · rw [if_neg h, if_neg (by rw [decide_eq_false h]; exact Bool.false_ne_true)]
theorem spl_none : ∀ (l acc : List Nat), TL.par [47] acc l = none → TL.spl [47] 0 acc l = [acc ++ l]
  | [], acc, _ => by rw [TL.spl_nil, List.append_nil]
  | c :: r, acc, h => by
    rw [par_cons] at h
    by_cases hc : c = 47
    · rw [if_pos hc] at h
      cases h
    · rw [if_neg hc] at h
      rw [TL.spl_miss (by rw [pre47, decide_eq_false hc]), spl_none r _ h, List.append_assoc]
      rfl
theorem spl_some : ∀ (l acc p q : List Nat), TL.par [47] acc l = some (p, q) → TL.spl [47] 0 acc l = p :: TL.spl [47] 0 [] q
  | [], acc, p, q, h => nomatch h
  | c :: r, acc, p, q, h => by
    rw [par_cons] at h
    by_cases hc : c = 47
    · rw [if_pos hc] at h
      cases h
      rw [TL.spl_hit (by rw [pre47, decide_eq_true hc])]
      rfl
    · rw [if_neg hc] at h
      rw [TL.spl_miss (by rw [pre47, decide_eq_false hc]), spl_some r _ p q h]
theorem par_is : ∀ (l acc p q : List Nat), TL.par [47] acc l = some (p, q) → 47 ∉ acc → 47 ∉ p ∧ acc ++ l = p ++ 47 :: q
  | [], acc, p, q, h, _ => nomatch h
  | c :: r, acc, p, q, h, ha => by
    rw [par_cons] at h
    by_cases hc : c = 47
    · rw [if_pos hc] at h
      cases h
      exact ⟨ha, by rw [hc]⟩
    · rw [if_neg hc] at h
      obtain ⟨h1, h2⟩ := par_is r _ p q h (fun m => by
        rcases List.mem_append.mp m with m | m
        · exact ha m
        · exact hc (List.mem_singleton.mp m).symm)
      exact ⟨h1, by rw [← h2, List.append_assoc]; rfl⟩
theorem spl_pos (l : List Nat) : 0 < (TL.spl [47] 0 [] l).length := by
  cases h : TL.par [47] [] l with
  | none =>
    rw [spl_none l [] h]
    exact Nat.one_pos
  | some pq =>
    rw [spl_some l [] pq.1 pq.2 h, List.length_cons]
    exact Nat.succ_pos _
/-- a part that shows an integer's size -/
def gd (l : List Nat) : Prop := digL l = true ∧ l.length ≤ 40
theorem dig_no47 {l : List Nat} (h : digL l = true) : 47 ∉ l := fun m => by
  have := (digL_iff.mp h).2 47 m
  omega
theorem strip_47 {l : List Nat} (h : 47 ∈ l) : 47 ∈ stripL l := by
  rcases min_or l with ⟨r, rfl⟩ | hn
  · rw [(strip_min r).1]
    rcases List.mem_cons.mp h with h | h
    · cases h
    · exact h
  · rw [(strip_no hn).1]
    exact h
theorem intL_none {l : List Nat} (h : ¬ gd (stripL l)) : intL l = none := if_neg fun z => h ⟨z.1, z.2.1⟩
theorem dig_no45 {l : List Nat} (h : digL l = true) : ∀ r, l ≠ 45 :: r := fun r e => by
  have := (digL_iff.mp h).2 45 (by rw [e]; exact List.mem_cons_self)
  omega
theorem gd_strip {l : List Nat} (h : gd l) : stripL l = l := (strip_no (dig_no45 h.1)).1
theorem codes_eq {a : Str} {l : List Nat} : a = SL l ↔ a.cps.toList = l := by
  constructor
  · intro e
    rw [e]
  · intro e
    rw [← e]
theorem intL_good {l : List Nat} (h : gd (stripL l)) : intL l = if tI (valL l) = SL l then some (valL l) else none := by
  unfold intL
  by_cases e : (tI (valL l)) = SL l
  · rw [if_pos e, if_pos ⟨h.1, h.2, codes_eq.mp e⟩]
  · rw [if_neg e, if_neg fun z => e (codes_eq.mpr z.2.2)]
/-- what a text in one part shows -/
theorem fin_one {l : List Nat} (h : TL.par [47] [] l = none) : finL l = (intL l).map fun n => (n, 1) := by
  unfold finL
  rw [h]
theorem fin_two {l p q : List Nat} (h : TL.par [47] [] l = some (p, q)) : finL l = match intL p, intL q with
    | some n, some d => if 2 ≤ d ∧ gI n d = 1 then some (n, d) else none
    | _, _ => none := by
  unfold finL
  first
    | (rw [h]; rfl)
    | rw [h]
theorem fin_three {l p q : List Nat} (h : TL.par [47] [] l = some (p, q)) (h2 : TL.par [47] [] q ≠ none) : finL l = none := by
  rw [fin_two h]
  have : 47 ∈ q := by
    cases hq : TL.par [47] [] q with
    | none => exact absurd hq h2
    | some uv =>
      have := (par_is q [] uv.1 uv.2 hq (by simp)).2
      rw [List.nil_append] at this
      rw [this]
      simp
  have e : intL q = none := intL_none fun z => dig_no47 z.1 (strip_47 this)
  rw [e]
  split
  · rename_i h1 h2
    cases h2
  · rfl
theorem fin_bad1 {l p q : List Nat} (h : TL.par [47] [] l = some (p, q)) (hb : ¬ gd (stripL p)) : finL l = none := by
  rw [fin_two h, intL_none hb]
theorem fin_bad2 {l p q : List Nat} (h : TL.par [47] [] l = some (p, q)) (hb : ¬ gd q) : finL l = none := by
  rw [fin_two h]
  split
  · rename_i n d h1 h2
    refine if_neg fun z => ?_
    rcases min_or q with ⟨r, rfl⟩ | hn
    · unfold intL at h2
      split at h2
      · cases h2
        have := (strip_min r).2
        rw [this] at z
        omega
      · cases h2
    · have := intL_none (l := q) (by rw [(strip_no hn).1]; exact hb)
      rw [this] at h2
      cases h2
  · rfl
theorem mid_eq {a b p q : List Nat} (ha : 47 ∉ a) (hp : 47 ∉ p) : a ++ 47 :: b = p ++ 47 :: q ↔ a = p ∧ b = q := by
  constructor
  · intro e
    have h1 := TL.par_part1 (s := 47) (S := []) (p := a) (acc := []) (rest := b) ha
    have h2 := TL.par_part1 (s := 47) (S := []) (p := p) (acc := []) (rest := q) hp
    simp only [List.nil_append, List.singleton_append, List.append_assoc] at h1 h2
    have h3 : TL.par [47] [] (a ++ 47 :: b) = some (a, b) := by simpa using h1
    have h4 : TL.par [47] [] (p ++ 47 :: q) = some (p, q) := by simpa using h2
    rw [e, h4] at h3
    cases h3
    exact ⟨rfl, rfl⟩
  · rintro ⟨rfl, rfl⟩
    rfl
theorem val_nn {q : List Nat} (h : gd q) : 0 ≤ valL q := by
  rw [(strip_no (dig_no45 h.1)).2]
  omega
theorem fin_good {l p q : List Nat} (h : TL.par [47] [] l = some (p, q)) (hp : gd (stripL p)) (hq : gd q) :
    finL l = if valL q ≠ 0 ∧ valL q ≠ 1 ∧ gI (valL p) (valL q) = 1 ∧ fT (valL p) (valL q) = SL l then some (valL p, valL q) else none := by
  rw [fin_two h, intL_good hp, intL_good (by rw [gd_strip hq]; exact hq)]
  have hl := (par_is l [] p q h (by simp))
  rw [List.nil_append] at hl
  have nn := val_nn hq
  by_cases e0 : valL q = 0
  · refine Eq.trans ?_ (if_neg fun z => z.1 e0).symm
    split
    · rename_i n d h1 h2
      refine if_neg fun z => ?_
      split at h2
      · cases h2
        omega
      · cases h2
    · rfl
  by_cases e1 : valL q = 1
  · refine Eq.trans ?_ (if_neg fun z => z.2.1 e1).symm
    split
    · rename_i n d h1 h2
      refine if_neg fun z => ?_
      split at h2
      · cases h2
        omega
      · cases h2
    · rfl
  have ht : (fT (valL p) (valL q) = SL l) ↔ tI (valL p) = SL p ∧ tI (valL q) = SL q := by
    rw [codes_eq, codes_eq, codes_eq]
    unfold fT
    rw [if_neg e1]
    have es : ("/" : Str) = ⟨#[47]⟩ := by decide +kernel
    have el : (tI (valL p) ++ ("/" : Str) ++ tI (valL q)).cps.toList = (tI (valL p)).cps.toList ++ 47 :: (tI (valL q)).cps.toList := by
      rw [es]
      show (((tI (valL p)).cps ++ (#[47] : Array Nat)) ++ (tI (valL q)).cps).toList = _
      rw [Array.toList_append, Array.toList_append, List.append_assoc]
      rfl
    rw [el, hl.2]
    exact mid_eq tI_free hl.1
  by_cases e2 : tI (valL p) = SL p
  · by_cases e3 : tI (valL q) = SL q
    · rw [if_pos e2, if_pos e3]
      dsimp only
      by_cases e4 : gI (valL p) (valL q) = 1
      · rw [if_pos ⟨by omega, e4⟩, if_pos ⟨e0, e1, e4, ht.mpr ⟨e2, e3⟩⟩]
      · rw [if_neg fun z => e4 z.2, if_neg fun z => e4 z.2.2.1]
    · rw [if_pos e2, if_neg e3, if_neg fun z => e3 (ht.mp z.2.2.2).2]
  · refine Eq.trans ?_ (if_neg fun z => e2 (ht.mp z.2.2.2).1).symm
    rw [if_neg e2]
end K01
namespace K01
open PySem PySem.Spec PyProof.Rows L2 Sw
def lcSc : Expr → Scope
  | .ListComp _ _ sc _ => sc
  | _ => defScope (.Pass ⟨0, 0, 0, 0⟩)
def cmpL : Expr → Expr
  | .Compare l _ _ _ => l
  | e => e
def orAt (i : Nat) : Expr → Expr
  | .BoolOp _ vs _ => vs.getD i (.Name "x" ⟨0, 0, 0, 0⟩)
  | e => e
def ifT : Stmt → Expr
  | .If t _ _ _ => t
  | _ => .Name "x" ⟨0, 0, 0, 0⟩
def bodyAt (i : Nat) : Stmt → Stmt
  | .FunctionDef _ _ b _ _ _ _ _ _ _ => b.getD i (.Pass ⟨0, 0, 0, 0⟩)
  | s => s
section
variable {P : Program} {w : World} {K : PySem.W.Frag} {mg : Str → Option Value} {base : Heap}
theorem cut1a (z : List Nat) : cutS (SL z) none (some 1) = SL (z.take 1) := by
  unfold cutS
  have e : HT.sIx (SL z).length (SL z).length (some 1) = min 1 z.length := by
    have := HT.sIx_nat (SL z).length (SL z).length 1
    rw [SL_len] at this
    rw [SL_len]
    exact this
  rw [e]
  show (⟨((z.drop 0).take (min 1 z.length - 0)).toArray⟩ : Str) = _
  congr 2
  rw [List.drop_zero, Nat.sub_zero]
  cases z with
  | nil => rfl
  | cons c r => simp
theorem cut1b (z : List Nat) : cutS (SL z) (some 1) none = SL (z.drop 1) := by
  unfold cutS
  have e : HT.sIx (SL z).length 0 (some 1) = min 1 z.length := by
    have := HT.sIx_nat (SL z).length 0 1
    rw [SL_len] at this
    rw [SL_len]
    exact this
  have e2 : HT.sIx (SL z).length (SL z).length none = z.length := by
    rw [SL_len]
    rfl
  rw [e, e2]
  show (⟨((z.drop (min 1 z.length)).take (z.length - min 1 z.length)).toArray⟩ : Str) = _
  congr 2
  cases z with
  | nil => rfl
  | cons c r =>
    rw [show min 1 (c :: r).length = 1 by simp]
    exact List.take_of_length_le (by simp)
theorem strip_take (z : List Nat) : stripL z = if z.take 1 = [45] then z.drop 1 else z := by
  rcases min_or z with ⟨r, rfl⟩ | hn
  · rw [if_pos (show List.take 1 (45 :: r) = [45] by simp)]
    rfl
  · rw [(strip_no hn).1, if_neg]
    intro e
    cases z with
    | nil => cases e
    | cons c r =>
      have : c = 45 := by simpa using e
      subst this
      exact hn r rfl
/-- the parts without the sign ahead -/
def digs : List (List Nat) → List (List Nat)
  | [] => []
  | p :: r => stripL p :: r
theorem digs_get {ps : List (List Nat)} {i : Nat} {z : List Nat} (h : ps[i]? = some z) : (digs ps)[i]? = some (if i = 0 then stripL z else z) := by
  cases ps with
  | nil => simp at h
  | cons p r =>
    cases i with
    | zero =>
      simp at h
      subst h
      rfl
    | succ i =>
      simp at h
      simp [digs, h]
theorem digs_len (ps : List (List Nat)) : (digs ps).length = ps.length := by
  cases ps <;> rfl
theorem parts_cases {l : List Nat} {ps : List (List Nat)} (h : TL.spl [47] 0 [] l = ps) : (TL.par [47] [] l = none ∧ ps = [l]) ∨ ∃ p q, TL.par [47] [] l = some (p, q) ∧ ((TL.par [47] [] q = none ∧ ps = [p, q]) ∨ (TL.par [47] [] q ≠ none ∧ 2 < ps.length)) := by
  cases e : TL.par [47] [] l with
  | none => exact .inl ⟨rfl, by rw [← h, spl_none l [] e]; rfl⟩
  | some pq =>
    refine .inr ⟨pq.1, pq.2, rfl, ?_⟩
    have h1 := spl_some l [] pq.1 pq.2 e
    cases e2 : TL.par [47] [] pq.2 with
    | none => exact .inl ⟨rfl, by rw [← h, h1, spl_none _ [] e2]; rfl⟩
    | some uv =>
      have h2 := spl_some pq.2 [] uv.1 uv.2 e2
      have h3 := spl_pos uv.2
      exact .inr ⟨fun z => (nomatch z), by rw [← h, h1, h2, List.length_cons, List.length_cons]; omega⟩
theorem ten_mem (c : Nat) : decide (c ∈ ("0123456789" : Str).cps.toList) = (decide (48 ≤ c) && decide (c ≤ 57)) := by
  have e : ("0123456789" : Str).cps.toList = [48, 49, 50, 51, 52, 53, 54, 55, 56, 57] := by decide +kernel
  rw [e, Bool.eq_iff_iff, decide_eq_true_eq, Bool.and_eq_true, decide_eq_true_eq, decide_eq_true_eq]
  simp only [List.mem_cons, List.not_mem_nil, or_false]
  omega
abbrev SV (ps : List (List Nat)) : List V := ps.map fun z => .str (SL z)
theorem spl_lens : ∀ (l acc : List Nat), (TL.spl [47] 0 acc l).length ≤ l.length + 1 ∧ ∀ z ∈ TL.spl [47] 0 acc l, z.length ≤ acc.length + l.length := by
  intro l
  induction l with
  | nil =>
    intro acc
    rw [TL.spl_nil]
    exact ⟨Nat.le_refl _, fun z hz => by rw [List.mem_singleton.mp hz]; exact Nat.le_refl _⟩
  | cons c r ih =>
    intro acc
    by_cases hc : c = 47
    · rw [TL.spl_hit (by rw [pre47, decide_eq_true hc])]
      obtain ⟨h1, h2⟩ := ih []
      refine ⟨by rw [List.length_cons, List.length_cons]; exact Nat.succ_le_succ h1, fun z hz => ?_⟩
      rcases List.mem_cons.mp hz with hz | hz
      · rw [hz]
        omega
      · have := h2 z hz
        simp at this ⊢
        omega
    · rw [TL.spl_miss (by rw [pre47, decide_eq_false hc])]
      obtain ⟨h1, h2⟩ := ih (acc ++ [c])
      refine ⟨by rw [List.length_cons]; omega, fun z hz => ?_⟩
      have := h2 z hz
      rw [List.length_append] at this
      simp at this ⊢
      omega
def spFTextW (K : PySem.W.Frag) : Sp := fun vs H Q _ => ∃ (v : V) (n d : Int), vs = [v] ∧ Cpl K H v n d ∧ n.natAbs < 10 ^ 40 ∧ d.natAbs < 10 ^ 40 ∧ ∀ H', Same H H' → Q (.str (fT n d)) H'
theorem tI_lenW {n : Int} (h : n.natAbs < 10 ^ 40) : (tI n).length ≤ 41 := by
  have e : (tI n).length = (tI n).cps.toList.length := by
    show (tI n).cps.size = _
    rw [Array.length_toList]
  rw [e]
  by_cases hn : n < 0
  · rw [tI_negL hn, List.length_cons]
    have := TL.numL_len (k := 40) (by decide) h
    omega
  · rw [show n = (n.natAbs : Int) by omega, tI_nat]
    have := TL.numL_len (k := 40) (by decide) h
    omega
theorem ok__law_textW {f : Addr} {fd : FuncData} (F : Fun K "_law_text" "_law_text" s_law_text f fd) (B : Bt mg) : FnG P w K mg base 1 f fd ["one"] (spFTextW K) := by
  refine Fun.okG F sc__law_text (fun vs H Q E h => ?_) (fun cdv A outer s H vs Q E hg hr h => ?_)
  · obtain ⟨_, _, _, rfl, _⟩ := h
    rfl
  obtain ⟨v, n, d, rfl, ⟨a, rfl, ha⟩, hn, hd, k⟩ := h
  have z1 := tI_lenW hn
  have z2 := tI_lenW hd
  refine ⟨_, (pss_one (ps_ret (pe_op op_add_str (pe_callTy call_str_int (by rfl) B.str bb_str (pa_cons (pe_ix ix_tup (pv 0) pe_int (fun _ _ => rfl)) pa_nil)) (pe_ifExp (pt_cmpR op_ne (pe_ix ix_tup (pv 0) pe_int (fun _ _ => rfl)) pe_int (nomark _)) (pe_op op_add_str pe_str (pe_callTy call_str_int (by rfl) B.str bb_str (pa_cons (pe_ix ix_tup (pv 0) pe_int (fun _ _ => rfl)) pa_nil))) pe_str)))), ?_⟩
  refine ⟨_, rfl, a, _, 0, _, rfl, rfl, ha, atI_nat (j := 0) rfl, n, rfl, log40 hn, ?_⟩
  refine ⟨_, rfl, a, _, 1, _, rfl, rfl, ha, atI_nat (j := 1) rfl, rfl, _, rfl, iteNe (fun e => ?_) fun e => ?_⟩
  · refine ⟨_, rfl, a, _, 1, _, rfl, rfl, ha, atI_nat (j := 1) rfl, d, rfl, log40 hd, _, _, rfl, rfl, ?_, _, _, rfl, rfl, ?_, ?_⟩
    · show 1 + (tI d).length ≤ sizeLine
      exact Nat.le_of_lt (small1000 (by omega))
    · show (tI n).length + (("/" : Str) ++ tI d).length ≤ sizeLine
      rw [app_len]
      show _ + (1 + _) ≤ sizeLine
      exact Nat.le_of_lt (small1000 (by omega))
    · have kk := k H (.refl H)
      unfold fT at kk
      rw [if_neg e] at kk
      have as : tI n ++ ("/" : Str) ++ tI d = tI n ++ (("/" : Str) ++ tI d) := by
        show (⟨((tI n).cps ++ _) ++ (tI d).cps⟩ : Str) = ⟨(tI n).cps ++ (_ ++ (tI d).cps)⟩
        rw [Array.append_assoc]
      rw [as] at kk
      exact kk
  · refine ⟨_, _, rfl, rfl, ?_, ?_⟩
    · show (tI n).length + 0 ≤ sizeLine
      exact Nat.le_of_lt (small1000 (by omega))
    · have kk := k H (.refl H)
      unfold fT at kk
      rw [if_pos e] at kk
      have ae : tI n ++ ("" : Str) = tI n := by
        show (⟨(tI n).cps ++ #[]⟩ : Str) = tI n
        simp
      rw [← ae] at kk
      exact kk
abbrev s_law_in_text : Stmt := topS 39
theorem sc__law_in_text : FnScope ["text", "parts", "digits", "at", "part", "sign", "n", "d"] ["text"] (defScope s_law_in_text) := ⟨rfl, rfl, rfl, by decide +kernel, rfl, by decide +kernel, by decide +kernel⟩
abbrev scB : Scope := lcSc (cmpL (orAt 1 (ifT (bodyAt 2 s_law_in_text))))
theorem ok__law_in_text {f : Addr} {fd : FuncData} (F : Fun K "_law_in_text" "_law_in_text" s_law_in_text f fd) (B : Bt mg) (c__law_common : CalG P w K mg base 1 "_law_common" spCommon) (c__law_text : CalG P w K mg base 1 "_law_text" (spFTextW K)) : FnG P w K mg base 3 f fd ["text"] (spFIn K) := by
  refine Fun.okG F sc__law_in_text (fun vs H Q E h => ?_) (fun cdv A outer s H vs Q E hg hr h => ?_)
  · obtain ⟨l, rfl, _⟩ := h
    rfl
  obtain ⟨l, rfl, hl, k⟩ := h
  have hu := Room.u64 hr
  refine ⟨_, (pss_cons (ps_set (i := 1) sc__law_in_text.nd rfl (Or.inl rfl) (pe_bm PySem.F.plainAttrs_str PySem.F.slot_str_split PySem.F.type_str_split mt_split (pv 0) (pa_cons pe_str pa_nil)))
    (pss_cons (ps_setLc (i := 2) (own := [("at", 3), ("part", 4)]) rfl sc__law_in_text.nd rfl rfl (sw_true rfl rfl rfl (by decide +kernel)) (pi_enum (by rfl) B.enum (pa_cons (pv 1) pa_nil)) (blkOk_by (own := [("at", 3), ("part", 4)]) (N := ["text", "parts", "digits", "at", "part", "sign", "n", "d"]) (sc := (defScope s_law_in_text)) (by decide +kernel)) (fun _ _ _ _ _ => (pg_tupK (K := K) (hK := rfl) (n := 2) rfl (pgs_cons (pg_name (i := 3) sc__law_in_text.nd rfl (Or.inl rfl)) (pgs_cons (pg_name (i := 4) sc__law_in_text.nd rfl (Or.inl rfl)) pgs_nil)))) (fun _ _ _ _ _ => pts_nil) (fun _ _ _ _ _ => (pe_ifExp (PW.pt (pw_and (pt_cmpR op_eq (pv 3) pe_int (nomark _)) (pw_and1 (pt_cmpR op_eq (pe_slice sl_str (pv 4) po_none (po_some pe_int)) pe_str (nomark _))))) (pe_slice sl_str (pv 4) (po_some pe_int) po_none) (pv 4))))
    (pss_cons (ps_if (PW.pt (pw_or (pt_cmpR op_gt (pe_callB call_lenA (by rfl) B.len boot_len (pa_cons (pv 1) pa_nil)) pe_int (nomark _)) (pw_or1 (pt_cmpR (op_neNil (K := K) rfl hu) (pe_lc (own := [("part", 4)]) rfl sc__law_in_text.nd (pi_list (pv 2)) (blkOk_by (own := [("part", 4)]) (N := ["text", "parts", "digits", "at", "part", "sign", "n", "d"]) (sc := (defScope s_law_in_text)) (by decide +kernel)) (fun _ _ _ _ _ => (pg_name (i := 4) sc__law_in_text.nd rfl (Or.inl rfl))) (fun _ _ _ _ _ => (pts_one (PW.pt (pw_or (pt_cmpR op_eq (pv 4) pe_str (nomark _)) (pw_or (pt_cmpR op_gt (pe_callB (call_lenK (K := K) rfl) (by rfl) B.len boot_len (pa_cons (pv 4) pa_nil)) pe_int (nomark _)) (pw_or1 (pt_cmpR (op_neNil (K := K) rfl hu) (pe_lc (own := [("sign", 5)]) rfl sc__law_in_text.nd (pi_str (pv 4)) (blkOk_by (own := [("sign", 5)]) (N := ["text", "parts", "digits", "at", "part", "sign", "n", "d"]) (sc := scB) (by decide +kernel)) (fun _ _ _ _ _ => (pg_name (i := 5) sc__law_in_text.nd rfl (Or.inl rfl))) (fun _ _ _ _ _ => (pts_one (pt_cmpR op_notIn_sign (pv 5) pe_str (by rfl)))) (fun _ _ _ _ _ => (pv 5))) (pe_lst pa_nil) (nomark _)))))))) (fun _ _ _ _ _ => (pv 4))) (pe_lst pa_nil) (nomark _)))))
      (pss_one (ps_ret pe_non))
      pss_nil)
    (pss_cons (ps_par (i := 6) (j := 7) rfl sc__law_in_text.nd rfl rfl (by decide) rfl rfl (pa_cons (pe_callTy call_int_str (by rfl) B.int bb_int (pa_cons (pe_ix ix_list (pv 1) pe_int (fun _ _ => rfl)) pa_nil)) (pa_cons (pe_ifExp (pt_cmpR op_gt (pe_callB call_lenA (by rfl) B.len boot_len (pa_cons (pv 1) pa_nil)) pe_int (nomark _)) (pe_callTy call_int_str (by rfl) B.int bb_int (pa_cons (pe_ix ix_list (pv 1) pe_int (fun _ _ => rfl)) pa_nil)) pe_int) pa_nil)) (by rfl))
    (pss_cons (ps_if (PW.pt (pw_or (pt_cmpR op_eq (pv 7) pe_int (nomark _)) (pw_or1 (PW.pt (pw_and (pt_cmpR op_gt (pe_callB call_lenA (by rfl) B.len boot_len (pa_cons (pv 1) pa_nil)) pe_int (nomark _)) (pw_and1 (pt_cmpR op_eq (pv 7) pe_int (nomark _))))))))
      (pss_one (ps_ret pe_non))
      pss_nil)
    (pss_one (ps_ret (pe_ifExp (PW.pt (pw_and (pt_cmpR op_eq (pc c__law_common hg hr (by decide) (by rfl) (pa_cons (pv 6) (pa_cons (pv 7) pa_nil))) pe_int (nomark _)) (pw_and1 (pt_cmpR op_eq (pc c__law_text hg hr (by decide) (by rfl) (pa_cons (pe_tup (pa_cons (pv 6) (pa_cons (pv 7) pa_nil))) pa_nil)) (pv 0) (nomark _))))) (pe_tup (pa_cons (pv 6) (pa_cons (pv 7) pa_nil))) pe_non)))))))), ?_⟩
  have hfit := len_fit hl
  have es : ("/" : Str) = SX.S [47] := by decide +kernel
  refine ⟨_, rfl, rfl, _, _, rfl, rfl, by decide +kernel, by rw [SL_len]; omega, fun p np => ?_⟩
  have ex : (Txt.split (SL l) "/").map V.str = SV (TL.spl [47] 0 [] l) := by
    rw [es]
    have := SX.split_S (a := l) (b := [47]) (by decide) (by decide)
    rw [show Txt.split (SL l) (SX.S [47]) = (TL.spl [47] 0 [] l).map SX.S from this, List.map_map]
    rfl
  rw [ex]
  obtain ⟨pl, pz⟩ := spl_lens l []
  have s1 := same_upd (o := .lst (SV (TL.spl [47] 0 [] l))) np
  have hp : (upd H p (.lst (SV (TL.spl [47] 0 [] l)))) p = some (.lst (SV (TL.spl [47] 0 [] l))) := upd_same
  clear ex
  revert s1 hp
  generalize upd H p (.lst (SV (TL.spl [47] 0 [] l))) = H1
  intro s1 hp
  refine ⟨_, rfl, p, SV (TL.spl [47] 0 [] l), rfl, .inl (.inl hp), fun D hD => lc_it (walk_enum (K := K) (xs := SV (TL.spl [47] 0 [] l)) (a := p)) (fun i H' => Same H1 H' ∧ H' D = some (.lst (SV ((digs (TL.spl [47] 0 [] l)).take i)))) ?_ (fun i H' _ h => .inl (.inl (h.1 _ _ hp))) ?_ ?_⟩
  · exact ⟨same_upd hD, by rw [upd_same]; rfl⟩
  · rintro i x H2 H3 hi ⟨sm, hDa⟩ ⟨T, x1, y1, rfl, nT, rfl, hx1, hy1⟩
    have hx1 : some (V.int (i : Nat)) = some x1 := hx1
    cases hx1
    obtain ⟨z, hz, rfl⟩ : ∃ z, (TL.spl [47] 0 [] l)[i]? = some z ∧ y1 = .str (SL z) := by
      have hy1 : (SV (TL.spl [47] 0 [] l))[i]? = some y1 := hy1
      rw [List.getElem?_map] at hy1
      cases e : (TL.spl [47] 0 [] l)[i]? with
      | none =>
        rw [e] at hy1
        cases hy1
      | some z =>
        rw [e] at hy1
        cases hy1
        exact ⟨z, rfl, rfl⟩
    have hzl : z.length ≤ 10000 := by
      have := pz z (List.mem_of_getElem? hz)
      rw [List.length_nil] at this
      omega
    have TD : T ≠ D := fun e => by
      rw [e, hDa] at nT
      cases nT
    have fin : ∀ w : List Nat, (digs (TL.spl [47] 0 [] l))[i]? = some w → ∃ acc, (upd H2 T (.tup [.int (i : Nat), .str (SL z)])) D = some (.lst acc) ∧ acc.length < sizeLine ∧
        (Same H1 (upd (upd H2 T (.tup [.int (i : Nat), .str (SL z)])) D (.lst (acc ++ [.str (SL w)]))) ∧ (upd (upd H2 T (.tup [.int (i : Nat), .str (SL z)])) D (.lst (acc ++ [.str (SL w)]))) D = some (.lst (SV ((digs (TL.spl [47] 0 [] l)).take (i + 1))))) := fun w hw => by
      refine ⟨_, by rw [upd_ne (Ne.symm TD)]; exact hDa, ?_, fun b o e => ?_, ?_⟩
      · rw [List.length_map]
        have h2 : (List.take i (digs (TL.spl [47] 0 [] l))).length ≤ 10001 := by
          rw [List.length_take, digs_len]
          omega
        exact Nat.lt_of_le_of_lt h2 (by decide)
      · rw [upd_ne (ne_of_none e hD)]
        exact same_upd nT _ _ (sm _ _ e)
      · rw [upd_same, List.take_add_one, hw]
        simp
    refine ⟨T, _, rfl, .inl (.inl upd_same), rfl, _, _, rfl, _, _, rfl, rfl, rfl, ?_⟩
    refine ⟨_, rfl, rfl, _, rfl, iteEq (fun e0 => ?_) fun e0 => ?_⟩
    · have e0 : i = 0 := by omega
      subst e0
      refine ⟨_, rfl, _, rfl, _, rfl, by rw [SL_len]; exact sz hzl, rfl, _, rfl, ?_⟩
      rw [cut1a]
      have hst := digs_get hz
      rw [if_pos rfl, strip_take] at hst
      refine iteP (fun h1 => ?_) fun h1 => ?_
      · have h2 : z.take 1 = [45] := by
          have e5 : ("-" : Str) = SL [45] := by decide +kernel
          rw [e5] at h1
          have := V.str.inj h1
          simpa using this
        rw [if_pos h2] at hst
        refine ⟨_, rfl, _, rfl, _, rfl, by rw [SL_len]; exact sz hzl, ?_⟩
        rw [cut1b]
        exact fin _ hst
      · have h2 : ¬ z.take 1 = [45] := fun h2 => h1 (by
          rw [h2]
          decide +kernel)
        rw [if_neg h2] at hst
        exact ⟨_, rfl, fin _ hst⟩
    · have hst := digs_get hz
      rw [if_neg (by omega)] at hst
      exact iteF ⟨_, rfl, fin _ hst⟩
  · rintro H2 ⟨sm, hDa⟩
    rw [List.take_of_length_le (by rw [digs_len, List.length_map]; exact Nat.le_refl _)] at hDa
    have hp2 := sm _ _ hp
    have s2 := s1.trans sm
    clear hD sm hp s1
    generalize hps : TL.spl [47] 0 [] l = ps at *
    -- what becomes of it
    have none_of : finL l = none → ∀ H3, Same H2 H3 → Q .non H3 := fun e H3 s3 => k _ _ (s2.trans s3) (by rw [e]; rfl)
    refine ⟨_, rfl, .ref p, _, rfl, .inl ⟨_, .inl (.inl hp2), rfl⟩, _, _, rfl, rfl, _, rfl, iteP (fun h2 => ?_) fun h2 => ?_⟩
    · refine iteT (none_of ?_ _ (.refl _))
      have h2 : 2 < ps.length := by
        rw [List.length_map] at h2
        omega
      rcases parts_cases hps with ⟨_, e⟩ | ⟨u, v, e, ⟨_, e2⟩ | ⟨e2, _⟩⟩
      · rw [e] at h2
        simp at h2
      · rw [e2] at h2
        simp at h2
      · exact fin_three e e2
    · have h2 : ps.length ≤ 2 := by
        rw [List.length_map] at h2
        omega
      refine ⟨_, rfl, D, rfl, ⟨_, .inl (.inl hDa)⟩, fun D2 hD2 => lc_it (walk_list (K := K) (xs := SV (digs ps)) (a := D)) (fun i H' => Same H2 H' ∧ ∃ acc, H' D2 = some (.lst acc) ∧ acc.length ≤ i ∧ (acc = [] ↔ ∀ z ∈ (digs ps).take i, gd z)) ?_ (fun i H' _ h => .inl (.inl (h.1 _ _ hDa))) ?_ ?_⟩
      · exact ⟨same_upd hD2, [], upd_same, Nat.le_refl _, by simp⟩
      · rintro i x H3 H4 hi ⟨sm, acc, hacc, hal, hag⟩ ⟨rfl, hx⟩
        obtain ⟨z, hz, rfl⟩ : ∃ z, (digs ps)[i]? = some z ∧ x = .str (SL z) := by
          rw [List.getElem?_map] at hx
          cases e : (digs ps)[i]? with
          | none =>
            rw [e] at hx
            cases hx
          | some z =>
            rw [e] at hx
            cases hx
            exact ⟨z, rfl, rfl⟩
        have hi2 : i < 2 := by
          rw [List.length_map, digs_len] at hi
          omega
        have et : (digs ps).take (i + 1) = (digs ps).take i ++ [z] := by
          rw [List.take_add_one, hz]
          rfl
        have hzl : z.length ≤ 10000 := by
          have hm := List.mem_of_getElem? hz
          cases ps with
          | nil => cases hm
          | cons u r =>
            rcases List.mem_cons.mp hm with e | e
            · have := pz u List.mem_cons_self
              have := strip_len u
              rw [List.length_nil] at *
              rw [e]
              omega
            · have := pz z (List.mem_cons_of_mem _ e)
              rw [List.length_nil] at *
              omega
        -- a bad one
        have bad : ¬ gd z → ∀ H5, Same H4 H5 → H5 D2 = some (.lst acc) → ∃ acc', H5 D2 = some (.lst acc') ∧ acc'.length < sizeLine ∧ (Same H2 (upd H5 D2 (.lst (acc' ++ [.str (SL z)]))) ∧ ∃ acc, (upd H5 D2 (.lst (acc' ++ [.str (SL z)]))) D2 = some (.lst acc) ∧ acc.length ≤ i + 1 ∧ (acc = [] ↔ ∀ z ∈ (digs ps).take (i + 1), gd z)) := fun hb H5 s5 h5 => by
          refine ⟨acc, h5, Nat.lt_of_le_of_lt (show acc.length ≤ 2 by omega) (by decide), fun b o e => ?_, _, upd_same, ?_, ?_⟩
          · rw [upd_ne (ne_of_none e hD2)]
            exact s5 _ _ (sm _ _ e)
          · rw [List.length_append]
            show acc.length + 1 ≤ i + 1
            omega
          · rw [et]
            constructor
            · intro q
              simp at q
            · intro q
              exact absurd (q z (by simp)) hb
        have good : gd z → ∀ H5, Same H4 H5 → H5 D2 = some (.lst acc) → Same H2 H5 ∧ ∃ acc, H5 D2 = some (.lst acc) ∧ acc.length ≤ i + 1 ∧ (acc = [] ↔ ∀ z ∈ (digs ps).take (i + 1), gd z) := fun hb H5 s5 h5 => by
          refine ⟨sm.trans s5, acc, h5, by omega, ?_⟩
          rw [hag, et]
          constructor
          · intro q u hu
            rcases List.mem_append.mp hu with hu | hu
            · exact q u hu
            · rw [List.mem_singleton.mp hu]
              exact hb
          · intro q u hu
            exact q u (List.mem_append_left _ hu)
        refine ⟨rfl, _, rfl, rfl, _, rfl, iteP (fun h0 => ?_) fun h0 => ?_⟩
        · refine ⟨_, rfl, bad (fun g => ?_) _ (.refl _) hacc⟩
          have : SL z = SL [] := V.str.inj (h0.trans (by decide +kernel))
          have : z = [] := by simpa using this
          exact (digL_iff.mp g.1).1 this
        have zne : z ≠ [] := fun e => h0 (by rw [e]; decide +kernel)
        refine ⟨_, rfl, .str (SL z), z.length, rfl, ⟨by rw [SL_len]; exact sz hzl, (SL_len z).symm⟩, _, _, rfl, rfl, _, rfl, iteP (fun h1 => ?_) fun h1 => ?_⟩
        · exact ⟨_, rfl, bad (fun g => by have := g.2; omega) _ (.refl _) hacc⟩
        have zl : z.length ≤ 40 := by omega
        -- [sign for sign in part if sign not in ..]
        refine ⟨_, rfl, SL z, rfl, fun D3 hD3 => lc_it walk_str (fun j H5 => Same H4 H5 ∧ ∃ acc : List V, H5 D3 = some (.lst acc) ∧ acc.length ≤ j ∧ (acc = [] ↔ NumText.AllDigits (z.take j))) ?_ (fun _ _ _ _ => trivial) ?_ ?_⟩
        · exact ⟨same_upd hD3, [], upd_same, Nat.le_refl _, by simp [NumText.AllDigits]⟩
        · rintro j y H5 H6 hj ⟨sm5, acc2, ha2, hl2, hg2⟩ ⟨rfl, c, hc, rfl⟩
          have hc' : z[j]? = some c := by simpa using hc
          have et2 : z.take (j + 1) = z.take j ++ [c] := by
            rw [List.take_add_one, hc']
            rfl
          refine ⟨rfl, _, rfl, c, _, rfl, rfl, _, rfl, ?_⟩
          rw [ten_mem]
          refine iteN (fun h3 => ?_) fun h3 => ?_
          · refine ⟨_, rfl, acc2, ha2, Nat.lt_of_le_of_lt (show acc2.length ≤ 40 by have : j < z.length := by simpa using hj
                                                                                    omega) (by decide), fun b o e => by rw [upd_ne (ne_of_none e hD3)]; exact sm5 b o e, _, upd_same, ?_, ?_⟩
            · rw [List.length_append]
              show acc2.length + 1 ≤ j + 1
              omega
            · constructor
              · intro q
                simp at q
              · intro q
                have := q c (by rw [et2]; simp)
                rw [Bool.and_eq_false_iff] at h3
                rcases h3 with h3 | h3
                · have := of_decide_eq_false h3
                  omega
                · have := of_decide_eq_false h3
                  omega
          · refine ⟨sm5, acc2, ha2, by omega, ?_⟩
            rw [hg2, et2]
            rw [Bool.and_eq_true, decide_eq_true_eq, decide_eq_true_eq] at h3
            constructor
            · intro q u hu
              rcases List.mem_append.mp hu with hu | hu
              · exact q u hu
              · rw [List.mem_singleton.mp hu]
                exact h3
            · intro q u hu
              exact q u (List.mem_append_left _ hu)
        · rintro H5 ⟨sm5, acc2, ha2, hl2, hg2⟩
          have hz2 : z.take (SL z).cps.size = z := List.take_of_length_le (by simp)
          rw [hz2] at hg2
          refine ⟨Nat.zero_le _, fun q hq => ?_⟩
          have nq : D3 ≠ q := ne_of_none ha2 hq
          have s6 := sm5.trans (same_upd (o := .lst []) hq)
          have h6 := s6 _ _ hacc
          refine ⟨D3, q, acc2, rfl, rfl, .inl (.inl (by rw [upd_ne nq]; exact ha2)), .inl (.inl upd_same), _, rfl, ?_⟩
          refine iteN (fun h4 => ?_) fun h4 => ?_
          · refine ⟨_, rfl, bad (fun g => ?_) _ s6 h6⟩
            exact of_decide_eq_false h4 (hg2.mpr (digL_iff.mp g.1).2)
          · exact good ⟨digL_iff.mpr ⟨zne, hg2.mp (of_decide_eq_true h4)⟩, zl⟩ _ s6 h6
      · rintro H3 ⟨sm, acc, hacc, hal, hag⟩
        rw [List.take_of_length_le (by rw [List.length_map]; exact Nat.le_refl _)] at hag
        refine ⟨Nat.zero_le _, fun q hq => ?_⟩
        have nq : D2 ≠ q := ne_of_none hacc hq
        have s4 := sm.trans (same_upd (o := .lst []) hq)
        have hp4 := s4 _ _ hp2
        refine ⟨D2, q, acc, rfl, rfl, .inl (.inl (by rw [upd_ne nq]; exact hacc)), .inl (.inl upd_same), _, rfl, ?_⟩
        revert s4 hp4
        generalize upd H3 q (.lst []) = H4
        intro s4 hp4
        clear hacc hq nq sm hD2
        refine iteN (fun h4 => ?_) fun h4 => ?_
        · refine none_of ?_ _ s4
          have nb : ¬ ∀ z ∈ digs ps, gd z := fun z => of_decide_eq_false h4 (hag.mpr z)
          rcases parts_cases hps with ⟨e1, e⟩ | ⟨u, v, e, ⟨_, e2⟩ | ⟨e2, _⟩⟩
          · subst e
            rw [fin_one e1, intL_none fun g => nb fun z hz => by rw [List.mem_singleton.mp hz]; exact g]
            rfl
          · subst e2
            by_cases g1 : gd (stripL u)
            · refine fin_bad2 e fun g2 => nb fun z hz => ?_
              simp only [digs, List.mem_cons, List.not_mem_nil, or_false] at hz
              rcases hz with rfl | rfl
              · exact g1
              · exact g2
            · exact fin_bad1 e g1
          · exact fin_three e e2
        · have ok : ∀ z ∈ digs ps, gd z := hag.mp (of_decide_eq_true h4)
          rcases parts_cases hps with ⟨e1, e⟩ | ⟨u, v, e, ⟨_, e2⟩ | ⟨_, e2⟩⟩
          · subst e
            have g : gd (stripL l) := ok _ (by simp [digs])
            obtain ⟨r1, r2⟩ := int_reads g.1 g.2
            have hn := val_small g.1 g.2
            refine ⟨_, rfl, p, _, 0, .str (SL l), rfl, rfl, .inl (.inl hp4), atI_nat (j := 0) rfl, _, _, rfl, r1, by rw [SL_len]; omega, ?_⟩
            refine ⟨_, rfl, .ref p, 1, rfl, .inl ⟨_, .inl (.inl hp4), rfl⟩, _, _, rfl, rfl, _, rfl, iteF ?_⟩
            refine ⟨_, _, rfl, ?_⟩
            refine ⟨_, rfl, rfl, _, rfl, iteF ?_⟩
            refine ⟨_, rfl, .ref p, 1, rfl, .inl ⟨_, .inl (.inl hp4), rfl⟩, _, _, rfl, rfl, _, rfl, ?_⟩
            refine iteF (iteF ?_)
            have eg : gI (valL l) 1 = 1 := by
              unfold gI
              simp
            have ef : finL l = if fT (valL l) 1 = SL l then some (valL l, 1) else none := by
              rw [fin_one e1, intL_good g]
              have : fT (valL l) 1 = tI (valL l) := by
                unfold fT
                rw [if_pos rfl]
              rw [this]
              by_cases z : tI (valL l) = SL l
              · rw [if_pos z, if_pos z]
                rfl
              · rw [if_neg z, if_neg z]
                rfl
            refine ⟨_, rfl, _, rfl, _, _, rfl, rfl, _, rfl, ?_⟩
            rw [eg]
            refine iteEq (fun _ => ?_) fun z => absurd rfl z
            refine ⟨_, rfl, _, rfl, by show 2 ≤ sizeLine; decide, fun q nq => ?_⟩
            have s5 := s4.trans (same_upd (o := .tup [.int (valL l), .int 1]) nq)
            refine ⟨_, valL l, 1, rfl, .mk upd_same, hn, by decide, fun H6 s6 => ⟨_, rfl, rfl, _, rfl, iteP (fun z => ?_) fun z => ?_⟩⟩
            · have z := V.str.inj z
              rw [if_pos z] at ef
              refine ⟨_, rfl, _, rfl, by show 2 ≤ sizeLine; decide, fun r nr => ?_⟩
              refine k _ _ ((s2.trans (s5.trans s6)).trans (same_upd nr)) ?_
              rw [ef]
              exact .mk upd_same
            · rw [if_neg fun y => z (congrArg V.str y)] at ef
              exact none_of ef _ (s5.trans s6)
          · subst e2
            have g1 : gd (stripL u) := ok _ (by simp [digs])
            have g2 : gd v := ok _ (by simp [digs])
            obtain ⟨r1, r2⟩ := int_reads g1.1 g1.2
            have e3 := gd_strip g2
            obtain ⟨r3, r4⟩ := int_reads (l := v) (by rw [e3]; exact g2.1) (by rw [e3]; exact g2.2)
            have hn := val_small g1.1 g1.2
            have hd := val_small (l := v) (by rw [e3]; exact g2.1) (by rw [e3]; exact g2.2)
            have ef := fin_good e g1 g2
            refine ⟨_, rfl, p, _, 0, .str (SL u), rfl, rfl, .inl (.inl hp4), atI_nat (j := 0) rfl, _, _, rfl, r1, by rw [SL_len]; omega, ?_⟩
            refine ⟨_, rfl, .ref p, 2, rfl, .inl ⟨_, .inl (.inl hp4), rfl⟩, _, _, rfl, rfl, _, rfl, iteT ?_⟩
            refine ⟨_, rfl, p, _, 1, .str (SL v), rfl, rfl, .inl (.inl hp4), atI_nat (j := 1) rfl, _, _, rfl, r3, by rw [SL_len]; omega, ?_⟩
            refine ⟨_, _, rfl, ?_⟩
            refine ⟨_, rfl, rfl, _, rfl, iteEq (fun z => ?_) fun z0 => ?_⟩
            · refine none_of ?_ _ s4
              rw [ef]
              exact if_neg fun y => y.1 z
            refine ⟨_, rfl, .ref p, 2, rfl, .inl ⟨_, .inl (.inl hp4), rfl⟩, _, _, rfl, rfl, _, rfl, ?_⟩
            refine iteT ?_
            refine ⟨_, rfl, rfl, _, rfl, iteEq (fun z => ?_) fun z1 => ?_⟩
            · refine none_of ?_ _ s4
              rw [ef]
              exact if_neg fun y => y.2.1 z
            refine ⟨_, rfl, _, rfl, _, _, rfl, rfl, _, rfl, iteEq (fun eg => ?_) fun eg => ?_⟩
            · refine ⟨_, rfl, _, rfl, by show 2 ≤ sizeLine; decide, fun q nq => ?_⟩
              have s5 := s4.trans (same_upd (o := .tup [.int (valL u), .int (valL v)]) nq)
              refine ⟨_, valL u, valL v, rfl, .mk upd_same, hn, hd, fun H6 s6 => ⟨_, rfl, rfl, _, rfl, iteP (fun z => ?_) fun z => ?_⟩⟩
              · have z := V.str.inj z
                rw [if_pos ⟨z0, z1, eg, z⟩] at ef
                refine ⟨_, rfl, _, rfl, by show 2 ≤ sizeLine; decide, fun r nr => ?_⟩
                refine k _ _ ((s2.trans (s5.trans s6)).trans (same_upd nr)) ?_
                rw [ef]
                exact .mk upd_same
              · refine none_of ?_ _ (s5.trans s6)
                rw [ef]
                exact if_neg fun y => z (congrArg V.str y.2.2.2)
            · refine none_of ?_ _ s4
              rw [ef]
              exact if_neg fun y => eg y.2.2.1
          · omega
end
end K01
namespace K01
open PySem PySem.Spec PyProof.Rows L2 Sw
section
variable {K : PySem.W.Frag} {h : Heap} {mg : Str → Option Value}
/-- the top has written the def x -/
def DefE (K : PySem.W.Frag) (mg : Str → Option Value) (x : Str) (st : Stmt) : Prop := ∃ (f : Addr) (fd : FuncData), Fun K x x st f fd ∧ mg x = some (.ref f) ∧ PySem.W.keepIn K (.ref f) = true
theorem def_mk {x : Str} {st : Stmt} {f : Addr} {oc : Value} {od an : Option Addr} {osl : Array (Option Value)} {kV doc pm cdv ct : Value} (X : K.In h) (G : h.Ns mainGlobals mg) (a : PySem.W.nsIn K mainGlobals x = some (some (.ref f)))
    (l : K.lookup f = some ⟨oc, od, .func (PySem.W.fnOf x x (defArgs st) (defBody st) (defScope st) .none kV doc pm an cdv ct), osl⟩) (c : PySem.W.codeIn K cdv x = true) (k : PySem.W.keepIn K (.ref f) = true) : DefE K mg x st :=
  ⟨f, _, fun_mk l c k, PySem.W.mg_of X G a, k⟩
def DefL (K : PySem.W.Frag) (mg : Str → Option Value) : Prop := ∃ (f : Addr) (fd : FuncData), Fun K "law" "law" slaw f fd ∧ mg "law" = some (.ref f) ∧ ∀ (s : Shared) (v : Value), BindsTo s fd ⟨[v], []⟩ [("script", v)]
theorem law_mk {f : Addr} {oc : Value} {od an : Option Addr} {osl : Array (Option Value)} {kV doc pm cdv ct : Value} (X : K.In h) (G : h.Ns mainGlobals mg) (a : PySem.W.nsIn K mainGlobals "law" = some (some (.ref f)))
    (l : K.lookup f = some ⟨oc, od, .func (PySem.W.fnOf "law" "law" (defArgs slaw) (defBody slaw) (defScope slaw) .none kV doc pm an cdv ct), osl⟩) (c : PySem.W.codeIn K cdv "law" = true) (k : PySem.W.keepIn K (.ref f) = true) : DefL K mg :=
  ⟨f, _, fun_mk l c k, PySem.W.mg_of X G a, fun s v => .of_eq rfl⟩
def BtE (K : PySem.W.Frag) : Prop := ∀ x ∈ (["len", "int", "bool", "str", "tuple", "list", "dict", "isinstance", "repr", "abs", "max", "min", "range", "enumerate", "zip", "divmod", "reversed"] : List Str), PySem.W.nsIn K mainGlobals x = some none
theorem BtE.get (b : BtE K) (X : K.In h) (G : h.Ns mainGlobals mg) {x : Str} (hx : x ∈ (["len", "int", "bool", "str", "tuple", "list", "dict", "isinstance", "repr", "abs", "max", "min", "range", "enumerate", "zip", "divmod", "reversed"] : List Str)) : mg x = none := PySem.W.mg_none_of X G (b x hx)
theorem bte_mk (z0 : PySem.W.nsIn K mainGlobals "len" = some none) (z1 : PySem.W.nsIn K mainGlobals "int" = some none) (z2 : PySem.W.nsIn K mainGlobals "bool" = some none) (z3 : PySem.W.nsIn K mainGlobals "str" = some none) (z4 : PySem.W.nsIn K mainGlobals "tuple" = some none) (z5 : PySem.W.nsIn K mainGlobals "list" = some none) (z6 : PySem.W.nsIn K mainGlobals "dict" = some none) (z7 : PySem.W.nsIn K mainGlobals "isinstance" = some none) (z8 : PySem.W.nsIn K mainGlobals "repr" = some none) (z9 : PySem.W.nsIn K mainGlobals "abs" = some none) (z10 : PySem.W.nsIn K mainGlobals "max" = some none) (z11 : PySem.W.nsIn K mainGlobals "min" = some none) (z12 : PySem.W.nsIn K mainGlobals "range" = some none) (z13 : PySem.W.nsIn K mainGlobals "enumerate" = some none) (z14 : PySem.W.nsIn K mainGlobals "zip" = some none) (z15 : PySem.W.nsIn K mainGlobals "divmod" = some none) (z16 : PySem.W.nsIn K mainGlobals "reversed" = some none) : BtE K := by
  intro x hx
  simp only [List.mem_cons, List.not_mem_nil, or_false] at hx
  rcases hx with rfl | rfl | rfl | rfl | rfl | rfl | rfl | rfl | rfl | rfl | rfl | rfl | rfl | rfl | rfl | rfl | rfl <;> assumption
/-- .. a tuple of two integers -/
def TupE (K : PySem.W.Frag) (mg : Str → Option Value) (x : Str) (n d : Int) : Prop := ∃ z, mg x = some (.ref z) ∧ KTup K z [.int n, .int d]
theorem tup_mk {x : Str} {n d : Int} {z : Addr} {od : Option Addr} {t t' : Tok} {k : Nat} {osl : Array (Option Value)} (X : K.In h) (G : h.Ns mainGlobals mg) (a : PySem.W.nsIn K mainGlobals x = some (some (.ref z)))
    (l : K.lookup z = some ⟨.type "tuple", od, .seq #[.int n t, .int d t'] k, osl⟩) : TupE K mg x n d :=
  ⟨z, PySem.W.mg_of X G a, _, _, _, l, rfl, rfl, (show 2 ≤ sizeLine by decide), .cons ⟨_, rfl⟩ (.cons ⟨_, rfl⟩ .nil)⟩
def GcE (K : PySem.W.Frag) (x : Str) (b : String) : Prop := PySem.W.nsIn K mainGlobals x = some (some (.builtin b))
theorem gc_mk {x : Str} {b : String} (a : PySem.W.nsIn K mainGlobals x = some (some (.builtin b))) : GcE K x b := a
def IntE (K : PySem.W.Frag) (x : Str) (n : Int) : Prop := ∃ t : Tok, PySem.W.nsIn K mainGlobals x = some (some (.int n t))
theorem int_mk {x : Str} {n : Int} {t : Tok} (a : PySem.W.nsIn K mainGlobals x = some (some (.int n t))) : IntE K x n := ⟨t, a⟩
/-- all that the top has written, put together -/
theorem all_mk {P : Program} {w : World} {fa : Addr} (X : K.In h) (G : h.Ns mainGlobals mg) (hfa : mg "law" = some (.ref fa))
    (D0 : DefE K mg "reduced" sreduced)
    (D1 : DefE K mg "added" sadded)
    (D2 : DefE K mg "lessened" slessened)
    (D3 : DefE K mg "times" stimes)
    (D4 : DefE K mg "over" sover)
    (D5 : DefE K mg "compared" scompared)
    (D6 : DefE K mg "compared_roughly" scompared_roughly)
    (D7 : DefE K mg "first_bits" sfirst_bits)
    (D8 : DefE K mg "least_of" sleast_of)
    (D9 : DefE K mg "greatest_of" sgreatest_of)
    (D10 : DefE K mg "total" stotal)
    (D11 : DefE K mg "integer_text" sinteger_text)
    (D12 : DefE K mg "integer_in" sinteger_in)
    (D13 : DefE K mg "fraction_text" sfraction_text)
    (D14 : DefE K mg "fraction_in" sfraction_in)
    (D15 : DefE K mg "_law_take" s_law_take)
    (D16 : DefE K mg "_law_common" s_law_common)
    (D17 : DefE K mg "_law_reduced" s_law_reduced)
    (D18 : DefE K mg "_law_some" s_law_some)
    (D19 : DefE K mg "_law_number" s_law_number)
    (D20 : DefE K mg "_law_mixed" s_law_mixed)
    (D21 : DefE K mg "_law_bag" s_law_bag)
    (D22 : DefE K mg "_law_alike" s_law_alike)
    (D23 : DefE K mg "_law_added" s_law_added)
    (D24 : DefE K mg "_law_lessened" s_law_lessened)
    (D25 : DefE K mg "_law_multiplied" s_law_multiplied)
    (D26 : DefE K mg "_law_is_below" s_law_is_below)
    (D27 : DefE K mg "_law_divided" s_law_divided)
    (D28 : DefE K mg "_law_total" s_law_total)
    (D29 : DefE K mg "_law_ascending" s_law_ascending)
    (D30 : DefE K mg "_law_any_fraction" s_law_any_fraction)
    (D31 : DefE K mg "_law_text" s_law_text)
    (D32 : DefE K mg "_law_in_text" s_law_in_text)
    (D33 : DefE K mg "_law_texts" s_law_texts)
    (DL : DefL K mg)
    (ZE : TupE K mg "ZERO" 0 1)
    (GC : GcE K "gcd" "math.gcd")
    (DR : IntE K "DIGITS_READ" 40)
    (GB : IntE K "GREAT_BITS" 1500)
    (RB : IntE K "ROUGH_BITS" 128)
    (Z : BtE K) :
    ∃ fd : FuncData, (∀ (s : Shared) (v : Value), BindsTo s fd ⟨[v], []⟩ [("script", v)]) ∧ ∀ base : Heap, K.In base → base.Ns mainGlobals mg → FnG P w K mg base 5 fa fd ["script"] (spLaw K) := by
  obtain ⟨fL, fdL, FL, mL, bL⟩ := DL
  have e := hfa.symm.trans mL
  cases e
  obtain ⟨f0, fd0, F0, m0, k0⟩ := D0
  have b0 := F0.binds (ps := ["n", "d"]) fun _ _ _ _ _ _ us hl => match us, hl with | [_, _], _ => rfl
  obtain ⟨f1, fd1, F1, m1, k1⟩ := D1
  have b1 := F1.binds (ps := ["one", "other"]) fun _ _ _ _ _ _ us hl => match us, hl with | [_, _], _ => rfl
  obtain ⟨f2, fd2, F2, m2, k2⟩ := D2
  have b2 := F2.binds (ps := ["one", "other"]) fun _ _ _ _ _ _ us hl => match us, hl with | [_, _], _ => rfl
  obtain ⟨f3, fd3, F3, m3, k3⟩ := D3
  have b3 := F3.binds (ps := ["one", "other"]) fun _ _ _ _ _ _ us hl => match us, hl with | [_, _], _ => rfl
  obtain ⟨f4, fd4, F4, m4, k4⟩ := D4
  have b4 := F4.binds (ps := ["one", "other"]) fun _ _ _ _ _ _ us hl => match us, hl with | [_, _], _ => rfl
  obtain ⟨f5, fd5, F5, m5, k5⟩ := D5
  have b5 := F5.binds (ps := ["one", "other"]) fun _ _ _ _ _ _ us hl => match us, hl with | [_, _], _ => rfl
  obtain ⟨f6, fd6, F6, m6, k6⟩ := D6
  have b6 := F6.binds (ps := ["one", "other"]) fun _ _ _ _ _ _ us hl => match us, hl with | [_, _], _ => rfl
  obtain ⟨f7, fd7, F7, m7, k7⟩ := D7
  have b7 := F7.binds (ps := ["one"]) fun _ _ _ _ _ _ us hl => match us, hl with | [_], _ => rfl
  obtain ⟨f8, fd8, F8, m8, k8⟩ := D8
  have b8 := F8.binds (ps := ["fractions"]) fun _ _ _ _ _ _ us hl => match us, hl with | [_], _ => rfl
  obtain ⟨f9, fd9, F9, m9, k9⟩ := D9
  have b9 := F9.binds (ps := ["fractions"]) fun _ _ _ _ _ _ us hl => match us, hl with | [_], _ => rfl
  obtain ⟨f10, fd10, F10, m10, k10⟩ := D10
  have b10 := F10.binds (ps := ["fractions"]) fun _ _ _ _ _ _ us hl => match us, hl with | [_], _ => rfl
  obtain ⟨f11, fd11, F11, m11, k11⟩ := D11
  have b11 := F11.binds (ps := ["n"]) fun _ _ _ _ _ _ us hl => match us, hl with | [_], _ => rfl
  obtain ⟨f12, fd12, F12, m12, k12⟩ := D12
  have b12 := F12.binds (ps := ["text"]) fun _ _ _ _ _ _ us hl => match us, hl with | [_], _ => rfl
  obtain ⟨f13, fd13, F13, m13, k13⟩ := D13
  have b13 := F13.binds (ps := ["one"]) fun _ _ _ _ _ _ us hl => match us, hl with | [_], _ => rfl
  obtain ⟨f14, fd14, F14, m14, k14⟩ := D14
  have b14 := F14.binds (ps := ["text"]) fun _ _ _ _ _ _ us hl => match us, hl with | [_], _ => rfl
  obtain ⟨f15, fd15, F15, m15, k15⟩ := D15
  have b15 := F15.binds (ps := ["bag", "many"]) fun _ _ _ _ _ _ us hl => match us, hl with | [_, _], _ => rfl
  obtain ⟨f16, fd16, F16, m16, k16⟩ := D16
  have b16 := F16.binds (ps := ["one", "other"]) fun _ _ _ _ _ _ us hl => match us, hl with | [_, _], _ => rfl
  obtain ⟨f17, fd17, F17, m17, k17⟩ := D17
  have b17 := F17.binds (ps := ["n", "d"]) fun _ _ _ _ _ _ us hl => match us, hl with | [_, _], _ => rfl
  obtain ⟨f18, fd18, F18, m18, k18⟩ := D18
  have b18 := F18.binds (ps := ["bag", "things"]) fun _ _ _ _ _ _ us hl => match us, hl with | [_, _], _ => rfl
  obtain ⟨f19, fd19, F19, m19, k19⟩ := D19
  have b19 := F19.binds (ps := ["bag", "most"]) fun _ _ _ _ _ _ us hl => match us, hl with | [_, _], _ => rfl
  obtain ⟨f20, fd20, F20, m20, k20⟩ := D20
  have b20 := F20.binds (ps := ["bag", "things"]) fun _ _ _ _ _ _ us hl => match us, hl with | [_, _], _ => rfl
  obtain ⟨f21, fd21, F21, m21, k21⟩ := D21
  have b21 := F21.binds (ps := ["script"]) fun _ _ _ _ _ _ us hl => match us, hl with | [_], _ => rfl
  obtain ⟨f22, fd22, F22, m22, k22⟩ := D22
  have b22 := F22.binds (ps := ["found", "due"]) fun _ _ _ _ _ _ us hl => match us, hl with | [_, _], _ => rfl
  obtain ⟨f23, fd23, F23, m23, k23⟩ := D23
  have b23 := F23.binds (ps := ["one", "other"]) fun _ _ _ _ _ _ us hl => match us, hl with | [_, _], _ => rfl
  obtain ⟨f24, fd24, F24, m24, k24⟩ := D24
  have b24 := F24.binds (ps := ["one", "other"]) fun _ _ _ _ _ _ us hl => match us, hl with | [_, _], _ => rfl
  obtain ⟨f25, fd25, F25, m25, k25⟩ := D25
  have b25 := F25.binds (ps := ["one", "other"]) fun _ _ _ _ _ _ us hl => match us, hl with | [_, _], _ => rfl
  obtain ⟨f26, fd26, F26, m26, k26⟩ := D26
  have b26 := F26.binds (ps := ["one", "other"]) fun _ _ _ _ _ _ us hl => match us, hl with | [_, _], _ => rfl
  obtain ⟨f27, fd27, F27, m27, k27⟩ := D27
  have b27 := F27.binds (ps := ["one", "other"]) fun _ _ _ _ _ _ us hl => match us, hl with | [_, _], _ => rfl
  obtain ⟨f28, fd28, F28, m28, k28⟩ := D28
  have b28 := F28.binds (ps := ["fractions"]) fun _ _ _ _ _ _ us hl => match us, hl with | [_], _ => rfl
  obtain ⟨f29, fd29, F29, m29, k29⟩ := D29
  have b29 := F29.binds (ps := ["fractions"]) fun _ _ _ _ _ _ us hl => match us, hl with | [_], _ => rfl
  obtain ⟨f30, fd30, F30, m30, k30⟩ := D30
  have b30 := F30.binds (ps := ["bag"]) fun _ _ _ _ _ _ us hl => match us, hl with | [_], _ => rfl
  obtain ⟨f31, fd31, F31, m31, k31⟩ := D31
  have b31 := F31.binds (ps := ["one"]) fun _ _ _ _ _ _ us hl => match us, hl with | [_], _ => rfl
  obtain ⟨f32, fd32, F32, m32, k32⟩ := D32
  have b32 := F32.binds (ps := ["text"]) fun _ _ _ _ _ _ us hl => match us, hl with | [_], _ => rfl
  obtain ⟨f33, fd33, F33, m33, k33⟩ := D33
  have b33 := F33.binds (ps := ["bag", "one"]) fun _ _ _ _ _ _ us hl => match us, hl with | [_, _], _ => rfl
  have B : Bt mg := ⟨Z.get X G (by decide +kernel), Z.get X G (by decide +kernel), Z.get X G (by decide +kernel), Z.get X G (by decide +kernel), Z.get X G (by decide +kernel), Z.get X G (by decide +kernel), Z.get X G (by decide +kernel), Z.get X G (by decide +kernel), Z.get X G (by decide +kernel), Z.get X G (by decide +kernel), Z.get X G (by decide +kernel), Z.get X G (by decide +kernel), Z.get X G (by decide +kernel), Z.get X G (by decide +kernel), Z.get X G (by decide +kernel)⟩
  have T_divmod : mg "divmod" = none := Z.get X G (by decide +kernel)
  have T_reversed : mg "reversed" = none := Z.get X G (by decide +kernel)
  obtain ⟨z, mz, KZ⟩ := ZE
  have TZ : ∃ u, mg "ZERO" = some u ∧ RelV (.ref z) u := ⟨_, mz, rfl⟩
  have T : Tx mg := ⟨PySem.W.mg_of X G GC⟩
  have TGb : ∃ u, mg "GREAT_BITS" = some u ∧ RelV (.int 1500) u := by
    obtain ⟨t, a⟩ := GB
    exact ⟨_, PySem.W.mg_of X G a, ⟨t, rfl⟩⟩
  have TRb : ∃ u, mg "ROUGH_BITS" = some u ∧ RelV (.int 128) u := by
    obtain ⟨t, a⟩ := RB
    exact ⟨_, PySem.W.mg_of X G a, ⟨t, rfl⟩⟩
  have TG : ∃ u, mg "DIGITS_READ" = some u ∧ RelV (.int 40) u := by
    obtain ⟨t, a⟩ := DR
    exact ⟨_, PySem.W.mg_of X G a, ⟨t, rfl⟩⟩
  refine ⟨fdL, bL, fun base hKb _ => ?_⟩
  have C_reduced : CalG P w K mg base 1 "reduced" (spReduced) := ⟨f0, fd0, _, ok_reduced F0 B T, m0, k0, b0⟩
  have C_added : CalG P w K mg base 1 "added" (spTwo K addF) := ⟨f1, fd1, _, ok_added F1 B T, m1, k1, b1⟩
  have C_lessened : CalG P w K mg base 2 "lessened" (spTwo K subF) := ⟨f2, fd2, _, ok_lessened F2 B C_added, m2, k2, b2⟩
  have C_times : CalG P w K mg base 1 "times" (spTwo K mulF) := ⟨f3, fd3, _, ok_times F3 B T, m3, k3, b3⟩
  have C_over : CalG P w K mg base 2 "over" (spDiv K) := ⟨f4, fd4, _, ok_over F4 B C_times, m4, k4, b4⟩
  have C_first_bits : CalG P w K mg base 1 "first_bits" (spFirst K) := ⟨f7, fd7, _, ok_first_bits F7 B TRb, m7, k7, b7⟩
  have C_compared_roughly : CalG P w K mg base 2 "compared_roughly" (spRough K) := ⟨f6, fd6, _, ok_compared_roughly F6 B C_first_bits, m6, k6, b6⟩
  have C_compared : CalG P w K mg base 3 "compared" (spCmp K) := ⟨f5, fd5, _, ok_compared F5 B TGb C_compared_roughly, m5, k5, b5⟩
  have C_least_of : CalG P w K mg base 4 "least_of" (spEnd K LeF) := ⟨f8, fd8, _, ok_least_of F8 B C_compared, m8, k8, b8⟩
  have C_greatest_of : CalG P w K mg base 4 "greatest_of" (spEnd K (fun f g => LeF g f)) := ⟨f9, fd9, _, ok_greatest_of F9 B C_compared, m9, k9, b9⟩
  have C_total : CalG P w K mg base 2 "total" (spTotal K) := ⟨f10, fd10, _, ok_total F10 B TZ KZ C_added, m10, k10, b10⟩
  have C_integer_text : CalG P w K mg base 1 "integer_text" (spIText) := ⟨f11, fd11, _, ok_integer_text F11 B T_divmod T_reversed, m11, k11, b11⟩
  have C_integer_in : CalG P w K mg base 1 "integer_in" (spIntIn) := ⟨f12, fd12, _, ok_integer_in F12 B TG, m12, k12, b12⟩
  have C_fraction_text : CalG P w K mg base 2 "fraction_text" (spFText K) := ⟨f13, fd13, _, ok_fraction_text F13 B C_integer_text, m13, k13, b13⟩
  have C_fraction_in : CalG P w K mg base 2 "fraction_in" (spFIn K) := ⟨f14, fd14, _, ok_fraction_in F14 B T C_integer_in, m14, k14, b14⟩
  have C__law_take : CalG P w K mg base 1 "_law_take" (spTake) := ⟨f15, fd15, _, ok__law_take F15 B, m15, k15, b15⟩
  have C__law_common : CalG P w K mg base 1 "_law_common" (spCommon) := ⟨f16, fd16, _, ok__law_common F16 B, m16, k16, b16⟩
  have C__law_reduced : CalG P w K mg base 2 "_law_reduced" (spRed) := ⟨f17, fd17, _, ok__law_reduced F17 B C__law_common, m17, k17, b17⟩
  have C__law_some : CalG P w K mg base 2 "_law_some" (spSome) := ⟨f18, fd18, _, ok__law_some F18 B C__law_take, m18, k18, b18⟩
  have C__law_number : CalG P w K mg base 3 "_law_number" (spNum K) := ⟨f19, fd19, _, ok__law_number F19 B C__law_take C__law_some C__law_reduced, m19, k19, b19⟩
  have C__law_mixed : CalG P w K mg base 2 "_law_mixed" (spMixed) := ⟨f20, fd20, _, ok__law_mixed F20 B C__law_take, m20, k20, b20⟩
  have C__law_bag : CalG P w K mg base 1 "_law_bag" (spBag K) := ⟨f21, fd21, _, ok__law_bag F21 B, m21, k21, b21⟩
  have C__law_alike : CalG P w K mg base 1 "_law_alike" (spAlike K) := ⟨f22, fd22, _, ok__law_alike F22 B, m22, k22, b22⟩
  have C__law_added : CalG P w K mg base 3 "_law_added" (spTwo K addF) := ⟨f23, fd23, _, ok__law_added F23 B C__law_reduced, m23, k23, b23⟩
  have C__law_lessened : CalG P w K mg base 3 "_law_lessened" (spTwo K subF) := ⟨f24, fd24, _, ok__law_lessened F24 B C__law_reduced, m24, k24, b24⟩
  have C__law_multiplied : CalG P w K mg base 3 "_law_multiplied" (spTwo K mulF) := ⟨f25, fd25, _, ok__law_multiplied F25 B C__law_reduced, m25, k25, b25⟩
  have C__law_is_below : CalG P w K mg base 1 "_law_is_below" (spBelow K) := ⟨f26, fd26, _, ok__law_is_below F26 B, m26, k26, b26⟩
  have C__law_divided : CalG P w K mg base 3 "_law_divided" (spDiv K) := ⟨f27, fd27, _, ok__law_divided F27 B C__law_reduced, m27, k27, b27⟩
  have C__law_total : CalG P w K mg base 4 "_law_total" (spTotal K) := ⟨f28, fd28, _, ok__law_total F28 B C__law_added, m28, k28, b28⟩
  have C__law_ascending : CalG P w K mg base 2 "_law_ascending" (spAsc K) := ⟨f29, fd29, _, ok__law_ascending F29 B C__law_is_below, m29, k29, b29⟩
  have C__law_any_fraction : CalG P w K mg base 4 "_law_any_fraction" (spFrac K) := ⟨f30, fd30, _, ok__law_any_fraction F30 B C__law_take C__law_reduced C__law_number, m30, k30, b30⟩
  have C__law_text : CalG P w K mg base 1 "_law_text" (spFText K) := ⟨f31, fd31, _, ok__law_text F31 B, m31, k31, b31⟩
  have C_textW : CalG P w K mg base 1 "_law_text" (spFTextW K) := ⟨f31, fd31, _, ok__law_textW F31 B, m31, k31, b31⟩
  have C__law_in_text : CalG P w K mg base 3 "_law_in_text" (spFIn K) := ⟨f32, fd32, _, ok__law_in_text F32 B C__law_common C_textW, m32, k32, b32⟩
  have C__law_texts : CalG P w K mg base 3 "_law_texts" (spTexts K) := ⟨f33, fd33, _, ok__law_texts F33 B C__law_text C__law_mixed, m33, k33, b33⟩
  exact ok_law FL B ⟨C__law_bag, C__law_take, C__law_some, C__law_alike, C_compared, C_least_of, C_greatest_of, C__law_any_fraction, C_reduced, C_added, C_lessened, C_times, C_over, C__law_added, C__law_lessened, C__law_multiplied, C__law_divided, C__law_is_below, C_total, C__law_total, C__law_ascending, C_fraction_text, C__law_text, C_fraction_in, C__law_in_text, C__law_texts⟩
end
end K01
open PySem PySem.W PyProof.Rows
set_option maxRecDepth 100000 in
set_option maxHeartbeats 0 in
theorem PySem.Challenge.cw_soldwhole_k01_whole_fractions_holds : PySem.Challenge.rw_soldwhole_k01_whole_fractions.Holds := by
  w_on; o_law; k_head; (case hw => w_witness2)
  k_fill
  refine Sw.walkG (l := PySem.Challenge.rw_soldwhole_k01_whole_fractions) (n := 63) (k := 5) (x := "script") (sp := fun w => K01.spLaw _) rfl (by decide) rfl ⟨rfl, by decide, by decide⟩ (fun w h Y => PySem.W.kIn_of Y) ?F (fun _ _ a ns hl _ _ hS => ⟨a, ns, rfl, hS, hl, fun _ => rfl⟩)
  case F =>
    intro w mg fa h KX G hmg
    refine' K01.all_mk KX G hmg ?D0 ?D1 ?D2 ?D3 ?D4 ?D5 ?D6 ?D7 ?D8 ?D9 ?D10 ?D11 ?D12 ?D13 ?D14 ?D15 ?D16 ?D17 ?D18 ?D19 ?D20 ?D21 ?D22 ?D23 ?D24 ?D25 ?D26 ?D27 ?D28 ?D29 ?D30 ?D31 ?D32 ?D33 ?DL ?ZE ?GC ?DR ?GB ?RB ?Z
    (case D0 => (refine' K01.def_mk KX G ?a ?l ?c ?k; (case a => k_is); (case l => k_is); (case c => k_is); (case k => k_is)))
    (case D1 => (refine' K01.def_mk KX G ?a ?l ?c ?k; (case a => k_is); (case l => k_is); (case c => k_is); (case k => k_is)))
    (case D2 => (refine' K01.def_mk KX G ?a ?l ?c ?k; (case a => k_is); (case l => k_is); (case c => k_is); (case k => k_is)))
    (case D3 => (refine' K01.def_mk KX G ?a ?l ?c ?k; (case a => k_is); (case l => k_is); (case c => k_is); (case k => k_is)))
    (case D4 => (refine' K01.def_mk KX G ?a ?l ?c ?k; (case a => k_is); (case l => k_is); (case c => k_is); (case k => k_is)))
    (case D5 => (refine' K01.def_mk KX G ?a ?l ?c ?k; (case a => k_is); (case l => k_is); (case c => k_is); (case k => k_is)))
    (case D6 => (refine' K01.def_mk KX G ?a ?l ?c ?k; (case a => k_is); (case l => k_is); (case c => k_is); (case k => k_is)))
    (case D7 => (refine' K01.def_mk KX G ?a ?l ?c ?k; (case a => k_is); (case l => k_is); (case c => k_is); (case k => k_is)))
    (case D8 => (refine' K01.def_mk KX G ?a ?l ?c ?k; (case a => k_is); (case l => k_is); (case c => k_is); (case k => k_is)))
    (case D9 => (refine' K01.def_mk KX G ?a ?l ?c ?k; (case a => k_is); (case l => k_is); (case c => k_is); (case k => k_is)))
    (case D10 => (refine' K01.def_mk KX G ?a ?l ?c ?k; (case a => k_is); (case l => k_is); (case c => k_is); (case k => k_is)))
    (case D11 => (refine' K01.def_mk KX G ?a ?l ?c ?k; (case a => k_is); (case l => k_is); (case c => k_is); (case k => k_is)))
    (case D12 => (refine' K01.def_mk KX G ?a ?l ?c ?k; (case a => k_is); (case l => k_is); (case c => k_is); (case k => k_is)))
    (case D13 => (refine' K01.def_mk KX G ?a ?l ?c ?k; (case a => k_is); (case l => k_is); (case c => k_is); (case k => k_is)))
    (case D14 => (refine' K01.def_mk KX G ?a ?l ?c ?k; (case a => k_is); (case l => k_is); (case c => k_is); (case k => k_is)))
    (case D15 => (refine' K01.def_mk KX G ?a ?l ?c ?k; (case a => k_is); (case l => k_is); (case c => k_is); (case k => k_is)))
    (case D16 => (refine' K01.def_mk KX G ?a ?l ?c ?k; (case a => k_is); (case l => k_is); (case c => k_is); (case k => k_is)))
    (case D17 => (refine' K01.def_mk KX G ?a ?l ?c ?k; (case a => k_is); (case l => k_is); (case c => k_is); (case k => k_is)))
    (case D18 => (refine' K01.def_mk KX G ?a ?l ?c ?k; (case a => k_is); (case l => k_is); (case c => k_is); (case k => k_is)))
    (case D19 => (refine' K01.def_mk KX G ?a ?l ?c ?k; (case a => k_is); (case l => k_is); (case c => k_is); (case k => k_is)))
    (case D20 => (refine' K01.def_mk KX G ?a ?l ?c ?k; (case a => k_is); (case l => k_is); (case c => k_is); (case k => k_is)))
    (case D21 => (refine' K01.def_mk KX G ?a ?l ?c ?k; (case a => k_is); (case l => k_is); (case c => k_is); (case k => k_is)))
    (case D22 => (refine' K01.def_mk KX G ?a ?l ?c ?k; (case a => k_is); (case l => k_is); (case c => k_is); (case k => k_is)))
    (case D23 => (refine' K01.def_mk KX G ?a ?l ?c ?k; (case a => k_is); (case l => k_is); (case c => k_is); (case k => k_is)))
    (case D24 => (refine' K01.def_mk KX G ?a ?l ?c ?k; (case a => k_is); (case l => k_is); (case c => k_is); (case k => k_is)))
    (case D25 => (refine' K01.def_mk KX G ?a ?l ?c ?k; (case a => k_is); (case l => k_is); (case c => k_is); (case k => k_is)))
    (case D26 => (refine' K01.def_mk KX G ?a ?l ?c ?k; (case a => k_is); (case l => k_is); (case c => k_is); (case k => k_is)))
    (case D27 => (refine' K01.def_mk KX G ?a ?l ?c ?k; (case a => k_is); (case l => k_is); (case c => k_is); (case k => k_is)))
    (case D28 => (refine' K01.def_mk KX G ?a ?l ?c ?k; (case a => k_is); (case l => k_is); (case c => k_is); (case k => k_is)))
    (case D29 => (refine' K01.def_mk KX G ?a ?l ?c ?k; (case a => k_is); (case l => k_is); (case c => k_is); (case k => k_is)))
    (case D30 => (refine' K01.def_mk KX G ?a ?l ?c ?k; (case a => k_is); (case l => k_is); (case c => k_is); (case k => k_is)))
    (case D31 => (refine' K01.def_mk KX G ?a ?l ?c ?k; (case a => k_is); (case l => k_is); (case c => k_is); (case k => k_is)))
    (case D32 => (refine' K01.def_mk KX G ?a ?l ?c ?k; (case a => k_is); (case l => k_is); (case c => k_is); (case k => k_is)))
    (case D33 => (refine' K01.def_mk KX G ?a ?l ?c ?k; (case a => k_is); (case l => k_is); (case c => k_is); (case k => k_is)))
    (case DL => (refine' K01.law_mk KX G ?a ?l ?c ?k; (case a => k_is); (case l => k_is); (case c => k_is); (case k => k_is)))
    (case ZE => (refine' K01.tup_mk KX G ?a ?l; (case a => k_is); (case l => k_is)))
    (case GC => (refine' K01.gc_mk ?a; (case a => k_is)))
    (case DR => (refine' K01.int_mk ?a; (case a => k_is)))
    (case GB => (refine' K01.int_mk ?a; (case a => k_is)))
    (case RB => (refine' K01.int_mk ?a; (case a => k_is)))
    (case Z => (refine' K01.bte_mk ?z0 ?z1 ?z2 ?z3 ?z4 ?z5 ?z6 ?z7 ?z8 ?z9 ?z10 ?z11 ?z12 ?z13 ?z14 ?z15 ?z16; (case z0 => k_is); (case z1 => k_is); (case z2 => k_is); (case z3 => k_is); (case z4 => k_is); (case z5 => k_is); (case z6 => k_is); (case z7 => k_is); (case z8 => k_is); (case z9 => k_is); (case z10 => k_is); (case z11 => k_is); (case z12 => k_is); (case z13 => k_is); (case z14 => k_is); (case z15 => k_is); (case z16 => k_is)))
