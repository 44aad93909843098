import PyProof.Rows.All
import Wide.All
import OpenK.AllK
import Wide.FinOn
import HandS.ForMost
import HandS.IsInst
import HandS.Gcd
import HandS.Wide
import HandS.WideBits
import HandS.Flow
import HandS.TupAny
import HandS.StrMore
import HandS.Conv
import HandS.RaiseMore
import HandS.ExcInit
import HandS.ExcIs
import HandS.ExcField
import HandS.ExcValue
import HandS.EndBits
import HandS.DeepEq
import HandS.Walk
import HandS.Codes
import KE.KExcIs
import HandS.Rev
import HandS.MapJoin
import HandS.Text
import PyProof.Rows.StrAscii
import PyProof.Rows.StrDigitsNeg
import PyProof.StrLawsAffix
import KE.IntTextLaws
import HandS.ReplaceLit
import HandS.Zip
import HandS.Star
import KE.GoesMore
import PyProof.EqKinds
import PyProof.FactsAll.dict
import KE.GoesZip
import HandS.Style
import HandS.SetFor
import HandS.SetTxt0
import HandS.Strs
import PyProof.Rows.SortShellAny
import KE.KEqDict
import HandS.Small
import HandS.TupMul
import HandS.DictComp
import HandS.Lambda
import HandS.EndTab
import HandS.SortKw
import KE.SortKeyHeap
import KE.SortData
import KE.KDictDisplayH
import KE.DataMinMax
import KE.KNestM
import PySem.Challenge.RW_soldwhole_k33_level_papers_of_any_value
import KE.GoesEnum
set_option Elab.async false
set_option linter.all false
set_option maxRecDepth 100000
set_option maxHeartbeats 8000000
/-! The guarded layer: a def's promise where no repr is under way (guards = []), so that repr of data may be asked. -/
namespace Sw
open PySem PySem.Spec PyProof.Rows L2

/-- no repr is under way -/
def Gd (A : Around) : Prop := A.guards = some []
theorem Gd.deeper {A : Around} (g : Gd A) (env : Env) : Gd (A.deeper env) := by
  unfold Gd at *
  first
    | exact g
    | (simp [Around.deeper, g])
theorem Gd.make {A : Around} (g : Gd A) (C : Addr) (us : List Value) (kw : List (Str × Value)) : Gd (A.under (.builtin "type.__call__" ⟨.ref C :: us, kw⟩)) := by
  unfold Gd at *
  first
    | exact g
    | (simp [Around.under, Code.guards, Code.isGuard, guardIds, pushGuards, g])
theorem gd_caller : Gd callerA := rfl

/-- the def at f keeps the promise sp, where no repr is under way -/
structure FnG (P : Program) (w : World) (K : PySem.W.Frag) (mg : Str → Option Value) (base : Heap) (k : Nat) (f : Addr) (fd : FuncData) (ps : List Str) (sp : Sp) : Prop where
  len : ∀ vs H Q E, sp vs H Q E → vs.length = ps.length
  go : ∀ {A : Around} {outer : List Env} {s : Shared} {H : Hp} {args : Args} {us : List Value} {vs : List V} {Q : VK} {E : XK},
    Gd A → Room k A → Env0 P w K mg base A outer s H → BindsTo s fd args (ps.zip us) → Vals vs us → sp vs H Q E →
    codeAny (model P w) A (.call (.ref f) args) (CR CX0 outer P w H s Q E) s
section
variable {P : Program} {w : World} {K : PySem.W.Frag} {mg : Str → Option Value} {base : Heap}
theorem FnG.of {k : Nat} {f : Addr} {fd : FuncData} {ps : List Str} {sp : Sp} (F : FnOk P w K mg base CX0 k f fd ps sp) : FnG P w K mg base k f fd ps sp :=
  ⟨F.len, fun _ hr e0 hb hv hs => F.run _ _ _ _ _ _ _ _ _ hr e0 hb hv hs⟩
theorem FnG.mono {j k : Nat} {f : Addr} {fd : FuncData} {ps : List Str} {sp : Sp} (F : FnG P w K mg base j f fd ps sp) (h : j ≤ k) : FnG P w K mg base k f fd ps sp :=
  ⟨F.len, fun g hr => F.go g (hr.mono h)⟩
end
section
variable {X : Cx} {k : Nat} {f : Addr} {fd : FuncData} {ps : List Str} {sp : Sp} {ds : List Value} {dvs : List V} {x : Str} {e : Expr} {es : List Expr} {t : TA} {p pos : Pos}
theorem runG {pins : List (Addr × Obj)} {σ : L2.St} {H : Hp} {s : Shared} {Q : VK} {us : List Value} {vs : List V} (F : FnG X.prog X.w X.K X.mg X.base k f fd ps sp) (g : Gd X.A) (hr : Room k X.A)
    (hb : Binds X.K fd ps ds) (hd : Vals dvs ds) (I : Inv X pins σ H s) (r : Vals vs us) (h : sp (vs ++ dvs) H Q E0) : wpAny (model X.prog X.w) X.A (call (.ref f) us) (EP X pins σ Q) X.xe s := by
  have rr : Vals (vs ++ dvs) (us ++ ds) := r.append hd
  have hz : (us ++ ds).length = ps.length := rr.length.symm.trans (F.len _ _ _ _ h)
  refine wpAny_call (codeAny_mono (F.go g hr I.env0 (hb s us I.kIn hz) rr h) fun res s' z => ?_)
  match res, z with
  | .ok (.ret u), z => exact I.after z
/-- f(e, ..), f a def of the text -/
theorem peG (F : FnG X.prog X.w X.K X.mg X.base k f fd ps sp) (g : Gd X.A) (hr : Room k X.A) (hg : Gl X x) (hm : X.mg x = some (.ref f)) (hk : PySem.W.keepIn X.K (.ref f) = true) (hb : Binds X.K fd ps ds) (hd : Vals dvs ds) (ha : PA X (e :: es) t)
    (hdb : (x == ("__debug__" : Str)) = false := by decide) (he : starEach (e :: es) X.env = (false, eval e X.env) :: starEach es X.env := by rfl) (hpl : (backTo pos (starEach es X.env)).any (·.1) = false := by rfl) :
    PE X (.Call (.Name x p) (e :: es) [] pos) (tCall sp dvs E0 t) :=
  ⟨fun pins s σ H Q I h => wpAny_Call_Name_kw (ld_glob I hg hm (PySem.W.callWith_K (h₀ := X.base) I.ok.mod.kin hk
    (thn (ha.run pos pins s σ H _ I h) fun us s1 z => by obtain ⟨vs, H1, I1, r, q⟩ := z; exact ⟨I1.kIn, runG F g hr hb hd I1 r q⟩) he hpl) hdb)⟩
theorem peG0 (F : FnG X.prog X.w X.K X.mg X.base k f fd ps sp) (g : Gd X.A) (hr : Room k X.A) (hg : Gl X x) (hm : X.mg x = some (.ref f)) (hk : PySem.W.keepIn X.K (.ref f) = true) (hb : Binds X.K fd ps ds) (hd : Vals dvs ds)
    (hdb : (x == ("__debug__" : Str)) = false := by decide) : PE X (.Call (.Name x p) [] [] pos) (tCall sp dvs E0 tNil) :=
  ⟨fun pins s σ H Q I h => wpAny_Call_Name_kw (ld_glob I hg hm (PySem.W.callWith_K0 I.kIn hk (runG (us := []) F g hr hb hd I .nil h)) hdb)⟩
end
section
variable {P : Program} {w : World} {K : PySem.W.Frag} {mg : Str → Option Value} {base : Heap}
/-- a def by its body, where no repr is under way -/
theorem Fun.okG {x qual : Str} {st : Stmt} {f : Addr} {fd : FuncData} {N ps : List Str} {k : Nat} {sp : Sp} (F : Fun K x qual st f fd) (S : FnScope N ps (defScope st)) (len : ∀ vs H Q E, sp vs H Q E → vs.length = ps.length)
    (hbody : ∀ (cdv : Value) (A : Around) (outer : List Env) (s : Shared) (H : Hp) (vs : List V) (Q : VK) (E : XK), Gd (A.deeper (envOfC qual (defScope st) s.heap.objs.size f cdv)) → Room k (A.deeper (envOfC qual (defScope st) s.heap.objs.size f cdv)) → sp vs H Q E →
      ∃ t, PSs (cxOf CX0 P w K mg base N qual (defScope st) f cdv A outer s H E).nox (defBody st) t ∧ t { nx := fun _ H' => Q .non H', rt := Q } (start N vs) H) : FnG P w K mg base (k + 1) f fd ps sp := by
  obtain ⟨oc, od, kV, doc, pm, an, cdv, ct, osl, rfl, lk, hcd⟩ := F.ex
  refine ⟨len, ?_⟩
  intro A outer s H args us vs Q E g hr e0 hb r hs
  have hz := len _ _ _ _ hs
  have up : ∀ b o, base.get? b = some o → s.heap.get? b = some o := fun b o z => (e0.bs b o z).1
  refine codeAny_call_function hr.depth ((e0.mod.kin.keeps up) _ _ lk) rfl S.co S.gen rfl (PySem.W.codeRec_of (e0.mod.kin.keeps up) hcd) (hb _ _ _ _ (wpAny_newFunctionEnv_cells S.kind (fun y hy => ?_) fun env he s1 x1 => ?_))
  · rcases S.par y.1 (List.of_mem_zip (show (y.1, y.2) ∈ ps.zip us from hy)).1 with q | q
    · exact .inl q
    · exact .inr ⟨q, PySem.W.cellsFrom_some _ _ _ (.inl q)⟩
  · subst he
    obtain ⟨t, ht, hq⟩ := hbody cdv A outer s H vs Q E (g.deeper _) (hr.deeper _) hs
    refine ⟨(e0.mod.nolimit.keeps up).keeps x1.toInCall.keep, codeAny_func (wpAny_mono (ht.nox.run [] s1 (start N vs) H _ (inv_start S hr.hd e0 hz r x1) hq) ?_ fun _ _ z => z)⟩
    intro fl s' z
    match fl, z with
    | .ret u, ⟨v, σ', H', J, rv, q⟩ => exact ⟨v, H', J.os, J.bare, J.base, J.hok, rv, q⟩
    | .next, ⟨σ', H', J, q⟩ => exact ⟨.non, H', J.os, J.bare, J.base, J.hok, rfl, q⟩
    | .brk, ⟨_, _, _, q⟩ => exact q.elim
    | .cont, ⟨_, _, _, q⟩ => exact q.elim
end
/-! ### the law's own call -/
section
variable {P : Program} {w : World} {K : PySem.W.Frag} {mg mb : Str → Option Value} {k : Nat} {fa a : Addr} {fd : FuncData} {x : Str} {sp : Sp} {s₁ : Shared} {vs : List Value} {ns : List Int}
/-- the abstract heap in which the script alone is known -/
def scr (a : Addr) (ob : Obj) (ns : List Int) : Hp := fun b => if b = a then some (.frz ob (.lst (ns.map V.int))) else none
theorem scr_at {ob : Obj} : scr a ob ns a = some (.frz ob (.lst (ns.map V.int))) := if_pos rfl
theorem scr_ne {ob : Obj} {b : Addr} (h : b ≠ a) : scr a ob ns b = none := if_neg h
theorem lawFrom (H : Hp) (hO : Only H) (KX : K.In s₁.heap) (hns : s₁.heap.Ns mainGlobals mg) (hb : s₁.heap.Ns builtinsNs mb) (hbb : ∀ y : Str, y ≠ "__name__" → mb y = bootBuiltins y) (hlim : s₁.heap.NoLimit) (hg : s₁.gens = #[])
    (ok : HOk P w H s₁.heap) (nk : ∀ b o, K.lookup b = some o → H b = none) (nd : ∀ b o es ep, s₁.heap.get? b = some o → o.data = .dict es ep → H b = none) (hr : Room k callerA)
    (F : ∀ base : Heap, K.In base → base.Ns mainGlobals mg → FnG P w K mg base k fa fd [x] sp) (hbind : ∀ (s : Shared) (u : Value), BindsTo s fd ⟨[u], []⟩ [(x, u)])
    (hs : sp [.ref a] H (fun v _ => v = .bl true) fun _ _ _ => False) :
    codeAny (model P w) callerA (.call (.ref fa) ⟨[.ref a], []⟩) (fun r s' => r = .ok (.ret (.bool true)) ∧ OldK s₁.heap s'.heap ∧ s'.os = s₁.os ∧ AllBare s'.gens) s₁ := by
  have kIn : K.In (hidT s₁.heap H) := fun b o z => hidT_get (KX b o z) (nk b o z)
  have nsIn : ∀ {b : Addr} {m : Str → Option Value}, s₁.heap.Ns b m → (hidT s₁.heap H).Ns b m := fun {b m} z => by
    obtain ⟨o, es, ep, z1, z2, z3⟩ := z
    exact ⟨o, es, ep, hidT_get z1 (nd b o es ep z1 z2), z2, z3⟩
  have lim : (hidT s₁.heap H).NoLimit := by
    obtain ⟨mc, z1, z2⟩ := hlim
    exact ⟨mc, nsIn z1, z2⟩
  have e0 : Env0 P w K mg (hidT s₁.heap H) callerA [] s₁ H :=
    { frames := rfl, mod := ⟨kIn, nsIn hns, ⟨mb, nsIn hb, hbb⟩, lim⟩, bs := fun _ _ z => of_hidT z, bsz := Nat.le_of_eq (hidT_size _ _), funs := trivial, frf := (fun b z => nomatch z), hok := ok, bare := .of_eq hg }
  refine codeAny_mono ((F _ kIn (nsIn hns)).go (us := [.ref a]) (vs := [.ref a]) gd_caller hr e0 (hbind s₁ (.ref a)) (.cons rfl .nil) hs) fun r s' z => ?_
  match r, z with
  | .ok (.ret u), z =>
    obtain ⟨v, H', zo, zb, un, ok', rv, q⟩ := z
    have q : v = .bl true := q
    subst q
    have eu : u = Value.bool true := rv
    subst eu
    refine ⟨rfl, .of_keep fun b o e => ?_, zo, zb⟩
    rcases hO b with n | ⟨ob, xs, n⟩
    · exact un.keep b o e n (fun z => nomatch z) (fun z => nomatch z)
    · have e1 := (ok b _ n).1
      have e2 := (ok' b _ (un.frzs b ob _ n)).1
      have e3 : o = ob := Option.some.inj (e.symm.trans e1)
      rw [e3]
      exact e2
theorem lawG (KX : K.In s₁.heap) (hns : s₁.heap.Ns mainGlobals mg) (hb : s₁.heap.Ns builtinsNs mb) (hbb : ∀ y : Str, y ≠ "__name__" → mb y = bootBuiltins y) (hlim : s₁.heap.NoLimit) (hg : s₁.gens = #[])
    (ha : s₁.heap.get? a = some { cls := .type "list", data := .seq vs.toArray }) (hi : IntsAre vs ns) (hl : ns.length ≤ sizeLine) (hr : Room k callerA)
    (F : ∀ base : Heap, K.In base → base.Ns mainGlobals mg → FnG P w K mg base k fa fd [x] sp) (hbind : ∀ (s : Shared) (u : Value), BindsTo s fd ⟨[u], []⟩ [(x, u)])
    (hsp : ∀ H : Hp, Only H → SqL K H a (ns.map V.int) → sp [.ref a] H (fun v _ => v = .bl true) fun _ _ _ => False) :
    codeAny (model P w) callerA (.call (.ref fa) ⟨[.ref a], []⟩) (fun r s' => r = .ok (.ret (.bool true)) ∧ OldK s₁.heap s'.heap ∧ s'.os = s₁.os ∧ AllBare s'.gens) s₁ := by
  have rv := vals_ints hi
  have hln := hi.length
  rcases hk : K.lookup a with _ | o
  · refine lawFrom (scr a { cls := .type "list", data := .seq vs.toArray } ns) ?_ KX hns hb hbb hlim hg ?_ ?_ ?_ hr F hbind (hsp _ ?_ (.inl (.inr ⟨_, scr_at⟩)))
    rotate_left
    · intro b u z
      by_cases e : b = a
      · rw [e, scr_at] at z
        cases z
        rw [e]
        exact ⟨ha, by rw [List.length_map]; exact hl, vs, _, rv, ha⟩
      · rw [scr_ne e] at z
        cases z
    · intro b o z
      refine scr_ne fun e => ?_
      rw [e, hk] at z
      cases z
    · intro b o es ep z1 z2
      refine scr_ne fun e => ?_
      rw [e, ha] at z1
      cases z1
      cases z2
    all_goals
      intro b
      by_cases e : b = a
      · exact .inr ⟨_, _, by rw [e]; exact scr_at⟩
      · exact .inl (scr_ne e)
  · have z := KX a o hk
    rw [ha] at z
    cases z
    exact lawFrom (fun _ => none) (fun _ => .inl rfl) KX hns hb hbb hlim hg (fun _ _ z => nomatch z) (fun _ _ _ => rfl) (fun _ _ _ _ _ _ => rfl) hr F hbind
      (hsp _ (fun _ => .inl rfl) (.inr ⟨_, vs.toArray, _, hk, rfl, rfl, rfl, by rw [List.size_toArray, hln]; exact hl, by simpa using rv⟩))
end
theorem walkG {l : PySem.W.OpenLaw} {n k : Nat} {q : Program} {loose : List Str} {XP : (Str → Option Value) → Heap → Prop} {YP : World → Heap → Prop} {d : DefRec} {K : Params → PySem.W.Frag} {sp : World → Sp} {x : Str}
    (hn : l.most = some n) (hn2 : n ≤ sizeLine) (hdf : d.params.defaults = []) (hr : Room k callerA) (hY : ∀ (w : World) (h : Heap), YP w h → (K w.params).In h)
    (F : ∀ (w : World) (mg : Str → Option Value) (fa : Addr) (h : Heap), (K w.params).In h → h.Ns mainGlobals mg → mg d.name = some (.ref fa) →
      ∃ fd : FuncData, (∀ (s : Shared) (u : Value), BindsTo s fd ⟨[u], []⟩ [(x, u)]) ∧
        ∀ base : Heap, (K w.params).In base → base.Ns mainGlobals mg → FnG l.prog w (K w.params) mg base k fa fd [x] (sp w))
    (hsp : ∀ (w : World) (H : Hp) (a : Addr) (ns : List Int), ns.length ≤ n → (∀ z ∈ ns, Builtin.Int.intBits z ≤ 1048576) → Only H → SqL (K w.params) H a (ns.map V.int) → sp w [.ref a] H (fun v _ => v = .bl true) fun _ _ _ => False) :
    PySem.W.WalkO q loose XP YP l.row.toRowW d [] (fun f vs => PySem.call f vs) :=
  Att.attach_callB hn hdf fun w s₀ s₁ mg mb fa o pm cd doc a vs ns G Y ho hd hcd hmg hobj hints hlen hbits hg => by
    obtain ⟨fd, hb, hF⟩ := F w mg fa _ (hY w _ Y) G.T.g hmg
    exact lawG (hY w _ Y) G.T.g G.T.b G.T.builtins G.T.nolimit hg hobj hints (Nat.le_trans hlen hn2) hr hF hb fun H hO hS => hsp w H a ns hlen hbits hO hS
end Sw
/-! Data as a whole over the abstract heap (Dt), what stays (Fut), == and repr of data. -/
namespace Sw
open PySem PySem.Spec PyProof.Rows L2

/-- a tuple of the written part -/
def KTup (K : PySem.W.Frag) (a : Addr) (xs : List V) : Prop :=
  ∃ (o : Obj) (its : Array Value) (n : Nat), K.lookup a = some o ∧ o.cls = .type "tuple" ∧ o.data = .seq its n ∧ its.size ≤ sizeLine ∧ Vals xs its.toList
def keyD : Key → PyData
  | .inl i => .int i
  | .inr x => .str x
mutual
/-- v is the datum d; mu: the lists and dicts that are about to change (none of them is part of d) -/
inductive Dt (K : PySem.W.Frag) (mu : Addr → Prop) (H : Hp) : V → PyData → Prop
  | non : Dt K mu H .non .none
  | bl (b : Bool) : Dt K mu H (.bl b) (.bool b)
  | int (i : Int) : Dt K mu H (.int i) (.int i)
  | str (x : Str) : Dt K mu H (.str x) (.str x)
  | lst {a : Addr} {xs : List V} {ds : List PyData} : ¬ mu a → Rd H a (.lst xs) → DtA K mu H xs ds → Dt K mu H (.ref a) (.list ds)
  | tup {a : Addr} {xs : List V} {ds : List PyData} : Rd H a (.tup xs) → DtA K mu H xs ds → Dt K mu H (.ref a) (.tuple ds)
  | tupK {a : Addr} {xs : List V} {ds : List PyData} : KTup K a xs → DtA K mu H xs ds → Dt K mu H (.ref a) (.tuple ds)
  | dct {a : Addr} {kvs : List (Key × V)} {ds : List (PyData × PyData)} : ¬ mu a → Rd H a (.dK kvs) → DtK K mu H kvs ds → Dt K mu H (.ref a) (.dict ds)
inductive DtA (K : PySem.W.Frag) (mu : Addr → Prop) (H : Hp) : List V → List PyData → Prop
  | nil : DtA K mu H [] []
  | cons {v : V} {vs : List V} {d : PyData} {ds : List PyData} : Dt K mu H v d → DtA K mu H vs ds → DtA K mu H (v :: vs) (d :: ds)
inductive DtK (K : PySem.W.Frag) (mu : Addr → Prop) (H : Hp) : List (Key × V) → List (PyData × PyData) → Prop
  | nil : DtK K mu H [] []
  | cons {k : Key} {v : V} {kvs : List (Key × V)} {d : PyData} {ds : List (PyData × PyData)} : Dt K mu H v d → DtK K mu H kvs ds → DtK K mu H ((k, v) :: kvs) ((keyD k, d) :: ds)
end

/-- what is not about to change stays, and tuples do -/
def Fut (mu : Addr → Prop) (H H' : Hp) : Prop := ∀ a o, H a = some o → (¬ mu a ∨ (∃ xs, o = .tup xs) ∨ ∃ ob u, o = .frz ob u) → H' a = some o
theorem Fut.refl {mu : Addr → Prop} (H : Hp) : Fut mu H H := fun _ _ e _ => e
theorem Fut.trans {mu : Addr → Prop} {H H1 H2 : Hp} (a : Fut mu H H1) (b : Fut mu H1 H2) : Fut mu H H2 := fun x o e h => b x o (a x o e h) h
theorem Fut.of_same {mu : Addr → Prop} {H H' : Hp} (s : Same H H') : Fut mu H H' := fun a o e _ => s a o e
theorem Fut.mono {mu mv : Addr → Prop} {H H' : Hp} (f : Fut mu H H') (h : ∀ a, mu a → mv a) : Fut mv H H' := fun a o e z => f a o e (z.imp (fun n m => n (h a m)) id)
theorem Fut.rd {mu : Addr → Prop} {H H' : Hp} (f : Fut mu H H') {a : Addr} {o : HO} (hm : ¬ mu a) (r : Rd H a o) : Rd H' a o := by
  rcases r with r | ⟨ob, r⟩
  · exact .inl (f a _ r (.inl hm))
  · exact .inr ⟨ob, f a _ r (.inl hm)⟩
theorem Fut.rdT {mu : Addr → Prop} {H H' : Hp} (f : Fut mu H H') {a : Addr} {xs : List V} (r : Rd H a (.tup xs)) : Rd H' a (.tup xs) := by
  rcases r with r | ⟨ob, r⟩
  · exact .inl (f a _ r (.inr (.inl ⟨xs, rfl⟩)))
  · exact .inr ⟨ob, f a _ r (.inr (.inr ⟨ob, _, rfl⟩))⟩
section
variable {K : PySem.W.Frag} {mu mv : Addr → Prop} {H H' : Hp}
mutual
theorem Dt.fut (f : Fut mu H H') : ∀ {v : V} {d : PyData}, Dt K mu H v d → Dt K mu H' v d
  | _, _, .non => .non
  | _, _, .bl b => .bl b
  | _, _, .int i => .int i
  | _, _, .str x => .str x
  | _, _, .lst n r h => .lst n (f.rd n r) (DtA.fut f h)
  | _, _, .tup r h => .tup (f.rdT r) (DtA.fut f h)
  | _, _, .tupK r h => .tupK r (DtA.fut f h)
  | _, _, .dct n r h => .dct n (f.rd n r) (DtK.fut f h)
theorem DtA.fut (f : Fut mu H H') : ∀ {vs : List V} {ds : List PyData}, DtA K mu H vs ds → DtA K mu H' vs ds
  | _, _, .nil => .nil
  | _, _, .cons h t => .cons (Dt.fut f h) (DtA.fut f t)
theorem DtK.fut (f : Fut mu H H') : ∀ {vs : List (Key × V)} {ds : List (PyData × PyData)}, DtK K mu H vs ds → DtK K mu H' vs ds
  | _, _, .nil => .nil
  | _, _, .cons h t => .cons (Dt.fut f h) (DtK.fut f t)
end
mutual
/-- fewer that change -/
theorem Dt.less (f : ∀ a, mv a → mu a) : ∀ {v : V} {d : PyData}, Dt K mu H v d → Dt K mv H v d
  | _, _, .non => .non
  | _, _, .bl b => .bl b
  | _, _, .int i => .int i
  | _, _, .str x => .str x
  | _, _, .lst n r h => .lst (fun z => n (f _ z)) r (DtA.less f h)
  | _, _, .tup r h => .tup r (DtA.less f h)
  | _, _, .tupK r h => .tupK r (DtA.less f h)
  | _, _, .dct n r h => .dct (fun z => n (f _ z)) r (DtK.less f h)
theorem DtA.less (f : ∀ a, mv a → mu a) : ∀ {vs : List V} {ds : List PyData}, DtA K mu H vs ds → DtA K mv H vs ds
  | _, _, .nil => .nil
  | _, _, .cons h t => .cons (Dt.less f h) (DtA.less f t)
theorem DtK.less (f : ∀ a, mv a → mu a) : ∀ {vs : List (Key × V)} {ds : List (PyData × PyData)}, DtK K mu H vs ds → DtK K mv H vs ds
  | _, _, .nil => .nil
  | _, _, .cons h t => .cons (Dt.less f h) (DtK.less f t)
end
mutual
/-- one more that changes, not tracked as yet -/
theorem Dt.more {l : Addr} (n : H l = Option.none) : ∀ {v : V} {d : PyData}, Dt K mu H v d → Dt K (fun a => mu a ∨ a = l) H v d
  | _, _, .non => .non
  | _, _, .bl b => .bl b
  | _, _, .int i => .int i
  | _, _, .str x => .str x
  | _, _, .lst m r h => .lst (fun z => z.elim m fun e => by
      rw [e] at r
      rcases r with r | ⟨_, r⟩ <;> (rw [n] at r; cases r)) r (DtA.more n h)
  | _, _, .tup r h => .tup r (DtA.more n h)
  | _, _, .tupK r h => .tupK r (DtA.more n h)
  | _, _, .dct m r h => .dct (fun z => z.elim m fun e => by
      rw [e] at r
      rcases r with r | ⟨_, r⟩ <;> (rw [n] at r; cases r)) r (DtK.more n h)
theorem DtA.more {l : Addr} (n : H l = Option.none) : ∀ {vs : List V} {ds : List PyData}, DtA K mu H vs ds → DtA K (fun a => mu a ∨ a = l) H vs ds
  | _, _, .nil => .nil
  | _, _, .cons h t => .cons (Dt.more n h) (DtA.more n t)
theorem DtK.more {l : Addr} (n : H l = Option.none) : ∀ {vs : List (Key × V)} {ds : List (PyData × PyData)}, DtK K mu H vs ds → DtK K (fun a => mu a ∨ a = l) H vs ds
  | _, _, .nil => .nil
  | _, _, .cons h t => .cons (Dt.more n h) (DtK.more n t)
end
theorem DtA.length : ∀ {vs : List V} {ds : List PyData}, DtA K mu H vs ds → vs.length = ds.length
  | _, _, .nil => rfl
  | _, _, .cons _ t => by rw [List.length_cons, List.length_cons, DtA.length t]
theorem DtA.get : ∀ {vs : List V} {ds : List PyData} {i : Nat} {v : V}, DtA K mu H vs ds → vs[i]? = some v → ∃ d, ds[i]? = some d ∧ Dt K mu H v d
  | _, _, _, _, .nil, e => by simp at e
  | _, _, 0, _, .cons h _, e => by
    simp at e
    subst e
    exact ⟨_, rfl, h⟩
  | _, _, i + 1, v, .cons _ t, e => by
    obtain ⟨d, h1, h2⟩ := DtA.get (i := i) (v := v) t (by simpa using e)
    exact ⟨d, by simpa using h1, h2⟩
theorem DtA.getD : ∀ {vs : List V} {ds : List PyData} {i : Nat} {d : PyData}, DtA K mu H vs ds → ds[i]? = some d → ∃ v, vs[i]? = some v ∧ Dt K mu H v d
  | _, _, _, _, .nil, e => by simp at e
  | _, _, 0, _, .cons h _, e => by
    simp at e
    subst e
    exact ⟨_, rfl, h⟩
  | _, _, i + 1, v, .cons _ t, e => by
    obtain ⟨d, h1, h2⟩ := DtA.getD (i := i) (d := v) t (by simpa using e)
    exact ⟨d, by simpa using h1, h2⟩
theorem DtA.append : ∀ {vs ws : List V} {ds es : List PyData}, DtA K mu H vs ds → DtA K mu H ws es → DtA K mu H (vs ++ ws) (ds ++ es)
  | _, _, _, _, .nil, s => s
  | _, _, _, _, .cons h t, s => .cons h (DtA.append t s)
theorem DtA.drop : ∀ {vs : List V} {ds : List PyData} (n : Nat), DtA K mu H vs ds → DtA K mu H (vs.drop n) (ds.drop n)
  | _, _, 0, r => r
  | _, _, _ + 1, .nil => .nil
  | _, _, n + 1, .cons _ t => DtA.drop n t
theorem DtA.take : ∀ {vs : List V} {ds : List PyData} (n : Nat), DtA K mu H vs ds → DtA K mu H (vs.take n) (ds.take n)
  | _, _, 0, _ => .nil
  | _, _, _ + 1, .nil => .nil
  | _, _, n + 1, .cons h t => .cons h (DtA.take n t)
theorem DtA.one {vs : List V} {ds : List PyData} (h : DtA K mu H vs ds) (e : ds.length = 1) : ∃ x d, vs = [x] ∧ ds = [d] ∧ Dt K mu H x d := by
  cases h with
  | nil => simp at e
  | cons r1 t =>
    cases t with
    | nil => exact ⟨_, _, rfl, rfl, r1⟩
    | cons _ _ => simp at e
theorem DtA.two {vs : List V} {ds : List PyData} (h : DtA K mu H vs ds) (e : ds.length = 2) : ∃ x y d f, vs = [x, y] ∧ ds = [d, f] ∧ Dt K mu H x d ∧ Dt K mu H y f := by
  cases h with
  | nil => simp at e
  | cons r1 t =>
    obtain ⟨y, f, rfl, rfl, r2⟩ := t.one (by simpa using e)
    exact ⟨_, _, _, _, rfl, rfl, r1, r2⟩
theorem DtA.three {vs : List V} {ds : List PyData} (h : DtA K mu H vs ds) (e : ds.length = 3) : ∃ x y z d f g, vs = [x, y, z] ∧ ds = [d, f, g] ∧ Dt K mu H x d ∧ Dt K mu H y f ∧ Dt K mu H z g := by
  cases h with
  | nil => simp at e
  | cons r1 t =>
    obtain ⟨y, z, f, g, rfl, rfl, r2, r3⟩ := t.two (by simpa using e)
    exact ⟨_, _, _, _, _, _, rfl, rfl, r1, r2, r3⟩
theorem DtA.ints : ∀ (ns : List Int), DtA K mu H (ns.map V.int) (ns.map PyData.int)
  | [] => .nil
  | n :: ns => .cons (.int n) (DtA.ints ns)
theorem DtA.strs : ∀ (ns : List Str), DtA K mu H (ns.map V.str) (ns.map PyData.str)
  | [] => .nil
  | n :: ns => .cons (.str n) (DtA.strs ns)
theorem _root_.L2.Same.seqT {H1 H2 : Hp} (e : Same H1 H2) {a : Addr} {xs : List V} (h : SqT K H1 a xs) : SqT K H2 a xs := by
  rcases h with (h | ⟨o, h⟩) | h
  · exact .inl (.inl (e _ _ h))
  · exact .inl (.inr ⟨o, e _ _ h⟩)
  · exact .inr h
theorem DtA.bls : ∀ (bs : List Bool), DtA K mu H (bs.map V.bl) (bs.map PyData.bool)
  | [] => .nil
  | n :: ns => .cons (.bl n) (DtA.bls ns)
end

/-! ### what the library reads -/
theorem nmem_app {p : Addr → Prop} {as bs : List Addr} (ha : ∀ a ∈ as, ¬ p a) (hb : ∀ a ∈ bs, ¬ p a) : ∀ a ∈ as ++ bs, ¬ p a := fun a h => (List.mem_append.mp h).elim (ha a) (hb a)
theorem nmem_cons {p : Addr → Prop} {b : Addr} {as : List Addr} (hb : ¬ p b) (ha : ∀ a ∈ as, ¬ p a) : ∀ a ∈ b :: as, ¬ p a := fun a h => (List.mem_cons.mp h).elim (fun e => by rw [e]; exact hb) (ha a)
section
variable {X : Cx} {pins : List (Addr × Obj)} {σ : L2.St} {H : Hp} {s : Shared} {mu : Addr → Prop}
theorem Rd.sqL {K : PySem.W.Frag} {a : Addr} {xs : List V} (r : Rd H a (.lst xs)) : SqL K H a xs := .inl r
theorem Rd.sqT {K : PySem.W.Frag} {a : Addr} {xs : List V} (r : Rd H a (.tup xs)) : SqT K H a xs := .inl r
theorem KTup.sqT {K : PySem.W.Frag} {a : Addr} {xs : List V} (r : KTup K a xs) : SqT K H a xs := .inr r
mutual
theorem Dt.reads (I : Inv X pins σ H s) : ∀ (d : PyData) (v : V) (u : Value), Dt X.K mu H v d → RelV v u → ∃ as, Reads s.heap u d as ∧ ∀ a ∈ as, ¬ mu a
  | .none, _, _, h, r => by
    cases h
    cases r
    exact ⟨_, Reads.none, fun _ z => nomatch z⟩
  | .bool b, _, _, h, r => by
    cases h
    cases r
    exact ⟨_, Reads.bool b, fun _ z => nomatch z⟩
  | .int i, _, _, h, r => by
    cases h
    obtain ⟨t, rfl⟩ := r
    exact ⟨_, Reads.int i t, fun _ z => nomatch z⟩
  | .str x, _, _, h, r => by
    cases h
    obtain ⟨t, rfl⟩ := r
    exact ⟨_, Reads.str x t, fun _ z => nomatch z⟩
  | .list ds, _, _, h, r => by
    cases h with
    | lst n rd ha =>
      cases r
      obtain ⟨its, rv, ⟨o, m, ho, hc, _, hd⟩, _⟩ := I.list (Rd.sqL rd)
      obtain ⟨as, hr, hn⟩ := DtA.reads I ds _ its ha rv
      exact ⟨_, Reads.list ho hc hd hr, nmem_cons n hn⟩
  | .tuple ds, _, _, h, r => by
    have key : ∀ {a : Addr} {xs : List V} {u : Value}, SqT X.K H a xs → DtA X.K mu H xs ds → RelV (.ref a) u → ∃ as, Reads s.heap u (.tuple ds) as ∧ ∀ a ∈ as, ¬ mu a := fun {a xs u} hs ha r => by
      cases r
      obtain ⟨its, rv, ⟨o, ho, hc, n, hd⟩, _⟩ := I.tuple hs
      obtain ⟨as, hr, hn⟩ := DtA.reads I ds _ its ha rv
      exact ⟨_, Reads.tuple ho hc hd hr, hn⟩
    cases h with
    | tup rd ha => exact key (Rd.sqT rd) ha r
    | tupK rd ha => exact key (KTup.sqT rd) ha r
  | .dict ds, _, _, h, r => by
    cases h with
    | @dct a kvs _ n rd ha =>
      cases r
      have z : ObjOk X.prog X.w H s.heap a (.dK kvs) := rd.ok I.hok
      obtain ⟨_, _, vs, rel, o, es, ep, ho, hx, hd, _, hp, _⟩ := z
      obtain ⟨as, bs, h1, h2, m1, m2⟩ := DtK.reads I ds kvs vs es.toList ha rel hp
      exact ⟨_, Reads.dict ho hx.1 hd h1 h2, nmem_cons n (nmem_app m1 m2)⟩
theorem DtA.reads (I : Inv X pins σ H s) : ∀ (ds : List PyData) (vs : List V) (us : List Value), DtA X.K mu H vs ds → Vals vs us → ∃ as, ReadsAll s.heap us ds as ∧ ∀ a ∈ as, ¬ mu a
  | [], _, _, h, r => by
    cases h
    cases r
    exact ⟨_, ReadsAll.nil, fun _ z => nomatch z⟩
  | d :: ds, _, _, h, r => by
    cases h with
    | cons h1 h2 =>
      cases r with
      | cons r1 r2 =>
        obtain ⟨as, q1, m1⟩ := Dt.reads I d _ _ h1 r1
        obtain ⟨bs, q2, m2⟩ := DtA.reads I ds _ _ h2 r2
        exact ⟨_, ReadsAll.cons q1 q2, nmem_app m1 m2⟩
theorem DtK.reads (I : Inv X pins σ H s) : ∀ (ds : List (PyData × PyData)) (kvs : List (Key × V)) (vs : List (Key × Value)) (es : List DictEntry), DtK X.K mu H kvs ds → KV kvs vs → Pairs (mixKind X.prog X.w) es vs →
    ∃ as bs, ReadsAll s.heap (es.map (·.key)) (ds.map (·.1)) as ∧ ReadsAll s.heap (es.map (·.val)) (ds.map (·.2)) bs ∧ (∀ a ∈ as, ¬ mu a) ∧ ∀ a ∈ bs, ¬ mu a
  | [], _, _, _, h, r, p => by
    cases h
    cases r
    cases p
    exact ⟨_, _, ReadsAll.nil, ReadsAll.nil, (fun _ z => nomatch z), (fun _ z => nomatch z)⟩
  | (dk, d) :: ds, _, _, _, h, r, p => by
    cases h with
    | @cons k v kvs _ _ h1 h2 =>
      cases r with
      | @cons _ q _ vs r1 r2 =>
        cases p with
        | @cons e _ es _ p1 p2 p3 =>
          obtain ⟨as, q1, m1⟩ := Dt.reads I d _ q.2 h1 r1.2
          obtain ⟨cs, bs, q2, q3, m2, m3⟩ := DtK.reads I ds _ _ _ h2 r2 p3
          have ek : keyIs k e.key = true := by
            have z : keyIs q.1 e.key = true := p1
            rw [← r1.1] at z
            exact z
          have q4 : ∃ as, Reads s.heap e.key (keyD k) as ∧ ∀ a ∈ as, ¬ mu a := by
            rcases keyIs_shape ek with ⟨i, t, z1, z2⟩ | ⟨x, t, z1, z2⟩
            · rw [z1, z2]
              exact ⟨_, Reads.int i t, fun _ z => nomatch z⟩
            · rw [z1, z2]
              exact ⟨_, Reads.str x t, fun _ z => nomatch z⟩
          obtain ⟨a0, q4, m4⟩ := q4
          refine ⟨_, _, ReadsAll.cons q4 q2, ReadsAll.cons (as := as) (by show Reads s.heap e.val d as; rw [p2]; exact q1) q3, nmem_app m4 m2, nmem_app m1 m3⟩
end
end
/-! ### == and repr of data -/
section
variable {X : Cx}
def rEqW (K : PySem.W.Frag) : R2 := fun x y H Q => ∃ mu d e, Dt K mu H x d ∧ Dt K mu H y e ∧ SeqAt.shaped d = true ∧ SeqAt.shaped e = true ∧ Q (.bl (PyData.eqv d e)) H
def rNeW (K : PySem.W.Frag) : R2 := fun x y H Q => ∃ mu d e, Dt K mu H x d ∧ Dt K mu H y e ∧ SeqAt.shaped d = true ∧ SeqAt.shaped e = true ∧ Q (.bl (!PyData.eqv d e)) H
theorem op_eqW (hu : X.A.units + 64 < cLine) : OpR X (compareOp .Eq) (rEqW X.K) := by
  intro pins s σ H x y v u Q I rx ry h
  obtain ⟨mu, d, e, hd, he, sd, se, q⟩ := h
  obtain ⟨as, r1, _⟩ := Dt.reads I d x v hd rx
  obtain ⟨bs, r2, _⟩ := Dt.reads I e y u he ry
  exact SeqAt.compareEq_shaped r1 r2 sd se hu ⟨.bl _, H, I, rfl, q⟩
theorem op_neW (hu : X.A.units + 64 < cLine) : OpR X (compareOp .NotEq) (rNeW X.K) := by
  intro pins s σ H x y v u Q I rx ry h
  obtain ⟨mu, d, e, hd, he, sd, se, q⟩ := h
  obtain ⟨as, r1, _⟩ := Dt.reads I d x v hd rx
  obtain ⟨bs, r2, _⟩ := Dt.reads I e y u he ry
  exact SeqAt.compareNe_shaped r1 r2 sd se hu ⟨.bl _, H, I, rfl, q⟩
/-- == of data, or of one thing with itself -/
def rEqA (K : PySem.W.Frag) : R2 := fun x y H Q => rEqW K x y H Q ∨ (rEqV K x y H Q ∨ rEq x y H Q)
theorem op_eqA (hu : X.A.units + 64 < cLine) : OpR X (compareOp .Eq) (rEqA X.K) := OpR.or (op_eqW hu) (OpR.or (op_eqV hu) op_eq)
def rRepr (K : PySem.W.Frag) : List V → Hp → VK → Prop := fun xs H Q => ∃ (x : V) (mu : Addr → Prop) (d : PyData), xs = [x] ∧ Dt K mu H x d ∧ d.showable = true ∧ (d.hasDict = false ∨ mu sysModules) ∧ d.depth ≤ 60 ∧ d.shown.length ≤ sizeLine ∧ Q (.str d.shown) H
theorem call_repr (hg : Gd X.A) (hu : X.A.units + 64 < cLine) : CallR X (.builtin "repr") (rRepr X.K) := by
  intro pins s σ H xs us Q I r h
  obtain ⟨x, mu, d, rfl, hd, hs, hm, hdp, hl, q⟩ := h
  cases r with
  | @cons _ u _ _ r1 r2 =>
    cases r2
    have fin : ∀ {t : Tok} {tk : Nat}, EP X pins σ Q (.str d.shown t) { s with toks := tk } := fun {t tk} => ⟨.str _, H, I.tok tk, ⟨t, rfl⟩, q⟩
    cases d with
    | none =>
      cases hd
      cases r1
      exact P.repr_of_none fin
    | bool b =>
      cases hd
      cases r1
      exact P.repr_of_bool fin
    | int i =>
      cases hd
      obtain ⟨t, rfl⟩ := r1
      exact P.repr_of_int (of_decide_eq_true hs) fin
    | str y =>
      cases hd
      obtain ⟨t, rfl⟩ := r1
      exact P.repr_of_str fin hl
    | _ =>
      obtain ⟨as, hr, hn⟩ := Dt.reads I _ x u hd r1
      have hu' : ∃ a, u = .ref a := by
        cases hd <;> exact ⟨_, r1⟩
      obtain ⟨a, rfl⟩ := hu'
      exact repr_of_reads' hr hs (fun hz => hm.elim (fun z => by rw [z] at hz; cases hz) fun z y => hn _ y z) hg (by omega) (fun _ _ e => e) (fun h' t tk hk => ⟨.str _, H, (I.kept (h' := h') (t' := tk) hk), ⟨t, rfl⟩, q⟩) hl
end
end Sw
/-! Calls of defs by what they promise; isinstance, len, items of data; the built-ins' names. -/
namespace Sw
open PySem PySem.Spec PyProof.Rows L2

/-- the module's name x is a def that keeps sp -/
structure CalG (P : Program) (w : World) (K : PySem.W.Frag) (mg : Str → Option Value) (base : Heap) (k : Nat) (x : Str) (sp : Sp) : Prop where
  ex : ∃ (f : Addr) (fd : FuncData) (ps : List Str), FnG P w K mg base k f fd ps sp ∧ mg x = some (.ref f) ∧ PySem.W.keepIn K (.ref f) = true ∧ Binds K fd ps []
section
variable {X : Cx} {k j : Nat} {sp : Sp} {x : Str} {e : Expr} {es : List Expr} {t : TA} {p pos : Pos}
theorem pc (c : CalG X.prog X.w X.K X.mg X.base k x sp) (g : Gd X.A) (hr : Room j X.A) (hk : k ≤ j) (hg : Gl X x) (ha : PA X (e :: es) t)
    (hdb : (x == ("__debug__" : Str)) = false := by decide) (he : starEach (e :: es) X.env = (false, eval e X.env) :: starEach es X.env := by rfl) (hpl : (backTo pos (starEach es X.env)).any (·.1) = false := by rfl) :
    PE X (.Call (.Name x p) (e :: es) [] pos) (tCall sp [] E0 t) := by
  obtain ⟨f, fd, ps, F, hm, kp, b⟩ := c.ex
  exact peG F g (hr.mono hk) hg hm kp b .nil ha hdb he hpl
theorem pc0 (c : CalG X.prog X.w X.K X.mg X.base k x sp) (g : Gd X.A) (hr : Room j X.A) (hk : k ≤ j) (hg : Gl X x) (hdb : (x == ("__debug__" : Str)) = false := by decide) :
    PE X (.Call (.Name x p) [] [] pos) (tCall sp [] E0 tNil) := by
  obtain ⟨f, fd, ps, F, hm, kp, b⟩ := c.ex
  exact peG0 F g (hr.mono hk) hg hm kp b .nil hdb
end
theorem Room.u64 {k : Nat} {A : Around} (r : Room k A) : A.units + 64 < cLine := by
  have := r.un
  omega

/-! ### isinstance of data -/
def tyName : PyData → String
  | .none => "NoneType" | .bool _ => "bool" | .int _ => "int" | .str _ => "str" | .list _ => "list" | .tuple _ => "tuple" | .dict _ => "dict"
def isT (T : String) (d : PyData) : Bool := tyName d == T || (tyName d == "bool" && T == "int")
section
variable {K : PySem.W.Frag} {mu : Addr → Prop} {H : Hp}
theorem Dt.tyx {v : V} {d : PyData} (h : Dt K mu H v d) : TyX K H v (.type (tyName d)) := by
  cases h with
  | non => exact .base .non
  | bl b => exact .base (.bl b)
  | int i => exact .base (.int i)
  | str x => exact .base (.str x)
  | lst n r _ =>
    rcases r with r | ⟨o, r⟩
    · exact .base (.lst r)
    · exact .base (.frz r)
  | tup r _ =>
    rcases r with r | ⟨o, r⟩
    · exact .base (.tup r)
    · exact .fTuple r
  | tupK r _ =>
    obtain ⟨o, its, n, h1, h2, _⟩ := r
    exact .kTuple h1 h2
  | dct n r _ =>
    rcases r with r | ⟨o, r⟩
    · exact .base (.dK r)
    · exact .fDict r
end
def tyAsk (T : String) : Bool := ["int", "bool", "str", "list", "tuple", "dict"].contains T
theorem kit_tab : ∀ T ∈ ["int", "bool", "str", "list", "tuple", "dict"], ∀ S ∈ ["NoneType", "bool", "int", "str", "list", "tuple", "dict"], kitB S T = some (S == T || (S == "bool" && T == "int")) := by decide +kernel
theorem tyName_mem (d : PyData) : tyName d ∈ ["NoneType", "bool", "int", "str", "list", "tuple", "dict"] := by
  cases d <;> simp [tyName]
def rIsD (K : PySem.W.Frag) : List V → Hp → VK → Prop := fun xs H Q => ∃ (x : V) (T : String) (mu : Addr → Prop) (d : PyData), xs = [x, .ty T] ∧ T ∈ ["int", "bool", "str", "list", "tuple", "dict"] ∧ Dt K mu H x d ∧ Q (.bl (isT T d)) H
section
variable {X : Cx}
theorem call_isD : CallR X (.builtin "isinstance") (rIsD X.K) := by
  intro pins s σ H xs us Q I r h
  obtain ⟨x, T, mu, d, rfl, hT, hd, q⟩ := h
  exact call_isi pins s σ H _ us Q I r ⟨x, .ty T, _, .type T, _, rfl, .ty T, hd.tyx, kit_ty (kit_tab T hT _ (tyName_mem d)), q⟩

/-! ### len, items -/
def lenD : PyData → Option Nat
  | .str x => some x.length | .list ds => some ds.length | .tuple ds => some ds.length | _ => none
theorem call_lenA : CallR X (.builtin "len") (fun xs H Q => ∃ (x : V) (n : Nat), xs = [x] ∧ LenV X.K x H n ∧ Q (.int n) H) := call_len
theorem lenV_of {K : PySem.W.Frag} {mu : Addr → Prop} {H : Hp} {v : V} {d : PyData} {n : Nat} (h : Dt K mu H v d) (hn : lenD d = some n) (hs : n ≤ sizeLine) : LenV K v H n := by
  cases h with
  | str x =>
    cases hn
    exact ⟨hs, rfl⟩
  | lst m r ha =>
    cases hn
    exact .inl ⟨_, Rd.sqL r, ha.length.symm⟩
  | tup r ha =>
    cases hn
    exact .inr ⟨_, Rd.sqT r, ha.length.symm⟩
  | tupK r ha =>
    cases hn
    exact .inr ⟨_, KTup.sqT r, ha.length.symm⟩
  | _ => cases hn
/-- an item of a tuple, of a list -/
theorem Dt.tupAt {K : PySem.W.Frag} {mu : Addr → Prop} {H : Hp} {v : V} {ds : List PyData} (h : Dt K mu H v (.tuple ds)) : ∃ a xs, v = .ref a ∧ SqT K H a xs ∧ DtA K mu H xs ds := by
  cases h with
  | tup r ha => exact ⟨_, _, rfl, Rd.sqT r, ha⟩
  | tupK r ha => exact ⟨_, _, rfl, KTup.sqT r, ha⟩
theorem Dt.lstAt {K : PySem.W.Frag} {mu : Addr → Prop} {H : Hp} {v : V} {ds : List PyData} (h : Dt K mu H v (.list ds)) : ∃ a xs, v = .ref a ∧ ¬ mu a ∧ Rd H a (.lst xs) ∧ DtA K mu H xs ds := by
  cases h with
  | lst n r ha => exact ⟨_, _, rfl, n, r, ha⟩
/-- o[i] of a list by values (in o[i] op= e), i from 0 on -/
def rGetL (K : PySem.W.Frag) : R2 := fun o i H Q => ∃ (p : Addr) (xs : List V) (j : Nat) (v : V), o = .ref p ∧ i = .int j ∧ SqL K H p xs ∧ xs[j]? = some v ∧ Q v H
theorem get_list : PGet X (rGetL X.K) := by
  intro pins s σ H o i ov iv Q I ro ri h
  obtain ⟨p, xs, j, v, rfl, rfl, hq, he, q⟩ := h
  cases ro
  obtain ⟨t, rfl⟩ := ri
  obtain ⟨its, r, pl, hz⟩ := I.list hq
  obtain ⟨u, eu, ru⟩ := r.get he
  have hn := line63
  have hl := (List.getElem?_eq_some_iff.mp he).1
  exact wpAny_getItem_list pl.isList (by omega) (by omega) (by simpa using eu) ⟨v, H, I, ru, q⟩
end

/-! ### the built-ins' names, not taken by the module -/
structure Bt (mg : Str → Option Value) : Prop where
  len : mg "len" = none
  int : mg "int" = none
  bool : mg "bool" = none
  str : mg "str" = none
  tuple : mg "tuple" = none
  list : mg "list" = none
  dict : mg "dict" = none
  isin : mg "isinstance" = none
  repr : mg "repr" = none
  abs : mg "abs" = none
  max : mg "max" = none
  min : mg "min" = none
  range : mg "range" = none
  enum : mg "enumerate" = none
  zip : mg "zip" = none
theorem bb_abs : bootBuiltins "abs" = some (.builtin "abs") := by decide +kernel
theorem bb_isin : bootBuiltins "isinstance" = some (.builtin "isinstance") := by decide +kernel
theorem bb_repr : bootBuiltins "repr" = some (.builtin "repr") := by decide +kernel
theorem bb_max : bootBuiltins "max" = some (.builtin "max") := by decide +kernel
theorem bb_min : bootBuiltins "min" = some (.builtin "min") := by decide +kernel
theorem bb_len : bootBuiltins "len" = some (.builtin "len") := PySem.boot_len
theorem bb_sum : bootBuiltins "sum" = some (.builtin "sum") := by decide +kernel
theorem bb_all : bootBuiltins "all" = some (.builtin "all") := by decide +kernel
theorem bb_any : bootBuiltins "any" = some (.builtin "any") := by decide +kernel
theorem bb_sorted : bootBuiltins "sorted" = some (.builtin "sorted") := by decide +kernel
theorem bb_divmod : bootBuiltins "divmod" = some (.builtin "divmod") := by decide +kernel
theorem bb_int : bootBuiltins "int" = some (.type "int") := by decide +kernel
theorem bb_bool : bootBuiltins "bool" = some (.type "bool") := by decide +kernel
theorem bb_str : bootBuiltins "str" = some (.type "str") := by decide +kernel
theorem bb_tuple : bootBuiltins "tuple" = some (.type "tuple") := by decide +kernel
theorem bb_list : bootBuiltins "list" = some (.type "list") := by decide +kernel
theorem bb_dict : bootBuiltins "dict" = some (.type "dict") := by decide +kernel
theorem bb_set : bootBuiltins "set" = some (.type "set") := by decide +kernel
theorem bb_VE : bootBuiltins "ValueError" = some (.type "ValueError") := by decide +kernel

/-! ### data of a size that may be shown and compared -/
mutual
def okD : PyData → Bool
  | .none | .bool _ => true
  | .int i => decide (i.natAbs < 10 ^ 500)
  | .str x => PyData.strOk x
  | .list xs | .tuple xs => okA xs
  | .dict kvs => okK kvs
def okA : List PyData → Bool
  | [] => true
  | x :: xs => okD x && okA xs
def okK : List (PyData × PyData) → Bool
  | [] => true
  | (k, v) :: r => okD k && okD v && okK r
end
structure Ok (d : PyData) : Prop where
  ok : okD d = true
  dp : d.depth ≤ 50
  wt : d.weight ≤ 27000
instance (d : PyData) : Decidable (Ok d) := decidable_of_iff (okD d = true ∧ d.depth ≤ 50 ∧ d.weight ≤ 27000) ⟨fun h => ⟨h.1, h.2.1, h.2.2⟩, fun h => ⟨h.ok, h.dp, h.wt⟩⟩
theorem int_short {i : Int} (h : i.natAbs < 10 ^ 500) : (PyData.shown (.int i)).length ≤ 600 := by
  have e := int_text_length_le10 (k := 500) (by decide) h
  show (Str.ofString (toString i)).length ≤ 600
  rw [PySem.ofString_length]
  omega
theorem int_log {i : Int} (h : i.natAbs < 10 ^ 500) : i.natAbs.log2 < 1920 := by
  have e : (10 : Nat) ^ 500 ≤ 2 ^ 1900 := by decide +kernel
  by_cases z : i.natAbs = 0
  · rw [z]
    decide
  · exact Nat.lt_trans ((Nat.log2_lt z).mpr (Nat.lt_of_lt_of_le h e)) (by decide)
mutual
theorem ok_show : ∀ d : PyData, okD d = true → d.showable = true ∧ d.leavesShort 600 = true
  | .none, _ => ⟨rfl, rfl⟩
  | .bool _, _ => ⟨rfl, rfl⟩
  | .int i, h => by
    have h1 : i.natAbs < 10 ^ 500 := by simpa only [okD, decide_eq_true_eq] using h
    exact ⟨by simp only [PyData.showable, decide_eq_true_eq]; exact int_log h1, by simp only [PyData.leavesShort, decide_eq_true_eq]; exact int_short h1⟩
  | .str x, h => ⟨rfl, PyData.leavesShort_of_canLay0 600 (.str x) (by simpa only [okD, PyData.canLay0] using h) rfl⟩
  | .list xs, h => by simpa only [PyData.showable, PyData.leavesShort] using ok_showA xs (by simpa only [okD] using h)
  | .tuple xs, h => by simpa only [PyData.showable, PyData.leavesShort] using ok_showA xs (by simpa only [okD] using h)
  | .dict kvs, h => by simpa only [PyData.showable, PyData.leavesShort] using ok_showK kvs (by simpa only [okD] using h)
theorem ok_showA : ∀ xs : List PyData, okA xs = true → PyData.showableAll xs = true ∧ PyData.leavesShortAll 600 xs = true
  | [], _ => ⟨rfl, rfl⟩
  | x :: xs, h => by
    have h' : okD x = true ∧ okA xs = true := by simpa only [okA, Bool.and_eq_true] using h
    have a := ok_show x h'.1
    have b := ok_showA xs h'.2
    simp only [PyData.showableAll, PyData.leavesShortAll, a.1, a.2, b.1, b.2, Bool.and_self, and_self]
theorem ok_showK : ∀ xs : List (PyData × PyData), okK xs = true → PyData.showableKv xs = true ∧ PyData.leavesShortKv 600 xs = true
  | [], _ => ⟨rfl, rfl⟩
  | (k, v) :: xs, h => by
    have h' : (okD k = true ∧ okD v = true) ∧ okK xs = true := by simpa only [okK, Bool.and_eq_true] using h
    have a := ok_show k h'.1.1
    have c := ok_show v h'.1.2
    have b := ok_showK xs h'.2
    simp only [PyData.showableKv, PyData.leavesShortKv, a.1, a.2, b.1, b.2, c.1, c.2, Bool.and_self, and_self]
end
mutual
theorem ok_lay : ∀ d : PyData, okD d = true → d.hasDict = false → d.canLay0 = true
  | .none, _, _ => rfl
  | .bool _, _, _ => rfl
  | .int i, _, _ => rfl
  | .str x, h, _ => by simpa only [okD, PyData.canLay0] using h
  | .list xs, h, n => by simpa only [PyData.canLay0] using ok_layA xs (by simpa only [okD] using h) (by simpa only [PyData.hasDict] using n)
  | .tuple xs, h, n => by simpa only [PyData.canLay0] using ok_layA xs (by simpa only [okD] using h) (by simpa only [PyData.hasDict] using n)
  | .dict kvs, _, n => by simp [PyData.hasDict] at n
theorem ok_layA : ∀ xs : List PyData, okA xs = true → PyData.hasDictAll xs = false → PyData.canLayAll0 xs = true
  | [], _, _ => rfl
  | x :: xs, h, n => by
    have h' : okD x = true ∧ okA xs = true := by simpa only [okA, Bool.and_eq_true] using h
    have n' : x.hasDict = false ∧ PyData.hasDictAll xs = false := by simpa only [PyData.hasDictAll, Bool.or_eq_false_iff] using n
    simp only [PyData.canLayAll0, ok_lay x h'.1 n'.1, ok_layA xs h'.2 n'.2, Bool.and_self]
end
theorem Ok.show {d : PyData} (h : Ok d) : d.showable = true := (ok_show d h.ok).1
theorem Ok.fits {d : PyData} (h : Ok d) : d.shown.length ≤ sizeLine := by
  have e := PyData.shown_le 600 (by decide) d (ok_show d h.ok).2
  have w := h.wt
  rw [sizeLine_eq]
  omega
theorem Ok.shaped {d : PyData} (h : Ok d) (n : d.hasDict = false) : SeqAt.shaped d = true := by
  have := h.dp
  unfold SeqAt.shaped
  rw [ok_lay d h.ok n, decide_eq_true (by omega)]
  rfl
theorem Ok.repr {K : PySem.W.Frag} {mu : Addr → Prop} {H : Hp} {v : V} {d : PyData} {Q : VK} (h : Ok d) (r : Dt K mu H v d) (n : d.hasDict = false ∨ mu sysModules) (q : Q (.str d.shown) H) : rRepr K [v] H Q :=
  ⟨v, mu, d, rfl, r, h.show, n, by have := h.dp; omega, h.fits, q⟩
theorem eqv_same {d : PyData} (h : d.canLay0 = true) : PyData.eqv d d = true := SeqAt.eqv_refl d h
theorem lay_strs : ∀ {xs : List Str}, (∀ z ∈ xs, PyData.strOk z = true) → PyData.canLayAll0 (xs.map PyData.str) = true ∧ PyData.depthAll (xs.map PyData.str) = 0
  | [], _ => ⟨rfl, rfl⟩
  | x :: xs, h => by
    have e1 : PyData.canLay0 (.str x) = true := by simpa only [PyData.canLay0] using h x List.mem_cons_self
    have e2 := lay_strs fun z hz => h z (List.mem_cons_of_mem _ hz)
    simp only [List.map_cons, PyData.canLayAll0, PyData.depthAll, e1, e2.1, e2.2, PyData.depth, Bool.and_self, Nat.max_self, and_self]
theorem shaped_strs {xs : List Str} (h : ∀ z ∈ xs, PyData.strOk z = true) : SeqAt.shaped (.list (xs.map PyData.str)) = true := by
  have e := lay_strs h
  unfold SeqAt.shaped
  simp only [PyData.canLay0, PyData.depth, e.1, e.2, Bool.true_and]
  decide
/-! ### short words for tests -/
theorem iteNe {A B : Prop} {i j : Int} (h1 : i ≠ j → A) (h2 : i = j → B) : if (!decide (V.int i = V.int j)) = true then A else B := by
  by_cases e : i = j
  · have z : (!decide (V.int i = V.int j)) = false := by rw [e, decide_eq_true rfl]; rfl
    rw [z]
    exact iteF (h2 e)
  · have z : (!decide (V.int i = V.int j)) = true := by rw [decide_eq_false fun q => e (V.int.inj q)]; rfl
    rw [z]
    exact iteT (h1 e)
theorem iteEq {A B : Prop} {i j : Int} (h1 : i = j → A) (h2 : i ≠ j → B) : if decide (V.int i = V.int j) = true then A else B := by
  by_cases e : i = j
  · rw [e, decide_eq_true rfl]
    exact iteT (h1 e)
  · rw [decide_eq_false fun q => e (V.int.inj q)]
    exact iteF (h2 e)
theorem iteP {A B : Prop} {p : Prop} [Decidable p] (h1 : p → A) (h2 : ¬ p → B) : if decide p = true then A else B := by
  by_cases e : p
  · rw [decide_eq_true e]
    exact iteT (h1 e)
  · rw [decide_eq_false e]
    exact iteF (h2 e)
theorem iteB {A B : Prop} {b : Bool} (h1 : b = true → A) (h2 : b = false → B) : if b = true then A else B := by
  cases b with
  | true => exact iteT (h1 rfl)
  | false => exact iteF (h2 rfl)
theorem iteN {A B : Prop} {b : Bool} (h1 : b = false → A) (h2 : b = true → B) : if (!b) = true then A else B := by
  cases b with
  | true => exact iteF (h2 rfl)
  | false => exact iteT (h1 rfl)
theorem dec_int (i j : Int) : decide (V.int i = V.int j) = decide (i = j) := by
  rw [decide_eq_decide]
  exact ⟨V.int.inj, fun e => by rw [e]⟩
theorem okA_mem : ∀ {ds : List PyData} {d : PyData}, okA ds = true → d ∈ ds → okD d = true
  | x :: xs, d, h, m => by
    have h' : okD x = true ∧ okA xs = true := by simpa only [okA, Bool.and_eq_true] using h
    rcases List.mem_cons.mp m with rfl | m
    · exact h'.1
    · exact okA_mem h'.2 m
theorem depthAll_mem : ∀ {ds : List PyData} {d : PyData}, d ∈ ds → d.depth ≤ PyData.depthAll ds
  | x :: xs, d, m => by
    simp only [PyData.depthAll]
    rcases List.mem_cons.mp m with rfl | m
    · omega
    · have := depthAll_mem m
      omega
theorem weightAll_mem : ∀ {ds : List PyData} {d : PyData}, d ∈ ds → d.weight + 1 ≤ PyData.weightAll ds
  | x :: xs, d, m => by
    simp only [PyData.weightAll]
    rcases List.mem_cons.mp m with rfl | m
    · omega
    · have := weightAll_mem m
      omega
theorem Ok.inT {ds : List PyData} {d : PyData} (h : Ok (.tuple ds)) (m : d ∈ ds) : Ok d := by
  have z1 := h.dp
  have z2 := h.wt
  have z3 := h.ok
  simp only [PyData.depth] at z1
  simp only [PyData.weight] at z2
  simp only [okD] at z3
  have y1 := depthAll_mem m
  have y2 := weightAll_mem m
  exact ⟨okA_mem z3 m, by omega, by omega⟩
theorem Ok.inL {ds : List PyData} {d : PyData} (h : Ok (.list ds)) (m : d ∈ ds) : Ok d := by
  have z1 := h.dp
  have z2 := h.wt
  have z3 := h.ok
  simp only [PyData.depth] at z1
  simp only [PyData.weight] at z2
  simp only [okD] at z3
  have y1 := depthAll_mem m
  have y2 := weightAll_mem m
  exact ⟨okA_mem z3 m, by omega, by omega⟩
theorem weight_len : ∀ ds : List PyData, ds.length ≤ PyData.weightAll ds
  | [] => Nat.le_refl _
  | x :: xs => by
    have := weight_len xs
    simp only [PyData.weightAll, List.length_cons]
    omega
theorem Ok.strLen {x : Str} (h : Ok (.str x)) : x.length ≤ 27000 := by
  have := h.wt
  simp only [PyData.weight] at this
  exact this
theorem isTup (d : PyData) : isT "tuple" d = true ↔ ∃ ds, d = .tuple ds := by
  cases d <;> simp [isT, tyName]
theorem isStr (d : PyData) : isT "str" d = true ↔ ∃ x, d = .str x := by
  cases d <;> simp [isT, tyName]
theorem isLst (d : PyData) : isT "list" d = true ↔ ∃ ds, d = .list ds := by
  cases d <;> simp [isT, tyName]
theorem isIntD (d : PyData) : (isT "int" d && !isT "bool" d) = true ↔ ∃ i, d = .int i := by
  cases d <;> simp [isT, tyName]
end Sw
/-! Mathematics of names and common divisors. -/
namespace Sw
open PySem PySem.Spec PyProof.Rows L2

def low (c : Nat) : Bool := decide (97 ≤ c ∧ c ≤ 122)
theorem low_tab : ∀ c, c < 128 → (Unicode.isAlpha c && !(Unicode.isUpper c || Unicode.isTitle c)) = low c ∧ (low c = true → Unicode.isLower c = true) := by decide +kernel
theorem low_lt {c : Nat} (h : low c = true) : c < 128 := by
  have z := of_decide_eq_true h
  omega
/-- what is_name asks of a text's signs, both ways -/
theorem name_two (cs : List Nat) (h : cs ≠ []) : (cs.all (· < 128) && (cs.all Unicode.isAlpha && (cs.any Unicode.isLower && !cs.any fun c => Unicode.isUpper c || Unicode.isTitle c))) = cs.all low := by
  rw [Bool.eq_iff_iff]
  constructor
  · intro z
    simp only [Bool.and_eq_true, List.all_eq_true, decide_eq_true_eq, Bool.not_eq_true', List.any_eq_false] at z
    obtain ⟨z1, z2, z3, z4⟩ := z
    rw [List.all_eq_true]
    intro c hc
    have e := (low_tab c (z1 c hc)).1
    rw [← e, z2 c hc]
    simpa using z4 c hc
  · intro z
    rw [List.all_eq_true] at z
    have key : ∀ c ∈ cs, c < 128 ∧ Unicode.isAlpha c = true ∧ (Unicode.isUpper c || Unicode.isTitle c) = false ∧ Unicode.isLower c = true := fun c hc => by
      have l := low_lt (z c hc)
      have e := low_tab c l
      rw [z c hc] at e
      have e1 := e.1
      rw [Bool.and_eq_true, Bool.not_eq_true'] at e1
      exact ⟨l, e1.1, e1.2, e.2 rfl⟩
    simp only [Bool.and_eq_true, List.all_eq_true, decide_eq_true_eq, Bool.not_eq_true', List.any_eq_false, List.any_eq_true]
    obtain ⟨c, hc⟩ := List.exists_mem_of_ne_nil cs h
    exact ⟨fun c hc => (key c hc).1, fun c hc => (key c hc).2.1, ⟨c, hc, (key c hc).2.2.2⟩, fun c hc => by simpa using (key c hc).2.2.1⟩
/-- a NAME's text -/
def nameS (x : Str) : Bool := decide (1 ≤ x.length) && decide (x.length ≤ 12) && x.cps.toList.all low
theorem name_txt (x : Str) (h : 1 ≤ x.length) : (Txt.isascii x && (Txt.isalpha x && Txt.islower x)) = x.cps.toList.all low := by
  have hl : x.cps.toList ≠ [] := fun z => by
    have e : x.length = x.cps.toList.length := rfl
    rw [z] at e
    simp at e
    omega
  have e := name_two x.cps.toList hl
  rw [← e]
  unfold Txt.isascii Txt.isalpha Txt.islower
  have h2 : decide (x.length > 0) = true := decide_eq_true h
  rw [h2, Bool.true_and, ← Array.all_toList, ← Array.all_toList, ← Array.any_toList, ← Array.any_toList]
def az : Str := "abcdefghijklmnopqrstuvwxyz"
theorem az_mem (c : Nat) : decide (c ∈ az.cps.toList) = low c := by
  have h : az.cps.toList = (List.range 26).map (· + 97) := by decide +kernel
  rw [h]
  unfold low
  rw [decide_eq_decide]
  simp only [List.mem_map, List.mem_range]
  constructor
  · rintro ⟨i, hi, rfl⟩
    omega
  · intro z
    exact ⟨c - 97, by omega, by omega⟩

/-! ### the common divisor by rests -/
theorem gcd_step (a b : Nat) : Nat.gcd b (a % b) = Nat.gcd a b := by
  rw [Nat.gcd_comm a b, Nat.gcd_rec b a, Nat.gcd_comm]
/-- the size of the common divisor -/
def gI (n d : Int) : Int := ((Nat.gcd n.natAbs d.natAbs : Nat) : Int)
def sh (n d : Int) : Int := if gI n d > 1 then gI n d else 1
def redI (n d : Int) : Int × Int := if d < 0 then ((-n) / sh n d, (-d) / sh n d) else (n / sh n d, d / sh n d)
theorem sh_pos (n d : Int) : 0 < sh n d := by
  unfold sh
  split <;> omega
theorem sh_eq {n d : Int} (h : d ≠ 0) : sh n d = gI n d := by
  have : 0 < Nat.gcd n.natAbs d.natAbs := Nat.gcd_pos_of_pos_right _ (by omega)
  unfold sh gI
  split <;> omega
theorem sh_le {n d : Int} (h : d ≠ 0) : (sh n d).natAbs ≤ d.natAbs := by
  rw [sh_eq h]
  unfold gI
  rw [Int.natAbs_natCast]
  exact Nat.le_of_dvd (by omega) (Nat.gcd_dvd_right _ _)
/-- small positive ones, reduced -/
theorem redI_pos {n d : Int} (hn : 0 < n) (hd : 0 < d) : 1 ≤ (redI n d).1 ∧ (redI n d).1 ≤ n ∧ 1 ≤ (redI n d).2 ∧ (redI n d).2 ≤ d ∧ gI (redI n d).1 (redI n d).2 = 1 := by
  obtain ⟨a, rfl⟩ : ∃ a : Nat, n = (a : Int) := ⟨n.toNat, by omega⟩
  obtain ⟨c, rfl⟩ : ∃ c : Nat, d = (c : Int) := ⟨d.toNat, by omega⟩
  have ha : 0 < a := by omega
  have hc : 0 < c := by omega
  have hg : 0 < Nat.gcd a c := Nat.gcd_pos_of_pos_right _ hc
  have e : redI (a : Int) (c : Int) = (((a / Nat.gcd a c : Nat) : Int), ((c / Nat.gcd a c : Nat) : Int)) := by
    unfold redI
    rw [if_neg (by omega), sh_eq (by omega)]
    unfold gI
    rw [Int.natAbs_natCast, Int.natAbs_natCast, Int.natCast_ediv, Int.natCast_ediv]
  rw [e]
  have d1 : Nat.gcd a c ≤ a := Nat.le_of_dvd ha (Nat.gcd_dvd_left a c)
  have d2 : Nat.gcd a c ≤ c := Nat.le_of_dvd hc (Nat.gcd_dvd_right a c)
  have p1 : 0 < a / Nat.gcd a c := Nat.div_pos d1 hg
  have p2 : 0 < c / Nat.gcd a c := Nat.div_pos d2 hg
  have p3 : a / Nat.gcd a c ≤ a := Nat.div_le_self _ _
  have p4 : c / Nat.gcd a c ≤ c := Nat.div_le_self _ _
  have p5 : Nat.gcd (a / Nat.gcd a c) (c / Nat.gcd a c) = 1 := Nat.coprime_div_gcd_div_gcd hg
  refine ⟨by show (1 : Int) ≤ ((a / Nat.gcd a c : Nat) : Int); omega, by show ((a / Nat.gcd a c : Nat) : Int) ≤ _; omega, by show (1 : Int) ≤ ((c / Nat.gcd a c : Nat) : Int); omega, by show ((c / Nat.gcd a c : Nat) : Int) ≤ _; omega, ?_⟩
  unfold gI
  show ((Nat.gcd (((a / Nat.gcd a c : Nat) : Int)).natAbs (((c / Nat.gcd a c : Nat) : Int)).natAbs : Nat) : Int) = 1
  rw [Int.natAbs_natCast, Int.natAbs_natCast, p5]
  rfl

/-! ### the bag of draws -/
/-- the bag at b: what is left of a great cell, the stirred number, how many cells were taken, the cells -/
def BagAt (H : Hp) (b : Addr) : Prop := ∃ (x y z : Int) (l : Addr) (cs : List Int), H b = some (.lst [.int x, .int y, .int z, .ref l]) ∧ H l = some (.lst (cs.map V.int)) ∧ l ≠ b ∧ 0 ≤ x ∧ 0 ≤ y ∧ y < 2147483647 ∧ 0 ≤ z ∧ cs.length ≤ 63 ∧ ∀ c ∈ cs, 0 ≤ c
/-- its cells lie at l -/
def BagL (H : Hp) (b l : Addr) : Prop := ∃ x y z : Int, H b = some (.lst [.int x, .int y, .int z, .ref l])
theorem BagL.eq {H : Hp} {b l k : Addr} {x y z : Int} (h : BagL H b l) (e : H b = some (.lst [.int x, .int y, .int z, .ref k])) : l = k := by
  obtain ⟨x', y', z', e'⟩ := h
  rw [e] at e'
  cases e'
  rfl
/-- the bag alone has changed -/
structure Rel (b : Addr) (H H' : Hp) : Prop where
  keep : ∀ a o, a ≠ b → H a = some o → H' a = some o
  cell : ∀ l, BagL H b l → BagL H' b l
  bag : BagAt H' b
theorem Rel.refl {b : Addr} {H : Hp} (h : BagAt H b) : Rel b H H := ⟨fun _ _ _ e => e, fun _ h => h, h⟩
theorem Rel.trans {b : Addr} {H H1 H2 : Hp} (r : Rel b H H1) (s : Rel b H1 H2) : Rel b H H2 := ⟨fun a o n e => s.keep a o n (r.keep a o n e), fun l h => s.cell l (r.cell l h), s.bag⟩
theorem BagAt.same {b : Addr} {H H' : Hp} (h : BagAt H b) (s : Same H H') : BagAt H' b := by
  obtain ⟨x, y, z, l, cs, h1, h2, r⟩ := h
  exact ⟨x, y, z, l, cs, s _ _ h1, s _ _ h2, r⟩
theorem BagL.same {b l : Addr} {H H' : Hp} (h : BagL H b l) (s : Same H H') : BagL H' b l := by
  obtain ⟨x, y, z, e⟩ := h
  exact ⟨x, y, z, s _ _ e⟩
theorem Rel.same {b : Addr} {H H1 H2 : Hp} (r : Rel b H H1) (s : Same H1 H2) : Rel b H H2 := ⟨fun a o n e => s a o (r.keep a o n e), fun l h => (r.cell l h).same s, r.bag.same s⟩
theorem Rel.of_same {b : Addr} {H H1 : Hp} (h : BagAt H b) (s : Same H H1) : Rel b H H1 := ⟨fun a o n e => s a o e, fun l h => h.same s, h.same s⟩
theorem Rel.fut {b : Addr} {mu : Addr → Prop} {H H' : Hp} (r : Rel b H H') (h : mu b) (hb : BagAt H b) : Fut mu H H' := fun a o e z => r.keep a o (fun q => by
  rcases z with z | z | z
  · exact z (by rw [q]; exact h)
  · obtain ⟨x, y, z', l, cs, h1, _⟩ := hb
    obtain ⟨xs, rfl⟩ := z
    rw [q, h1] at e
    cases e
  · obtain ⟨x, y, z', l, cs, h1, _⟩ := hb
    obtain ⟨ob, u, rfl⟩ := z
    rw [q, h1] at e
    cases e) e
theorem Rel.some {b : Addr} {H H' : Hp} (r : Rel b H H') {a : Addr} (h : H' a = Option.none) : H a = Option.none := by
  by_cases e : a = b
  · obtain ⟨x, y, z', l, cs, h1, _⟩ := r.bag
    rw [e, h1] at h
    cases h
  · cases q : H a with
    | none => rfl
    | some o =>
      rw [r.keep a o e q] at h
      cases h
theorem same_upd {H : Hp} {p : Addr} {o : HO} (h : H p = Option.none) : Same H (upd H p o) := fun b x e => by
  rw [upd_ne (ne_of_none e h)]
  exact e
theorem cut_mem {xs : List V} {lo hi : Option Int} {v : V} (h : v ∈ cutV xs lo hi) : v ∈ xs := by
  unfold cutV at h
  exact List.mem_of_mem_drop (List.mem_of_mem_take h)
theorem cut_len (xs : List V) (lo hi : Option Int) : (cutV xs lo hi).length ≤ xs.length := by
  unfold cutV
  rw [List.length_take, List.length_drop]
  omega
theorem head_cell {cs : List Int} (h : ∀ c ∈ cs, 0 ≤ c) (lo hi : Option Int) : ∃ c : Int, 0 ≤ c ∧ (cutV (cs.map V.int) lo hi ++ [V.int 0])[0]? = some (.int c) := by
  cases e : cutV (cs.map V.int) lo hi with
  | nil => exact ⟨0, Int.le_refl _, rfl⟩
  | cons v r =>
    have m : v ∈ cutV (cs.map V.int) lo hi := by
      rw [e]
      exact List.mem_cons_self
    obtain ⟨c, hc, rfl⟩ := List.mem_map.mp (cut_mem m)
    exact ⟨c, h c hc, rfl⟩
/-- a drawn integer from 0 to many less 1 -/
def spTake : Sp := fun vs H Q _ => ∃ (b : Addr) (many : Int), vs = [.ref b, .int many] ∧ BagAt H b ∧ 0 < many ∧ many < 1073741824 ∧ ∀ v H', 0 ≤ v → v < many → Rel b H H' → Q (.int v) H'
end Sw
/-! What an expression that draws from the bag gives as a datum (Ge exactly, Gv by a word of it). -/
namespace Sw
open PySem PySem.Spec PyProof.Rows L2

def tLstN (t : TA) : TE := fun σ H Q => t σ H fun xs H1 => xs.length ≤ sizeLine ∧ ∀ p, H1 p = none → p ≠ sysModules → Q (.ref p) (upd H1 p (.lst xs))
/-- a list display: its place is new, and not that of sys.modules -/
theorem pe_lstN {X : Cx} {es : List Expr} {t : TA} {pos : Pos} (h : PA X es t) : PE X (.List es pos) (tLstN t) :=
  ⟨fun pins s σ H Q I hq => wpAny_List_spliced (thn (h.run pos pins s σ H _ I hq) fun us s1 g => by
    obtain ⟨xs, H1, I1, r, z, q⟩ := g
    exact ⟨by rw [← r.length]; exact z, .ref s1.heap.objs.size, upd H1 s1.heap.objs.size (.lst xs), I1.laid (t' := s1.toks) (fun b u e => Heap.get?_push_of_some _ e) (Nat.le_refl _) ⟨z, us, 0, r, Heap.get?_push_size _ rfl⟩, rfl,
      q _ (I1.hok.fresh (Nat.le_refl _)) (Nat.ne_of_gt I1.big)⟩)⟩
def tDNewN : TE := fun _ H Q => ∀ p, H p = none → p ≠ sysModules → Q (.ref p) (upd H p (.dK []))
theorem pe_dnewN {X : Cx} {pos : Pos} : PE X (.Dict [] [] pos) tDNewN := ⟨fun pins s σ H Q I h =>
  wpAny_Dict_empty ⟨.ref s.heap.objs.size, _, I.laid (a := s.heap.objs.size) (o := .dK []) (t' := s.toks) (fun _ _ q => Heap.get?_push_of_some _ q) (Nat.le_refl _) (dk_empty s.heap I.big), rfl, h _ (I.hok.fresh (Nat.le_refl _)) (Nat.ne_of_gt I.big)⟩⟩
/-- what may change is tracked (or sys.modules) -/
def MuOk (mu : Addr → Prop) (H : Hp) : Prop := ∀ a, mu a → H a ≠ none ∨ a = sysModules
theorem MuOk.rel {mu : Addr → Prop} {b : Addr} {H H' : Hp} (m : MuOk mu H) (r : Rel b H H') : MuOk mu H' := fun a h => by
  rcases m a h with z | z
  · refine .inl fun e => z (r.some e)
  · exact .inr z
theorem MuOk.same {mu : Addr → Prop} {H H' : Hp} (m : MuOk mu H) (s : Same H H') : MuOk mu H' := fun a h => by
  rcases m a h with z | z
  · exact .inl fun e => z (s.free e)
  · exact .inr z
theorem MuOk.new {mu : Addr → Prop} {H : Hp} (m : MuOk mu H) {p : Addr} (n : H p = none) (s : p ≠ sysModules) : ¬ mu p := fun h => (m p h).elim (fun z => z n) s
theorem MuOk.bag {H : Hp} {b : Addr} (h : BagAt H b) : MuOk (fun a => a = b ∨ a = sysModules) H := fun a z => by
  rcases z with rfl | z
  · obtain ⟨x, y, z, l, cs, h1, _⟩ := h
    exact .inl (by rw [h1]; exact fun z => nomatch z)
  · exact .inr z

/-- a list may be changed -/
def Own (H : Hp) (v : V) (d : PyData) : Prop := (∀ ds, d = .list ds → ∃ a xs, v = .ref a ∧ H a = some (.lst xs)) ∧ (d = .dict [] → ∃ a, v = .ref a ∧ H a = some (.dK []))
theorem Own.fut {K : PySem.W.Frag} {mu : Addr → Prop} {H H' : Hp} {v : V} {d : PyData} (o : Own H v d) (h : Dt K mu H v d) (f : Fut mu H H') : Own H' v d := ⟨fun ds e => by
  subst e
  obtain ⟨a, xs, rfl, e⟩ := o.1 ds rfl
  obtain ⟨a', _, e2, n, _, _⟩ := h.lstAt
  cases e2
  exact ⟨a, xs, rfl, f a _ e (.inl n)⟩, fun e => by
  subst e
  obtain ⟨a, rfl, e⟩ := o.2 rfl
  cases h with
  | dct n _ _ => exact ⟨a, rfl, f a _ e (.inl n)⟩⟩
theorem own_not {H : Hp} {v : V} {d : PyData} (h : ∀ ds, d ≠ .list ds) (h2 : d ≠ .dict [] := by intro z; cases z) : Own H v d := ⟨fun ds e => absurd e (h ds), fun e => absurd e h2⟩
/-- .. all of them -/
def OwnA (H : Hp) (vs : List V) (ds : List PyData) : Prop := ∀ (i : Nat) (v : V) (d : PyData), vs[i]? = some v → ds[i]? = some d → Own H v d
theorem OwnA.nil {H : Hp} {ds : List PyData} : OwnA H [] ds := fun i v d e => by simp at e
theorem OwnA.cons {H : Hp} {v : V} {vs : List V} {d : PyData} {ds : List PyData} (h : Own H v d) (t : OwnA H vs ds) : OwnA H (v :: vs) (d :: ds) := fun i x y e1 e2 => by
  cases i with
  | zero =>
    cases e1
    cases e2
    exact h
  | succ i => exact t i x y (by simpa using e1) (by simpa using e2)
section
variable (K : PySem.W.Frag) (b : Addr) (mu : Addr → Prop) (σ : L2.St) (H0 : Hp)
/-- the expression gives the datum d -/
def Ge (te : TE) (d : PyData) : Prop := ∀ H, Rel b H0 H → MuOk mu H → ∀ Q : VK, (∀ v H', Rel b H H' → Dt K mu H' v d → Q v H') → te σ H Q
/-- .. a datum of which D holds -/
def Gv (te : TE) (D : PyData → Prop) : Prop := ∀ H, Rel b H0 H → MuOk mu H → ∀ Q : VK, (∀ v H' d, D d → Rel b H H' → Dt K mu H' v d → Own H' v d → Q v H') → te σ H Q
def GeA (ta : TA) (ds : List PyData) : Prop := ∀ H, Rel b H0 H → MuOk mu H → ∀ Q : List V → Hp → Prop, (∀ vs H', Rel b H H' → DtA K mu H' vs ds → Q vs H') → ta σ H Q
def GvA (ta : TA) (D : PyData → Prop) (n : Nat) : Prop := ∀ H, Rel b H0 H → MuOk mu H → ∀ Q : List V → Hp → Prop, (∀ vs H' ds, ds.length = n → (∀ d ∈ ds, D d) → Rel b H H' → DtA K mu H' vs ds → OwnA H' vs ds → Q vs H') → ta σ H Q
end
section
variable {K : PySem.W.Frag} {b : Addr} {mu : Addr → Prop} {σ : L2.St} {H0 : Hp} {te : TE} {ta tr : TA} {d : PyData} {ds : List PyData} {D : PyData → Prop} {n : Nat}
theorem Ge.gv (h : Ge K b mu σ H0 te d) (hd : D d) (hn : ∀ ds, d ≠ .list ds := by intro _ z; cases z) (hn2 : d ≠ .dict [] := by intro z; cases z) : Gv K b mu σ H0 te D := fun H hb m Q q => h H hb m Q fun v H' r e => q v H' d hd r e (own_not hn hn2)
theorem gv_lst (hm : mu b) (h : GeA K b mu σ H0 ta ds) (hl : ds.length ≤ 1000) (hd : D (.list ds)) : Gv K b mu σ H0 (tLstN ta) D := fun H hb m Q q =>
  h H hb m _ fun vs H1 r e => ⟨Nat.le_of_lt (small1000 (by rw [e.length]; exact hl)), fun p np ns => q _ _ _ hd (r.same (same_upd np)) (.lst ((m.rel r).new np ns) (.inl upd_same) (e.fut (.of_same (same_upd np)))) ⟨fun _ _ => ⟨p, vs, rfl, upd_same⟩, fun z => nomatch z⟩⟩
theorem ge_int {i : Int} : Ge K b mu σ H0 (tC (.int i)) (.int i) := fun H hb _ _ q => q _ H (.refl hb.bag) (.int i)
theorem ge_bl {i : Bool} : Ge K b mu σ H0 (tC (.bl i)) (.bool i) := fun H hb _ _ q => q _ H (.refl hb.bag) (.bl i)
theorem ge_str {i : Str} : Ge K b mu σ H0 (tC (.str i)) (.str i) := fun H hb _ _ q => q _ H (.refl hb.bag) (.str i)
theorem ge_non : Ge K b mu σ H0 (tC .non) .none := fun H hb _ _ q => q _ H (.refl hb.bag) .non
theorem ge_neg {i : Int} : Ge K b mu σ H0 (tUn (rU fun i => .int (-i)) (tC (.int i))) (.int (-i)) := fun H hb _ _ q => ⟨i, rfl, q _ H (.refl hb.bag) (.int _)⟩
theorem geA_nil : GeA K b mu σ H0 tNil [] := fun H hb _ _ q => q _ H (.refl hb.bag) .nil
theorem geA_cons (hm : mu b) (h : Ge K b mu σ H0 te d) (t : GeA K b mu σ H0 tr ds) : GeA K b mu σ H0 (tCons te tr) (d :: ds) := fun H hb m _ q =>
  h H hb m _ fun v H1 r1 e1 => t H1 (hb.trans r1) (m.rel r1) _ fun vs H2 r2 e2 => q _ H2 (r1.trans r2) (.cons (e1.fut (r2.fut hm r1.bag)) e2)
theorem gvA_nil : GvA K b mu σ H0 tNil D 0 := fun H hb _ _ q => q _ H [] rfl (fun _ z => nomatch z) (.refl hb.bag) .nil .nil
theorem gvA_cons (hm : mu b) (h : Gv K b mu σ H0 te D) (t : GvA K b mu σ H0 tr D n) : GvA K b mu σ H0 (tCons te tr) D (n + 1) := fun H hb m _ q =>
  h H hb m _ fun v H1 d hd r1 e1 o1 => t H1 (hb.trans r1) (m.rel r1) _ fun vs H2 ds hl hds r2 e2 o2 => q _ H2 (d :: ds) (by rw [List.length_cons, hl]) (fun x z => by
    rcases List.mem_cons.mp z with rfl | z
    · exact hd
    · exact hds x z) (r1.trans r2) (.cons (e1.fut (r2.fut hm r1.bag)) e2) (.cons (o1.fut e1 (r2.fut hm r1.bag)) o2)
theorem ge_tup (hm : mu b) (h : GeA K b mu σ H0 ta ds) (hl : ds.length ≤ 1000) : Ge K b mu σ H0 (tTup ta) (.tuple ds) := fun H hb m _ q =>
  h H hb m _ fun vs H1 r e => ⟨Nat.le_of_lt (small1000 (by rw [e.length]; exact hl)), fun p np => q _ _ (r.same (same_upd np)) (.tup (.inl upd_same) (e.fut (.of_same (same_upd np))))⟩
theorem ge_lst (hm : mu b) (h : GeA K b mu σ H0 ta ds) (hl : ds.length ≤ 1000) : Ge K b mu σ H0 (tLstN ta) (.list ds) := fun H hb m _ q =>
  h H hb m _ fun vs H1 r e => ⟨Nat.le_of_lt (small1000 (by rw [e.length]; exact hl)), fun p np ns => q _ _ (r.same (same_upd np)) (.lst ((m.rel r).new np ns) (.inl upd_same) (e.fut (.of_same (same_upd np))))⟩
end
theorem gv_dict {K : PySem.W.Frag} {b : Addr} {mu : Addr → Prop} {σ : L2.St} {H0 : Hp} {D : PyData → Prop} (hd : D (.dict [])) : Gv K b mu σ H0 tDNewN D := fun H hb m Q q =>
  fun p np ns => q _ _ _ hd (Rel.of_same hb.bag (same_upd np)) (.dct (m.new np ns) (.inl upd_same) .nil) ⟨(fun _ z => nomatch z), fun _ => ⟨p, rfl, upd_same⟩⟩
/-- a menu of drawn things: t is a list, one of its items comes back -/
def spSome : Sp := fun vs H Q _ => ∃ (b t : Addr) (xs : List V), vs = [.ref b, .ref t] ∧ BagAt H b ∧ t ≠ b ∧ H t = some (.lst xs) ∧ 0 < xs.length ∧ xs.length ≤ 1000 ∧ ∀ (i : Nat) v H', xs[i]? = some v → Rel b H H' → Q v H'
/-- a menu is asked -/
theorem gv_some {K : PySem.W.Frag} {b : Addr} {mu : Addr → Prop} {σ : L2.St} {H0 : Hp} {ta : TA} {D : PyData → Prop} {n i : Nat} (hm : mu b) (hσ : σ[i]? = some (some (.ref b))) (h : GvA K b mu σ H0 ta D n) (h0 : 0 < n) (h1 : n ≤ 1000) :
    Gv K b mu σ H0 (tCall spSome [] E0 (tCons (tVar i) (tCons (tLst ta) tNil))) D := fun H hb m Q q => by
  refine ⟨_, hσ, h H hb m _ fun vs H1 ds hl hD r e oo => ?_⟩
  have hv : vs.length = n := e.length.trans hl
  refine ⟨Nat.le_of_lt (small1000 (by omega)), fun p np => ?_⟩
  have nb : p ≠ b := fun z => by
    obtain ⟨x, y, z', l, cs, h1, _⟩ := r.bag
    rw [z, h1] at np
    cases np
  refine ⟨b, p, vs, rfl, r.bag.same (same_upd np), nb, upd_same, by omega, by omega, fun j v H2 hj r2 => ?_⟩
  obtain ⟨d, hd, ed⟩ := e.get hj
  have o1 := (oo j v d hj hd).fut ed (.of_same (same_upd (o := .lst vs) np))
  have r3 := r.same (same_upd (o := .lst vs) np)
  exact q v H2 d (hD d (List.mem_of_getElem? hd)) (r3.trans r2) ((ed.fut (.of_same (same_upd np))).fut (r2.fut hm r3.bag)) (o1.fut (ed.fut (.of_same (same_upd np))) (r2.fut hm r3.bag))
theorem gv_var {K : PySem.W.Frag} {b : Addr} {mu : Addr → Prop} {σ : L2.St} {H0 : Hp} {i : Nat} {v : V} {d : PyData} {D : PyData → Prop} (hm : mu b) (hb : BagAt H0 b) (hσ : σ[i]? = some (some v)) (h : Dt K mu H0 v d) (o : Own H0 v d) (hd : D d) : Gv K b mu σ H0 (tVar i) D := fun H r m Q q =>
  ⟨v, hσ, q v H d hd (.refl r.bag) (h.fut (r.fut hm hb)) (o.fut h (r.fut hm hb))⟩
/-- a menu that lies ready -/
theorem gv_someV {K : PySem.W.Frag} {b : Addr} {mu : Addr → Prop} {σ : L2.St} {H0 : Hp} {D : PyData → Prop} {i j : Nat} {t : Addr} {xs : List V} {ds : List PyData} (hm : mu b) (hb : BagAt H0 b) (hσ : σ[i]? = some (some (.ref b))) (hτ : σ[j]? = some (some (.ref t))) (ht : H0 t = some (.lst xs)) (nt : t ≠ b)
    (e : DtA K mu H0 xs ds) (o : OwnA H0 xs ds) (hD : ∀ d ∈ ds, D d) (h0 : 0 < ds.length) (h1 : ds.length ≤ 1000) : Gv K b mu σ H0 (tCall spSome [] E0 (tCons (tVar i) (tCons (tVar j) tNil))) D := fun H r m Q q => by
  have hv : xs.length = ds.length := e.length
  refine ⟨_, hσ, _, hτ, b, t, xs, rfl, r.bag, nt, r.keep _ _ nt ht, by omega, by omega, fun k v H2 hk r2 => ?_⟩
  obtain ⟨d, hd, ed⟩ := e.get hk
  have f := (r.trans r2).fut hm hb
  exact q v H2 d (hD d (List.mem_of_getElem? hd)) r2 (ed.fut f) ((o k v d hk hd).fut ed f)
/-- a def over the bag (and further arguments) gives a datum of which D holds -/
def spG (K : PySem.W.Frag) (as : List V) (D : PyData → Prop) : Sp := fun vs H Q _ => ∃ (b : Addr) (mu : Addr → Prop), vs = .ref b :: as ∧ mu b ∧ BagAt H b ∧ MuOk mu H ∧ ∀ v H' d, D d → Rel b H H' → Dt K mu H' v d → Own H' v d → Q v H'
/-- a drawn FRACTION above 0 -/
def NumP (n m : Int) : Prop := 1 ≤ n ∧ n ≤ 1000000000000 ∧ 1 ≤ m ∧ m ≤ 1000000000000 ∧ gI n m = 1
def NumD (d : PyData) : Prop := ∃ n m, d = .tuple [.int n, .int m] ∧ NumP n m
def spNum (K : PySem.W.Frag) : Sp := fun vs H Q E => ∃ most : Int, 0 < most ∧ most ≤ 100000000 ∧ spG K [.int most] NumD vs H Q E
theorem ge_num {K : PySem.W.Frag} {b : Addr} {mu : Addr → Prop} {σ : L2.St} {H0 : Hp} {i : Nat} {n : Int} (hm : mu b) (hσ : σ[i]? = some (some (.ref b))) (h0 : 0 < n) (h1 : n ≤ 100000000) :
    Gv K b mu σ H0 (tCall (spNum K) [] E0 (tCons (tVar i) (tCons (tC (.int n)) tNil))) NumD := fun H hb m Q q =>
  ⟨_, hσ, n, h0, h1, b, mu, rfl, hm, hb.bag, m, q⟩
theorem numD {n m : Int} (h : NumP n m) : NumD (.tuple [.int n, .int m]) := ⟨n, m, rfl, h⟩
theorem int_pow {n : Int} (h1 : 1 ≤ n) (h2 : n ≤ 1000000000000) : n.natAbs < 10 ^ 500 := by
  have e : (1000000000000 : Nat) < 10 ^ 500 := by decide +kernel
  omega
theorem NumD.not {H : Hp} {v : V} {d : PyData} (h : NumD d) : Own H v d := by
  obtain ⟨n, m, rfl, _⟩ := h
  exact own_not fun _ z => nomatch z
theorem numD_ok {d : PyData} (h : NumD d) : Ok d ∧ d.hasDict = false ∧ d.weight ≤ 202 ∧ d.depth = 1 := by
  obtain ⟨n, m, rfl, h1, h2, h3, h4, _⟩ := h
  have w : ∀ i : Int, 1 ≤ i → i ≤ 1000000000000 → (PyData.int i).weight ≤ 100 := fun i a b => by
    have hz : i.natAbs ≠ 0 := by omega
    have e : i.natAbs.log2 < 40 := (Nat.log2_lt hz).mpr (by omega)
    simp only [PyData.weight]
    split <;> omega
  have w1 := w n h1 h2
  have w2 := w m h3 h4
  have e1 : (PyData.tuple [.int n, .int m]).weight ≤ 202 := by
    simp only [PyData.weight, PyData.weightAll] at w1 w2 ⊢
    omega
  have e2 : (PyData.tuple [.int n, .int m]).depth = 1 := by
    simp [PyData.depth, PyData.depthAll]
  refine ⟨⟨?_, by rw [e2]; decide, by omega⟩, by simp [PyData.hasDict, PyData.hasDictAll], e1, e2⟩
  simp only [okD, okA, Bool.and_true, Bool.and_eq_true, decide_eq_true_eq]
  exact ⟨int_pow h1 h2, int_pow h3 h4⟩
end Sw
/-! Own exceptions as values: made by their own __init__, fields read, classes asked. -/
namespace Sw
open PySem PySem.Spec PyProof.Rows L2

/-- C(e, ..), an error as a value -/
def tMkV (C : Addr) (sp : Sp) (ta : TA) : TE := fun σ H Q => ta σ H fun vs H1 => vs.length ≤ 1000 ∧ ∀ a, H1 a = none → sp (.ref a :: vs) (upd H1 a (exo a C none)) (fun v H2 => v = .non ∧ Q (.ref a) H2) E0
theorem pe_exV {X : Cx} {x : Str} {C fI : Addr} {k : Nat} {fd : FuncData} {ps : List Str} {sp : Sp} {e : Expr} {es : List Expr} {ta : TA} {p pos : Pos} (T : OexC X.K C) (iC : PySem.W.findIn X.K (.ref C) "__init__" = some (some (.ref fI))) (tI : PySem.W.typeIn X.K (.ref fI) = some (.type "function"))
    (F1 : FnG X.prog X.w X.K X.mg X.base k fI fd ps sp) (g : Gd X.A) (hr : Room (k + 1) X.A) (hb : Binds X.K fd ps []) (hg : Gl X x) (hm : X.mg x = some (.ref C)) (ha : PA X (e :: es) ta)
    (hdb : (x == ("__debug__" : Str)) = false := by decide) (he : starEach (e :: es) X.env = (false, eval e X.env) :: starEach es X.env := by rfl) (hpl : (backTo pos (starEach es X.env)).any (·.1) = false := by rfl) :
    PE X (.Call (.Name x p) (e :: es) [] pos) (tMkV C sp ta) := by
  refine ⟨fun pins s σ H Q I h => ?_⟩
  obtain ⟨nm, q, N, bs, bm, sn, sub, ab, col, dd, k0, k1, k2, k3, k5, hC, hbm⟩ := T.cls
  refine wpAny_Call_Name_kw (ld_glob I hg hm ?_ hdb)
  refine PySem.W.callWith_K (h₀ := X.base) I.ok.mod.kin T.kC (thn (ha.run pos pins s σ H _ I h) fun us s1 ⟨vs, H1, I1, r1, hz, q1⟩ => ⟨I1.kIn, ?_⟩) he hpl
  show wpAny _ _ (call (.ref C) us) _ _ _
  obtain ⟨hp, g1, dr, tk, os⟩ := s1
  have hsz : hp.objs.size ≤ hp.objs.size + 1 := Nat.le_succ _
  have hn : H1 (hp.objs.size + 1) = none := I1.hok.fresh hsz
  have hq := q1 (hp.objs.size + 1) hn
  have kk : ∀ b o, hp.get? b = some o → ((hp.push (PySem.W.kdv_tup us)).push (PySem.HandSPX.excO C hp.objs.size)).get? b = some o := fun b o e => Heap.get?_push_of_some _ (Heap.get?_push_of_some _ e)
  have hget : ((hp.push (PySem.W.kdv_tup us)).push (PySem.HandSPX.excO C hp.objs.size)).get? (hp.objs.size + 1) = some (PySem.HandSPX.excO C hp.objs.size) := by heap_get
  have I2 : Inv X pins σ (upd H1 (hp.objs.size + 1) (exo (hp.objs.size + 1) C none)) ⟨(hp.push (PySem.W.kdv_tup us)).push (PySem.HandSPX.excO C hp.objs.size), g1, dr, tk, os⟩ :=
    I1.laid (t' := tk) (a := hp.objs.size + 1) (o := exo (hp.objs.size + 1) C none) (h' := (hp.push (PySem.W.kdv_tup us)).push (PySem.HandSPX.excO C hp.objs.size)) kk hsz (exo_ok hget)
  have r2 : Vals (V.ref (hp.objs.size + 1) :: vs) (Value.ref (hp.objs.size + 1) :: us) := .cons rfl r1
  have hl : (Value.ref (hp.objs.size + 1) :: us).length = ps.length := r2.length.symm.trans (F1.len _ _ _ _ hq)
  have hus : us.length ≤ sizeLine := by
    rw [← Paired.length r1, sizeLine_eq]
    omega
  have hbb := hb ⟨(hp.push (PySem.W.kdv_tup us)).push (PySem.HandSPX.excO C hp.objs.size), g1, dr, tk, os⟩ (Value.ref (hp.objs.size + 1) :: us) I2.kIn (by simpa using hl)
  rw [List.append_nil] at hbb
  refine wpAny_call (PySem.HandSPX.call_own F.excBase_ValueError (fun Y => PySem.HandSPX.refsVE_contains Y bm hbm) (I1.kIn _ _ hC) (PySem.W.looks_findIn I1.kIn iC) (fun self => PySem.W.bind_fn I1.kIn self tI) hus
    (codeAny_mono (F1.go (Gd.make g C us []) (hr.make C us []) (I2.env0.make C us []) hbb r2 hq) fun r s' hq' => ?_))
  match r, hq' with
  | .ok (.ret u), hq' =>
    obtain ⟨v, H2, I3, rv, ev, q2⟩ := I2.after hq'
    subst ev
    exact ⟨rv, .ref (hp.objs.size + 1), H2, I3, rfl, q2⟩
/-- C(), C without an own __init__ -/
def tMk0 (C : Addr) : TE := fun σ H Q => ∀ a, H a = none → Q (.ref a) (upd H a (exo a C none))
theorem pe_ex0 {X : Cx} {C : Addr} {bmB : List Value} {B newId initId : String} {x : Str} {p pos : Pos} (F : ExcBaseFacts B newId initId bmB) (q : PySem.W.excIn X.K C bmB newId = true) (gC : X.mg x = some (.ref C)) (kC : PySem.W.keepIn X.K (.ref C) = true) (hg : Gl X x)
    (hdb : (x == ("__debug__" : Str)) = false := by decide) :
    PE X (.Call (.Name x p) [] [] pos) (tMk0 C) := by
  refine ⟨fun pins s σ H Q I h => ?_⟩
  refine wpAny_Call_Name_kw (ld_glob I hg gC (PySem.W.callWith_K0 I.kIn kC ?_) hdb)
  obtain ⟨bm, N, nm, qn, bs, hdct, sn, sub, ab, col, dd, k0, k1, k2, k3, k5, mN, hC, hN, hni, T⟩ := exc_obj I.kIn q
  refine wpAny_call_exc_subT F T hC hN hni (fun h' a hm => ?_) (by show 0 ≤ sizeLine; rw [sizeLine_eq]; omega)
  have hn : H a = none := I.hok.gone hm.new
  obtain ⟨t, ht, _, _⟩ := hm.there
  exact ⟨.ref a, upd H a (exo a C none), I.laidN hm.keeps hm.new hn (exo_ok ht), rfl, h a hn⟩
/-- e.f, e an own error whose dict is known -/
def tXv (K : PySem.W.Frag) (f : Str) (te : TE) : TE := fun σ H Q => te σ H fun x H1 => ∃ (a C dx : Addr) (fs : List (Str × V)) (v : V), x = .ref a ∧ XfC K C ∧ PySem.W.findIn K (.ref C) f = some none ∧ H1 a = some (exo a C (some dx)) ∧ H1 dx = some (exd dx fs) ∧ fs.lookup f = some v ∧ Q v H1
theorem pe_xv {X : Cx} {e : Expr} {te : TE} {pos : Pos} {n : Str} (he : PE X e te) (hb : attributeBase e n X.env (eval e X.env) = eval e X.env := by rfl) :
    PE X (.Attribute e n pos) (tXv X.K n te) := by
  refine ⟨fun pins s σ H Q I h => ?_⟩
  refine attr_of hb (thn (he.run pins s σ H _ I h) fun u s1 hh => ?_)
  obtain ⟨x, H1, I1, rx, a, C, dx, fs, v, rfl, T, hno, ea, ed, l, q⟩ := hh
  obtain rfl : u = Value.ref a := rx
  obtain ⟨t1, ho⟩ := exo_at I1.hok ea
  obtain ⟨mA, hns, hr⟩ := exd_at I1.hok ed
  obtain ⟨od, hod, hl⟩ := lookIn_ns hns
  obtain ⟨u, hu, ru⟩ := RelO.some_of (v := v) (o := mA n) (by rw [← l]; exact hr n)
  have J : PySem.W.InstAt s1.heap a { cls := .ref C, dict := some dx, data := .fields #[.ref t1, .none, .none, .none, .bool false, .none] } C (some od) := ⟨ho, rfl, rfl, hod⟩
  exact HandSPX.exc_get I1.kIn J T.ga T.gg T.exC (PySem.W.findObj_own T.hdC hno rfl (by rw [hl, hu])) (handed_of ru) ⟨v, H1, I1.tok _, ru, q⟩
/-- isinstance(e, c), e an own error -/
def rIsX (K : PySem.W.Frag) : List V → Hp → VK → Prop := fun xs H Q => ∃ (a D : Addr) (dx : Option Addr) (c : V) (cv : Value) (b : Bool), xs = [.ref a, c] ∧ ExcC K D ∧ H a = some (exo a D dx) ∧ (∀ d, dx = some d → ∃ fs, H d = some (exd d fs)) ∧ (∀ u, RelV c u → u = cv) ∧ PySem.W.kitOne K (.ref D) cv = some b ∧ Q (.bl b) H
theorem call_isX {X : Cx} : CallR X (.builtin "isinstance") (rIsX X.K) := by
  intro pins s σ H xs us Q I r h
  obtain ⟨a, D, dx, c, cv, b, rfl, C, ea, hd, hcv, e, q⟩ := h
  cases r with
  | cons rx rr =>
    cases rr with
    | cons rt rr =>
      cases rr
      cases rx
      have ec := hcv _ rt
      subst ec
      obtain ⟨t1, ho⟩ := exo_at I.hok ea
      have hcl : (PySem.W.clsIn X.K D).isSome = true := by
        obtain ⟨cd, hc, _⟩ := PySem.W.any_some C.hd
        rw [hc]
        rfl
      have J : ∃ od, PySem.W.InstAt s.heap a { cls := .ref D, dict := dx, data := .fields #[.ref t1, .none, .none, .none, .bool false, .none] } D od := by
        cases dx with
        | none => exact ⟨none, ho, rfl, rfl, trivial⟩
        | some d =>
          obtain ⟨fs, ed⟩ := hd d rfl
          obtain ⟨mA, hns, _⟩ := exd_at I.hok ed
          obtain ⟨o, es, ep, e1, _⟩ := hns
          exact ⟨some o, ho, rfl, rfl, e1⟩
      obtain ⟨od, J⟩ := J
      exact PySem.W.kia_one (PySem.W.kitx_exc hcl C.hg C.hk C.hs C.ha C.hn C.ht C.hm) I.kIn J e (fun z => nomatch z) fun tk => ⟨.bl b, H, I.kept (t' := tk) fun _ _ z => z, rfl, q⟩
/-- __init__(self, y): self.f = y -/
def spInit1 (K : PySem.W.Frag) (C : Addr) (f : Str) : Sp := fun vs H Q _ => ∃ (a : Addr) (y : V), vs = [.ref a, y] ∧ H a = some (exo a C none) ∧ ∀ d, H d = none → d ≠ a → Q .non (upd (upd H d (exd d [(f, y)])) a (exo a C (some d)))
def spInit2 (K : PySem.W.Frag) (C : Addr) (f g : Str) : Sp := fun vs H Q _ => ∃ (a : Addr) (y z : V), vs = [.ref a, y, z] ∧ H a = some (exo a C none) ∧ ∀ d H', H d = none → d ≠ a → H' a = some (exo a C (some d)) → H' d = some (exd d [(g, z), (f, y)]) → (∀ b, b ≠ a → b ≠ d → H' b = H b) → Q .non H'
/-- a tuple's display, not to be looked into -/
@[irreducible] def tTupI (t : TA) : TE := tTup t
theorem pe_tupI {X : Cx} {es : List Expr} {k : Nat} {t : TA} {pos : Pos} (h : PA X es t) : PE X (.Tuple es k pos) (tTupI t) := by
  unfold tTupI
  exact pe_tup h
theorem pg_tupK {X : Cx} {K : PySem.W.Frag} {es : List Expr} {k : Nat} {t : TGs} {n : Nat} {pos : Pos} (hK : X.K = K) (hc : X.calm = true) (h : PGs X es t)
    (hn : (assignEach es X.env).length = n := by rfl) (hst : (assignEach es X.env).findIdx? (·.1) = none := by rfl) : PG X (.Tuple es k pos) (gTup K n t) := by
  subst hK
  exact pg_tup hc h hn hst
/-- the module's name x is an error class whose __init__ keeps sp -/
structure ExV (P : Program) (w : World) (K : PySem.W.Frag) (mg : Str → Option Value) (base : Heap) (x : Str) (C : Addr) (sp : Sp) : Prop where
  hm : mg x = some (.ref C)
  oex : OexC K C
  fn : ∃ (fI : Addr) (fd : FuncData) (ps : List Str), PySem.W.findIn K (.ref C) "__init__" = some (some (.ref fI)) ∧ PySem.W.typeIn K (.ref fI) = some (.type "function") ∧ FnG P w K mg base 1 fI fd ps sp ∧ Binds K fd ps []
theorem pex {X : Cx} {x : Str} {C : Addr} {j : Nat} {sp : Sp} {e : Expr} {es : List Expr} {ta : TA} {p pos : Pos} (c : ExV X.prog X.w X.K X.mg X.base x C sp) (g : Gd X.A) (hr : Room j X.A) (hk : 2 ≤ j) (hg : Gl X x) (ha : PA X (e :: es) ta)
    (hdb : (x == ("__debug__" : Str)) = false := by decide) (he : starEach (e :: es) X.env = (false, eval e X.env) :: starEach es X.env := by rfl) (hpl : (backTo pos (starEach es X.env)).any (·.1) = false := by rfl) :
    PE X (.Call (.Name x p) (e :: es) [] pos) (tMkV C sp ta) := by
  obtain ⟨fI, fd, ps, iC, tI, F, b⟩ := c.fn
  exact pe_exV c.oex iC tI F g (hr.mono hk) b hg c.hm ha hdb he hpl
/-- .. without an own __init__ -/
structure Ex0 (K : PySem.W.Frag) (mg : Str → Option Value) (x : Str) (C : Addr) : Prop where
  hm : mg x = some (.ref C)
  kC : PySem.W.keepIn K (.ref C) = true
  q : PySem.W.excIn K C [.type "ValueError", .type "Exception", .type "BaseException", .type "object"] "ValueError.__new__" = true
theorem px0 {X : Cx} {x : Str} {C : Addr} {p pos : Pos} (c : Ex0 X.K X.mg x C) (hg : Gl X x) (hdb : (x == ("__debug__" : Str)) = false := by decide) :
    PE X (.Call (.Name x p) [] [] pos) (tMk0 C) := pe_ex0 F.excBase_ValueError c.q c.hm c.kC hg hdb
end Sw
/-! Fractions in lowest terms, by integers. -/
namespace Sw
open PySem PySem.Spec PyProof.Rows L2

/-- nothing but 1 divides both -/
def Cp (a b : Int) : Prop := Nat.Coprime a.natAbs b.natAbs
theorem Cp.of {a b : Int} (h : ∀ k : Nat, (k : Int) ∣ a → (k : Int) ∣ b → k = 1) : Cp a b := by
  refine h _ ?_ ?_
  · exact Int.ofNat_dvd_left.mpr (Nat.gcd_dvd_left _ _)
  · exact Int.ofNat_dvd_left.mpr (Nat.gcd_dvd_right _ _)
theorem Cp.one {a b : Int} (c : Cp a b) {k : Nat} (h1 : (k : Int) ∣ a) (h2 : (k : Int) ∣ b) : k = 1 := by
  have h := Nat.dvd_gcd (Int.ofNat_dvd_left.mp h1) (Int.ofNat_dvd_left.mp h2)
  rw [show Nat.gcd a.natAbs b.natAbs = 1 from c] at h
  exact Nat.dvd_one.mp h
theorem Cp.symm {a b : Int} (h : Cp a b) : Cp b a := Nat.Coprime.symm h
theorem Cp.left {a b c : Int} (h : Cp a b) (d : c ∣ a) : Cp c b := .of fun _ h1 h2 => h.one (Int.dvd_trans h1 d) h2
theorem Cp.right {a b c : Int} (h : Cp a b) (d : c ∣ b) : Cp a c := (h.symm.left d).symm
theorem Cp.mul {a b c : Int} (h1 : Cp a b) (h2 : Cp a c) : Cp a (b * c) := by
  unfold Cp
  rw [Int.natAbs_mul]
  exact Nat.Coprime.mul_right h1 h2
theorem Cp.mulL {a b c : Int} (h1 : Cp a c) (h2 : Cp b c) : Cp (a * b) c := (h1.symm.mul h2.symm).symm
theorem Cp.add {a b k : Int} (h : Cp a b) : Cp (a + k * b) b := .of fun j h1 h2 => by
  have h3 : (j : Int) ∣ k * b := Int.dvd_trans h2 (Int.dvd_mul_left k b)
  have h4 : (j : Int) ∣ (a + k * b) - k * b := Int.dvd_sub h1 h3
  rw [Int.add_sub_cancel] at h4
  exact h.one h4 h2
theorem Cp.neg {a b : Int} (h : Cp a b) : Cp (-a) b := by
  unfold Cp
  rw [Int.natAbs_neg]
  exact h
theorem Cp.dvd {a b c : Int} (h : Cp a b) (d : a ∣ b * c) : a ∣ c := by
  rw [← Int.natAbs_dvd_natAbs] at d ⊢
  rw [Int.natAbs_mul] at d
  exact Nat.Coprime.dvd_of_dvd_mul_left h d
theorem gI_cp {a b : Int} : gI a b = 1 ↔ Cp a b := by
  unfold gI Cp Nat.Coprime
  omega
theorem gI_dvd (a b : Int) : gI a b ∣ a ∧ gI a b ∣ b := ⟨Int.ofNat_dvd_left.mpr (Nat.gcd_dvd_left _ _), Int.ofNat_dvd_left.mpr (Nat.gcd_dvd_right _ _)⟩
theorem gI_pos {a b : Int} (h : b ≠ 0) : 0 < gI a b := by
  have : 0 < Nat.gcd a.natAbs b.natAbs := Nat.gcd_pos_of_pos_right _ (by omega)
  unfold gI
  omega
/-- by the common divisor, nothing common is left -/
theorem cp_div {a b : Int} (h : b ≠ 0) : Cp (a / gI a b) (b / gI a b) := by
  have g := gI_pos (a := a) h
  obtain ⟨⟨x, hx⟩, y, hy⟩ := gI_dvd a b
  have ex : a / gI a b = x := Int.ediv_eq_of_eq_mul_right (by omega) hx
  have ey : b / gI a b = y := Int.ediv_eq_of_eq_mul_right (by omega) hy
  rw [ex, ey]
  have e1 : x.natAbs = a.natAbs / Nat.gcd a.natAbs b.natAbs := by
    have := congrArg Int.natAbs hx
    rw [Int.natAbs_mul] at this
    unfold gI at this g
    rw [Int.natAbs_natCast] at this
    exact (Nat.div_eq_of_eq_mul_right (by omega) this).symm
  have e2 : y.natAbs = b.natAbs / Nat.gcd a.natAbs b.natAbs := by
    have := congrArg Int.natAbs hy
    rw [Int.natAbs_mul] at this
    unfold gI at this g
    rw [Int.natAbs_natCast] at this
    exact (Nat.div_eq_of_eq_mul_right (by omega) this).symm
  unfold Cp
  rw [e1, e2]
  exact Nat.coprime_div_gcd_div_gcd (Nat.gcd_pos_of_pos_right _ (by omega))
/-- a FRACTION -/
structure Fr (n d : Int) : Prop where
  pos : 0 < d
  cp : Cp n d
theorem fr_eq {n d p q : Int} (h1 : Fr n d) (h2 : Fr p q) (e : n * q = p * d) : n = p ∧ d = q := by
  have a : d ∣ q := h1.cp.symm.dvd (by rw [e]; exact Int.dvd_mul_left p d)
  have b : q ∣ d := h2.cp.symm.dvd (by rw [← e]; exact Int.dvd_mul_left n q)
  have c : d = q := Int.dvd_antisymm (Int.le_of_lt h1.pos) (Int.le_of_lt h2.pos) a b
  subst c
  exact ⟨Int.eq_of_mul_eq_mul_right (by have := h1.pos; omega) e, rfl⟩
theorem redI_fr {x y : Int} (h : y ≠ 0) : Fr (redI x y).1 (redI x y).2 ∧ (redI x y).1 * y = x * (redI x y).2 := by
  have g := gI_pos (a := x) h
  obtain ⟨⟨a, ha⟩, b, hb⟩ := gI_dvd x y
  have ex : x / gI x y = a := Int.ediv_eq_of_eq_mul_right (by omega) ha
  have ey : y / gI x y = b := Int.ediv_eq_of_eq_mul_right (by omega) hb
  have c := cp_div (a := x) h
  rw [ex, ey] at c
  have cross : a * y = x * b := by
    generalize gI x y = k at ha hb
    subst ha hb
    simp only [Int.mul_left_comm, Int.mul_comm]
  unfold redI
  rw [sh_eq h]
  by_cases hy : y < 0
  · rw [if_pos hy, Int.neg_ediv_of_dvd (gI_dvd x y).1, Int.neg_ediv_of_dvd (gI_dvd x y).2, ex, ey]
    refine ⟨⟨?_, ?_⟩, ?_⟩
    · show 0 < -b
      have : b < 0 := by
        rcases Int.lt_or_le b 0 with z | z
        · exact z
        · have := Int.mul_nonneg (Int.le_of_lt g) z
          omega
      omega
    · show Cp (-a) (-b)
      exact (c.neg.symm.neg).symm
    · show -a * y = x * -b
      rw [Int.neg_mul, Int.mul_neg, cross]
  · rw [if_neg hy, ex, ey]
    refine ⟨⟨?_, c⟩, cross⟩
    show 0 < b
    rcases Int.lt_or_le 0 b with z | z
    · exact z
    · have := Int.mul_nonneg (Int.le_of_lt g) (show 0 ≤ -b by omega)
      rw [Int.mul_neg] at this
      omega
theorem redI_eq {x y p q : Int} (h : y ≠ 0) (f : Fr p q) (e : x * q = p * y) : redI x y = (p, q) := by
  obtain ⟨h1, h2⟩ := redI_fr (x := x) h
  have key : (redI x y).1 * q = p * (redI x y).2 := by
    have e3 : ((redI x y).1 * q) * y = (p * (redI x y).2) * y := by
      calc ((redI x y).1 * q) * y = ((redI x y).1 * y) * q := by rw [Int.mul_assoc, Int.mul_comm q y, ← Int.mul_assoc]
        _ = (x * (redI x y).2) * q := by rw [h2]
        _ = (x * q) * (redI x y).2 := by rw [Int.mul_assoc, Int.mul_comm (redI x y).2 q, ← Int.mul_assoc]
        _ = (p * y) * (redI x y).2 := by rw [e]
        _ = (p * (redI x y).2) * y := by rw [Int.mul_assoc, Int.mul_comm y, ← Int.mul_assoc]
    exact Int.eq_of_mul_eq_mul_right h e3
  obtain ⟨a, b⟩ := fr_eq h1 f key
  exact Prod.ext a b
/-- the program's own sum is in lowest terms -/
theorem add_red {n d m e : Int} (h1 : Fr n d) (h2 : Fr m e) : redI (n * e + m * d) (d * e) =
    ((n * (e / gI d e) + m * (d / gI d e)) / gI (n * (e / gI d e) + m * (d / gI d e)) (gI d e), d / gI d e * (e / gI (n * (e / gI d e) + m * (d / gI d e)) (gI d e))) := by
  have he : e ≠ 0 := by have := h2.pos; omega
  have hd : d ≠ 0 := by have := h1.pos; omega
  have gp := gI_pos (a := d) he
  have hdvd := gI_dvd d e
  have hc := cp_div (a := d) he
  obtain ⟨d1, ed⟩ := hdvd.1
  obtain ⟨e1, ee⟩ := hdvd.2
  have qd : d / gI d e = d1 := Int.ediv_eq_of_eq_mul_right (by omega) ed
  have qe : e / gI d e = e1 := Int.ediv_eq_of_eq_mul_right (by omega) ee
  rw [qd, qe] at hc ⊢
  generalize hg : gI d e = c at *
  have hc0 : c ≠ 0 := by omega
  -- part and what it shares with c
  have lp := gI_pos (a := n * e1 + m * d1) hc0
  have ldv := gI_dvd (n * e1 + m * d1) c
  have lcp := cp_div (a := n * e1 + m * d1) hc0
  obtain ⟨p, ep⟩ := ldv.1
  obtain ⟨r, er⟩ := ldv.2
  have qp : (n * e1 + m * d1) / gI (n * e1 + m * d1) c = p := Int.ediv_eq_of_eq_mul_right (by omega) ep
  have qr : c / gI (n * e1 + m * d1) c = r := Int.ediv_eq_of_eq_mul_right (by omega) er
  rw [qp, qr] at lcp
  rw [qp]
  generalize hl : gI (n * e1 + m * d1) c = l at *
  have ee2 : e = l * (r * e1) := by rw [ee, er, Int.mul_assoc]
  have qe2 : e / l = r * e1 := Int.ediv_eq_of_eq_mul_right (by omega) ee2
  rw [qe2]
  have d1p : 0 < d1 := by
    have := h1.pos
    rcases Int.lt_or_le 0 d1 with z | z
    · exact z
    · have := Int.mul_nonneg (Int.le_of_lt gp) (show 0 ≤ -d1 by omega)
      rw [Int.mul_neg] at this
      omega
  have rp : 0 < r * e1 := by
    have := h2.pos
    rcases Int.lt_or_le 0 (r * e1) with z | z
    · exact z
    · have := Int.mul_nonneg (Int.le_of_lt lp) (show 0 ≤ -(r * e1) by omega)
      rw [Int.mul_neg] at this
      omega
  have pd : p ∣ n * e1 + m * d1 := by rw [ep]; exact Int.dvd_mul_left l p
  have c1 : Cp p d1 := ((Cp.add (k := m) ((h1.cp.right (by rw [ed]; exact Int.dvd_mul_left c d1)).mulL hc.symm)).left pd)
  have c2 : Cp p e1 := by
    refine Cp.left (a := m * d1 + n * e1) (Cp.add (k := n) ((h2.cp.right (by rw [ee]; exact Int.dvd_mul_left c e1)).mulL hc)) ?_
    rw [Int.add_comm]
    exact pd
  refine redI_eq (Int.mul_ne_zero hd he) ⟨Int.mul_pos d1p rp, c1.mul (lcp.mul c2)⟩ ?_
  have e4 : n * e + m * d = c * (l * p) := by
    rw [← ep]
    conv =>
      lhs
      rw [ee, ed]
    rw [Int.mul_add, Int.mul_left_comm, Int.mul_left_comm c m]
  rw [e4]
  conv =>
    rhs
    rw [ed, ee2]
  simp only [Int.mul_assoc, Int.mul_comm, Int.mul_left_comm]
/-- .. its product -/
theorem mul_red {n d m e : Int} (h1 : Fr n d) (h2 : Fr m e) : redI (n * m) (d * e) = (n / gI n e * (m / gI m d), d / gI m d * (e / gI n e)) := by
  have he : e ≠ 0 := by have := h2.pos; omega
  have hd : d ≠ 0 := by have := h1.pos; omega
  have g1 := gI_pos (a := n) he
  have g2 := gI_pos (a := m) hd
  have k1 := cp_div (a := n) he
  have k2 := cp_div (a := m) hd
  have v1 := gI_dvd n e
  have v2 := gI_dvd m d
  generalize gI n e = l at *
  generalize gI m d = r at *
  obtain ⟨n1, en⟩ := v1.1
  obtain ⟨e1, ee⟩ := v1.2
  obtain ⟨m1, em⟩ := v2.1
  obtain ⟨d1, ed⟩ := v2.2
  rw [Int.ediv_eq_of_eq_mul_right (by omega) en, Int.ediv_eq_of_eq_mul_right (by omega) ee] at *
  rw [Int.ediv_eq_of_eq_mul_right (by omega) em, Int.ediv_eq_of_eq_mul_right (by omega) ed] at *
  have d1p : 0 < d1 := by
    have := h1.pos
    rcases Int.lt_or_le 0 d1 with z | z
    · exact z
    · have := Int.mul_nonneg (Int.le_of_lt g2) (show 0 ≤ -d1 by omega)
      rw [Int.mul_neg] at this
      omega
  have e1p : 0 < e1 := by
    have := h2.pos
    rcases Int.lt_or_le 0 e1 with z | z
    · exact z
    · have := Int.mul_nonneg (Int.le_of_lt g1) (show 0 ≤ -e1 by omega)
      rw [Int.mul_neg] at this
      omega
  have n1n : n1 ∣ n := by rw [en]; exact Int.dvd_mul_left l n1
  have m1m : m1 ∣ m := by rw [em]; exact Int.dvd_mul_left r m1
  have d1d : d1 ∣ d := by rw [ed]; exact Int.dvd_mul_left r d1
  have e1e : e1 ∣ e := by rw [ee]; exact Int.dvd_mul_left l e1
  refine redI_eq (Int.mul_ne_zero hd he) ⟨Int.mul_pos d1p e1p, Cp.mulL (((h1.cp.left n1n).right d1d).mul k1) (k2.mul ((h2.cp.left m1m).right e1e))⟩ ?_
  conv =>
    lhs
    rw [en, em]
  conv =>
    rhs
    rw [ed, ee]
  simp only [Int.mul_assoc, Int.mul_comm, Int.mul_left_comm]
/-- // by what is not 0 -/
def CDivA (_ j : Int) : Prop := j ≠ 0 ∧ j.natAbs.log2 < 9000
theorem op_fdivA {X : Cx} : OpR X (binaryOp .FloorDiv) (rI CDivA fun i j => .int (i.fdiv j)) := opI fun _ _ _ _ _ _ _ hc q => floordiv_int hc.1 q (.inl (PyProof.noPylong_of_log2 hc.2))
theorem log_lt {j : Int} (h : j.natAbs < 2 ^ 8000) : j.natAbs.log2 < 9000 := Nat.lt_of_lt_of_le (PySem.Flt.log2_lt_of (by decide) h) (by decide)
theorem mulW {i j : Int} (h1 : i.natAbs < 2 ^ 8000) (h2 : j.natAbs < 2 ^ 8000) : CMulW i j := wide_mul h1 h2 (by decide) (by decide) (by decide)
theorem divW {i j : Int} (h0 : 0 < j) (h1 : j.natAbs < 2 ^ 8000) : CDivW i j := wide_div h0 h1 (by decide) (by decide)
theorem gI_le {a b : Int} (h : b ≠ 0) : (gI a b).natAbs ≤ b.natAbs := by
  unfold gI
  rw [Int.natAbs_natCast]
  exact Nat.le_of_dvd (by omega) (Nat.gcd_dvd_right _ _)
theorem div_le {a c : Int} : (a / c).natAbs ≤ a.natAbs := Int.natAbs_ediv_le_natAbs a c
theorem natAbs_lt_mul {i j : Int} {a b : Nat} (h1 : i.natAbs < 2 ^ a) (h2 : j.natAbs < 2 ^ b) : (i * j).natAbs < 2 ^ (a + b) := wide_lt h1 h2
theorem natAbs_lt_add {i j : Int} {a : Nat} (h1 : i.natAbs < 2 ^ a) (h2 : j.natAbs < 2 ^ a) : (i + j).natAbs < 2 ^ (a + 1) := by
  rw [Nat.pow_succ]
  omega
theorem red_fdiv {n d : Int} (h : d ≠ 0) : (n.fdiv (if d < 0 then -gI n d else gI n d), d.fdiv (if d < 0 then -gI n d else gI n d)) = redI n d := by
  have g := gI_pos (a := n) h
  obtain ⟨g1, g2⟩ := gI_dvd n d
  unfold redI
  rw [sh_eq h]
  by_cases hd : d < 0
  · rw [if_pos hd, if_pos hd, Int.fdiv_eq_ediv_of_dvd (Int.neg_dvd.mpr g1), Int.fdiv_eq_ediv_of_dvd (Int.neg_dvd.mpr g2), Int.ediv_neg, Int.ediv_neg, Int.neg_ediv_of_dvd g1, Int.neg_ediv_of_dvd g2]
  · rw [if_neg hd, if_neg hd, Int.fdiv_eq_ediv_of_dvd g1, Int.fdiv_eq_ediv_of_dvd g2]
/-- a couple of integers stands at v -/
def Cpl (K : PySem.W.Frag) (H : Hp) (v : V) (n d : Int) : Prop := ∃ a, v = .ref a ∧ SqT K H a [.int n, .int d]
theorem Cpl.same {K : PySem.W.Frag} {H H' : Hp} {v : V} {n d : Int} (h : Cpl K H v n d) (s : Same H H') : Cpl K H' v n d := by
  obtain ⟨a, rfl, r⟩ := h
  exact ⟨a, rfl, s.seqT r⟩
theorem Cpl.mk {K : PySem.W.Frag} {H : Hp} {p : Addr} {n d : Int} (h : H p = some (.tup [.int n, .int d])) : Cpl K H (.ref p) n d := ⟨p, rfl, .inl (.inl h)⟩
/-- a new couple -/
def Res (Q : VK) (H : Hp) (r : Int × Int) : Prop := ∀ p H', Same H H' → H p = none → H' p = some (.tup [.int r.1, .int r.2]) → Q (.ref p) H'
theorem Res.now {Q : VK} {H H' : Hp} {r : Int × Int} {x y : Int} (h : Res Q H r) (s : Same H H') (e : r = (x, y)) : ∀ p, H' p = none → Q (.ref p) (upd H' p (.tup [.int x, .int y])) := fun p np => by
  subst e
  refine h p _ (s.trans (same_upd np)) ?_ upd_same
  cases z : H p with
  | none => rfl
  | some o =>
    rw [s _ _ z] at np
    cases np
theorem redI_neg {x y : Int} (h : y ≠ 0) : redI (-x) (-y) = redI x y := by
  obtain ⟨f, e⟩ := redI_fr (x := x) h
  have z := redI_eq (x := -x) (y := -y) (p := (redI x y).1) (q := (redI x y).2) (by omega) f (by rw [Int.neg_mul, Int.mul_neg, e])
  rw [z]
theorem Fr.flip {n d : Int} (h : Fr n d) (p : 0 < n) : Fr d n := ⟨p, h.cp.symm⟩
theorem Fr.flipN {n d : Int} (h : Fr n d) (p : n < 0) : Fr (-d) (-n) := ⟨by omega, h.cp.neg.symm.neg⟩
theorem Fr.neg {n d : Int} (h : Fr n d) : Fr (-n) d := ⟨h.pos, h.cp.neg⟩
theorem redI_le {x y : Int} (h : y ≠ 0) : (redI x y).1.natAbs ≤ x.natAbs ∧ (redI x y).2.natAbs ≤ y.natAbs := by
  unfold redI
  split
  · refine ⟨?_, ?_⟩
    · have := div_le (a := -x) (c := sh x y)
      rw [Int.natAbs_neg] at this
      exact this
    · have := div_le (a := -y) (c := sh x y)
      rw [Int.natAbs_neg] at this
      exact this
  · exact ⟨div_le, div_le⟩
theorem Cpl.fut {K : PySem.W.Frag} {mu : Addr → Prop} {H H' : Hp} {v : V} {n d : Int} (h : Cpl K H v n d) (f : Fut mu H H') : Cpl K H' v n d := by
  obtain ⟨a, rfl, (r | ⟨o, r⟩) | r⟩ := h
  · exact ⟨a, rfl, .inl (.inl (f _ _ r (.inr (.inl ⟨_, rfl⟩))))⟩
  · exact ⟨a, rfl, .inl (.inr ⟨o, f _ _ r (.inr (.inr ⟨_, _, rfl⟩))⟩)⟩
  · exact ⟨a, rfl, .inr r⟩
theorem Cpl.dt {K : PySem.W.Frag} {mu : Addr → Prop} {H : Hp} {v : V} {n d : Int} (h : Cpl K H v n d) : Dt K mu H v (.tuple [.int n, .int d]) := by
  obtain ⟨a, rfl, (r | ⟨o, r⟩) | r⟩ := h
  · exact .tup (.inl r) (.cons (.int _) (.cons (.int _) .nil))
  · exact .tup (.inr ⟨o, r⟩) (.cons (.int _) (.cons (.int _) .nil))
  · exact .tupK r (.cons (.int _) (.cons (.int _) .nil))
theorem Dt.cpl {K : PySem.W.Frag} {mu : Addr → Prop} {H : Hp} {v : V} {n d : Int} (h : Dt K mu H v (.tuple [.int n, .int d])) : Cpl K H v n d := by
  obtain ⟨a, xs, rfl, r, ha⟩ := h.tupAt
  obtain ⟨x, y, p, q, rfl, e, h1, h2⟩ := ha.two rfl
  cases e
  cases h1
  cases h2
  exact ⟨a, rfl, r⟩
/-- a row of couples -/
def RowF (K : PySem.W.Frag) (H : Hp) : List V → List (Int × Int) → Prop
  | [], [] => True
  | v :: vs, f :: fs => Cpl K H v f.1 f.2 ∧ RowF K H vs fs
  | _, _ => False
theorem RowF.fut {K : PySem.W.Frag} {mu : Addr → Prop} {H H' : Hp} (f : Fut mu H H') : ∀ {vs : List V} {fs : List (Int × Int)}, RowF K H vs fs → RowF K H' vs fs
  | [], [], _ => True.intro
  | v :: vs, g :: fs, h => ⟨h.1.fut f, RowF.fut f h.2⟩
  | [], _ :: _, h => h.elim
  | _ :: _, [], h => h.elim
theorem RowF.same {K : PySem.W.Frag} {H H' : Hp} {vs : List V} {fs : List (Int × Int)} (h : RowF K H vs fs) (s : Same H H') : RowF K H' vs fs := h.fut (mu := fun _ => False) (.of_same s)
theorem RowF.len {K : PySem.W.Frag} {H : Hp} : ∀ {vs : List V} {fs : List (Int × Int)}, RowF K H vs fs → vs.length = fs.length
  | [], [], _ => rfl
  | v :: vs, g :: fs, h => by rw [List.length_cons, List.length_cons, RowF.len h.2]
  | [], _ :: _, h => h.elim
  | _ :: _, [], h => h.elim
theorem RowF.get {K : PySem.W.Frag} {H : Hp} : ∀ {vs : List V} {fs : List (Int × Int)} {i : Nat} {v : V}, RowF K H vs fs → vs[i]? = some v → ∃ f, fs[i]? = some f ∧ Cpl K H v f.1 f.2
  | [], [], _, _, _, e => by simp at e
  | x :: vs, g :: fs, 0, _, h, e => by
    simp at e
    subst e
    exact ⟨g, rfl, h.1⟩
  | x :: vs, g :: fs, i + 1, v, h, e => by
    obtain ⟨f, h1, h2⟩ := RowF.get (i := i) h.2 (by simpa using e)
    exact ⟨f, by simpa using h1, h2⟩
  | [], _ :: _, _, _, h, _ => h.elim
  | _ :: _, [], _, _, h, _ => h.elim
theorem RowF.getD {K : PySem.W.Frag} {H : Hp} {vs : List V} {fs : List (Int × Int)} {i : Nat} {f : Int × Int} (h : RowF K H vs fs) (e : fs[i]? = some f) : ∃ v, vs[i]? = some v ∧ Cpl K H v f.1 f.2 := by
  have hi : i < vs.length := by rw [h.len]; exact (List.getElem?_eq_some_iff.mp e).1
  obtain ⟨g, h1, h2⟩ := h.get (List.getElem?_eq_getElem hi)
  rw [e] at h1
  cases h1
  exact ⟨_, List.getElem?_eq_getElem hi, h2⟩
theorem RowF.ins {K : PySem.W.Frag} {H : Hp} {v : V} {g : Int × Int} (hv : Cpl K H v g.1 g.2) : ∀ {vs : List V} {fs : List (Int × Int)} (i : Nat), RowF K H vs fs → RowF K H (vs.take i ++ v :: vs.drop i) (fs.take i ++ g :: fs.drop i)
  | vs, fs, 0, h => ⟨hv, h⟩
  | [], [], i + 1, _ => ⟨hv, True.intro⟩
  | x :: vs, f :: fs, i + 1, h => ⟨h.1, RowF.ins hv i h.2⟩
  | [], _ :: _, _ + 1, h => h.elim
  | _ :: _, [], _ + 1, h => h.elim
theorem RowF.dt {K : PySem.W.Frag} {mu : Addr → Prop} {H : Hp} : ∀ {vs : List V} {fs : List (Int × Int)}, RowF K H vs fs → DtA K mu H vs (fs.map fun f => .tuple [.int f.1, .int f.2])
  | [], [], _ => .nil
  | v :: vs, g :: fs, h => .cons h.1.dt (RowF.dt h.2)
  | [], _ :: _, h => h.elim
  | _ :: _, [], h => h.elim
theorem fut_at {H : Hp} {a : Addr} {xs : List V} {o' : HO} (ha : H a = some (.lst xs)) : Fut (fun b => b = a) H (upd H a o') := fun c o e z => by
  have nb : c ≠ a := fun q => by
    rcases z with z | ⟨ys, rfl⟩ | ⟨ob, u, rfl⟩
    · exact z q
    · rw [q, ha] at e
      cases e
    · rw [q, ha] at e
      cases e
  rw [upd_ne nb]
  exact e
theorem shaped_cpl (a b : Int) : SeqAt.shaped (.tuple [.int a, .int b]) = true := by
  simp [SeqAt.shaped, PyData.canLay0, PyData.canLayAll0, PyData.depth, PyData.depthAll]
theorem eqv_cpl (a b c d : Int) : PyData.eqv (.tuple [.int a, .int b]) (.tuple [.int c, .int d]) = decide ((a, b) = (c, d)) := by
  simp only [PyData.eqv, PyData.eqvAll, Bool.and_true, Prod.mk.injEq]
  by_cases h1 : a = c <;> by_cases h2 : b = d <;> simp [h1, h2]
/-- what was not there at first may change as it likes -/
theorem Rel.at {b p : Addr} {H H' : Hp} {o : HO} (R : Rel b H H') (hb : BagAt H b) (np : H p = none) : Rel b H (upd H' p o) := by
  obtain ⟨x0, y0, z0, l0, cs0, hb0, hl0, _⟩ := id hb
  have npb : p ≠ b := fun z => by
    rw [z, hb0] at np
    cases np
  refine ⟨fun a u n e => ?_, fun l hL => ?_, ?_⟩
  · rw [upd_ne (ne_of_none e np)]
    exact R.keep a u n e
  · obtain ⟨x, y, z, e⟩ := R.cell l hL
    exact ⟨x, y, z, by rw [upd_ne npb.symm]; exact e⟩
  · obtain ⟨x, y, z, l, cs, q1, q2, q3, q4⟩ := R.bag
    have el : l0 = l := (R.cell l0 ⟨_, _, _, hb0⟩).eq q1
    have e : l ≠ p := fun e => by
      rw [el, e, np] at hl0
      cases hl0
    exact ⟨x, y, z, l, cs, by rw [upd_ne npb.symm]; exact q1, by rw [upd_ne e]; exact q2, q3, q4⟩
theorem RowF.snoc {K : PySem.W.Frag} {H : Hp} {v : V} {g : Int × Int} (hv : Cpl K H v g.1 g.2) : ∀ {vs : List V} {fs : List (Int × Int)}, RowF K H vs fs → RowF K H (vs ++ [v]) (fs ++ [g])
  | [], [], _ => ⟨hv, True.intro⟩
  | x :: vs, f :: fs, h => ⟨h.1, RowF.snoc hv h.2⟩
  | [], _ :: _, h => h.elim
  | _ :: _, [], h => h.elim
end Sw
/-! sep.join(reversed(a list of texts)). -/
namespace Sw
open PySem PySem.Spec PyProof.Rows L2
section
variable {prog : Program} {w : World} {A : Around} {E : Value → Shared → Prop} {s : Shared}
theorem join_rev {x : Str} {t : Tok} {it l : Addr} {items : Array Value} {ys : List Str} {Q : Value → Shared → Prop} (hh : A.handled = none) (hit : s.heap.IsRevIter it l ((items.size : Int) - 1)) (hl : s.heap.IsList l items) (hne : l ≠ it) (hn : items.size ≤ sizeLine)
    (hP : ∀ acc : Array Value, ItemsOf (fun i v => items[items.size - 1 - i]? = some v) acc items.size → StrsAre acc.toList ys) (hok : (ys.map (·.length)).sum + ys.length * x.length ≤ 16777216)
    (hq : ∀ (h' : Heap), (∀ b o, b ≠ it → s.heap.get? b = some o → h'.get? b = some o) → ∀ (t' : Tok) (k : Nat), Q (.str (Txt.join x ys) t') { s with heap := h', toks := k }) :
    wpAny (model prog w) A (call (.builtin "str.join") [.str x t, .ref it]) Q E s := by
  refine wpAny_call (codeAny_call_builtin F.slot_str_join.plain F.entry_str_join (F.slot_str_join.check _ _ _ _ _ _ _ _ (typeIs_str _ _ _) (F.args_str_join_2 _ _) ?_))
  rw [join_tree_other]
  refine wpAny_bind (wpAny_typeOf hit.typeIs ?_)
  show wpAny _ A.in1 ((pyIter (.ref it)).tryCatch _ >>= fun i => collect i >>= fun zs => joinTail x zs) _ _ s
  refine wpAny_bind (wpAny_tryCatch (wpAny_pyIter_revIter hit ?_))
  have hh1 : A.in1.handled = none := hh
  refine wpAny_bind (RT.collect_rev hh1 hit hl hne hn fun h' tk acc hk hacc => ?_)
  obtain ⟨zs, hz, ht⟩ := strsAre_values (hP acc hacc)
  subst ht
  rw [hz]
  have ok2 := joinOk_of hok
  unfold JoinOk at ok2
  rw [Bool.not_eq_true'] at ok2
  have g : Gives (joinTail x (strValues zs)) (joinMade x zs) := by
    rcases zs with _ | ⟨p, _ | ⟨q, r⟩⟩
    all_goals exact gives_joinTail x _ ok2
  exact g prog w A (wants Q E) _ (post_join zs ⟨joinFit_length ok2, hq h' hk⟩)
end
/-- sep.join(reversed(e)) -/
def tJoinRev (K : PySem.W.Frag) (x : Str) (te : TE) : TE := fun σ H Q => te σ H fun v H1 => ∃ (a : Addr) (ys : List Str), v = .ref a ∧ SqL K H1 a (ys.map V.str) ∧ (ys.map (·.length)).sum + ys.length * x.length ≤ 16777216 ∧ Q (.str (Txt.join x ys.reverse)) H1
theorem pe_joinRev {X : Cx} {x : Str} {e : Expr} {te : TE} {u0 : Nat} {pc0 apos pos p2 pos2 : Pos} (hc : X.calm = true) (hg2 : Gl X "reversed") (hm2 : X.mg "reversed" = none) (he : PE X e te)
    (hs : starEach [e] X.env = (false, eval e X.env) :: starEach [] X.env := by rfl)
    (hs2 : starEach [.Call (.Name "reversed" p2) [e] [] pos2] X.env = [(false, eval (.Call (.Name "reversed" p2) [e] [] pos2) X.env)] := by rfl)
    (hbase : attributeBase (.Constant (.str x) u0 pc0) "join" X.env (eval (.Constant (.str x) u0 pc0) X.env) = eval (.Constant (.str x) u0 pc0) X.env := by rfl) (hline : (apos.endLine == pos.line) = true := by rfl) :
    PE X (.Call (.Attribute (.Constant (.str x) u0 pc0) "join" apos) [.Call (.Name "reversed" p2) [e] [] pos2] [] pos) (tJoinRev X.K x te) := by
  refine ⟨fun pins s σ H Q I h => ?_⟩
  refine PySem.Call_method1 hbase hs2 hline (thn (pe_str.run pins s σ H (fun v H1 => v = .str x ∧ H1 = H) I ⟨rfl, rfl⟩) fun v s1 ⟨x1, H1, I1, r1, q1⟩ => ?_)
  obtain ⟨rfl, rfl⟩ := q1
  obtain ⟨t, rfl⟩ := _root_.id r1
  refine ⟨"str", _, F.plainAttrs_str, F.slot_str_join, F.type_str_join, typeIs_str _ _ _, (fun _ e => nomatch e), Calls.callWith_builtin rfl (Calls.evalArgs_plain (Calls.spliced_cons ?_))⟩
  refine Call_ (ld_blt I1 hg2 hm2 PyProof.Rows.boot_reversed (PyProof.Rows.callWith_type1 (args_cons (thn (he.run pins s1 σ H1 _ I1 h) fun u s2 ⟨v, H2, I2, r2, q2⟩ => args_nil ?_) hs) hs rfl))
  obtain ⟨a, ys, rfl, hq, hz, q⟩ := q2
  obtain rfl : u = Value.ref a := r2
  obtain ⟨its, rv, p', hsz⟩ := I2.list hq
  refine call_reversed_list p'.isList ?_
  have k0 : ∀ b o, s2.heap.get? b = some o → (s2.heap.push (revObj a ((its.toArray.size : Int) - 1))).get? b = some o := fun b o e => Heap.get?_push_of_some _ e
  have I3 : Inv X pins σ H2 { s2 with heap := s2.heap.push (revObj a ((its.toArray.size : Int) - 1)) } := I2.kept (t' := s2.toks) k0
  obtain ⟨f0, f1, f2, f3, f4, f5⟩ := I2.fpOk (H' := H2) (b := s2.heap.objs.size) (Nat.le_refl _) (I2.hok.fresh (Nat.le_refl _))
  have hl := p'.isList
  obtain ⟨ol, hol, _⟩ := id hl
  have hne : a ≠ s2.heap.objs.size := Nat.ne_of_lt (Heap.lt_size hol)
  have hn : its.toArray.size ≤ sizeLine := by rw [List.size_toArray, ← rv.length]; exact hsz
  refine Calls.spliced_nil ?_
  refine join_rev (s := { s2 with heap := s2.heap.push (revObj a ((its.toArray.size : Int) - 1)) }) (ys := ys.reverse) (I2.ok.hd hc) ⟨_, Heap.get?_push_size _ rfl, rfl, rfl⟩ (hl.push _) hne hn (fun acc hacc => ?_) ?_ fun h' hk t' k => ?_
  · have z := RT.vals_rev rv hacc
    rw [← List.map_reverse] at z
    exact strs_of_vals z
  · rw [List.map_reverse, List.sum_reverse, List.length_reverse]
    exact hz
  · exact ⟨.str _, H2, I3.turned (t' := k) (fun b o hb e => hk b o hb e) f0 f1 f3 f4 f5, ⟨t', rfl⟩, q⟩
end Sw
/-! Texts of integers, read. -/
namespace Sw
open PySem PySem.Spec PyProof.Rows L2

/-- behind one sign - -/
def stripL : List Nat → List Nat
  | 45 :: r => r
  | l => l
def digL (l : List Nat) : Bool := decide (0 < l.length) && l.all fun c => decide (48 ≤ c) && decide (c ≤ 57)
theorem digL_iff {l : List Nat} : digL l = true ↔ l ≠ [] ∧ NumText.AllDigits l := by
  unfold digL NumText.AllDigits
  rw [Bool.and_eq_true, decide_eq_true_eq, List.all_eq_true]
  refine and_congr ⟨fun h e => (by rw [e] at h; exact absurd h (by decide)), fun h => List.length_pos_iff.mpr h⟩ ⟨fun h c hc => ?_, fun h c hc => ?_⟩
  · have := h c hc
    rw [Bool.and_eq_true, decide_eq_true_eq, decide_eq_true_eq] at this
    exact this
  · rw [Bool.and_eq_true, decide_eq_true_eq, decide_eq_true_eq]
    exact h c hc
theorem dig_tab : ∀ c, c < 128 → Unicode.isDigit c = (decide (48 ≤ c) && decide (c ≤ 57)) := by decide +kernel
theorem dig_eq (l : List Nat) : (Txt.isascii ⟨l.toArray⟩ && Txt.isdigit ⟨l.toArray⟩) = digL l := by
  unfold Txt.isascii Txt.isdigit digL
  show (l.toArray.all _ && (decide (l.toArray.size > 0) && l.toArray.all _)) = _
  rw [List.all_toArray, List.all_toArray, List.size_toArray]
  have key : ∀ l : List Nat, (l.all (fun c => decide (c < 128)) && l.all Unicode.isDigit) = l.all fun c => decide (48 ≤ c) && decide (c ≤ 57) := by
    intro l
    induction l with
    | nil => rfl
    | cons c l ih =>
      rw [List.all_cons, List.all_cons, List.all_cons, ← ih]
      by_cases hc : c < 128
      · rw [dig_tab c hc, decide_eq_true hc]
        cases decide (48 ≤ c) <;> cases decide (c ≤ 57) <;> simp
      · rw [decide_eq_false hc, decide_eq_false (show ¬ c ≤ 57 by omega)]
        simp
  rw [← key l]
  cases decide (l.length > 0) <;> simp
/-- the integer that a text shows, if it is its own text -/
def valL (l : List Nat) : Int := match l with
  | 45 :: r => -((NumText.digitsVal r : Nat) : Int)
  | l => ((NumText.digitsVal l : Nat) : Int)
theorem strip_min (r : List Nat) : stripL (45 :: r) = r ∧ valL (45 :: r) = -((NumText.digitsVal r : Nat) : Int) := ⟨rfl, rfl⟩
theorem strip_no {l : List Nat} (h : ∀ r, l ≠ 45 :: r) : stripL l = l ∧ valL l = ((NumText.digitsVal l : Nat) : Int) := by
  unfold stripL valL
  refine ⟨?_, ?_⟩
  · split
    · rename_i r
      exact absurd rfl (h r)
    · rfl
  · split
    · rename_i r
      exact absurd rfl (h r)
    · rfl
theorem min_or (l : List Nat) : (∃ r, l = 45 :: r) ∨ ∀ r, l ≠ 45 :: r := by
  by_cases h : ∃ r, l = 45 :: r
  · exact .inl h
  · exact .inr fun r e => h ⟨r, e⟩
theorem int_reads {l : List Nat} (h : digL (stripL l) = true) (hl : (stripL l).length ≤ 40) : intText? ⟨l.toArray⟩ = some (valL l) ∧ l.length ≤ 41 := by
  rcases min_or l with ⟨r, rfl⟩ | hn
  · rw [(strip_min r).1] at h hl
    rw [(strip_min r).2]
    obtain ⟨h1, h2⟩ := digL_iff.mp h
    refine ⟨intText_neg (x := ⟨(45 :: r).toArray⟩) (cs := r) (by simp) h2 h1 ?_, by rw [List.length_cons]; omega⟩
    show (45 :: r).toArray.size ≤ 4300
    rw [List.size_toArray, List.length_cons]
    omega
  · rw [(strip_no hn).1] at h hl
    rw [(strip_no hn).2]
    obtain ⟨h1, h2⟩ := digL_iff.mp h
    refine ⟨intText_digits (x := ⟨l.toArray⟩) (by simpa using h2) (by simpa using h1) ?_, by omega⟩
    show l.toArray.size ≤ 4300
    rw [List.size_toArray]
    omega
def intL (l : List Nat) : Option Int := if digL (stripL l) = true ∧ (stripL l).length ≤ 40 ∧ (Str.ofString (toString (valL l))).cps.toList = l then some (valL l) else none
theorem removeprefix_min (l : List Nat) : Txt.removeprefix ⟨l.toArray⟩ "-" = ⟨(stripL l).toArray⟩ := by
  have em : ("-" : Str) = ⟨#[45]⟩ := by decide +kernel
  rw [em, PySem.StrLaws.removeprefix_eq]
  have e1 : (⟨#[45]⟩ : Str).length = 1 := rfl
  have e2 : (⟨l.toArray⟩ : Str).length = l.length := by
    show l.toArray.size = _
    rw [List.size_toArray]
  have e3 : (⟨l.toArray⟩ : Str).cps.toList = l := by simp
  have e4 : Builtin.Str.subAt ⟨l.toArray⟩ ⟨#[45]⟩ 0 = decide (l.take 1 = [45]) := by
    unfold Builtin.Str.subAt
    show (l.toArray.extract 0 (0 + 1) == #[45]) = _
    rw [show l.toArray.extract 0 (0 + 1) = (l.take 1).toArray by simp]
    rw [Bool.eq_iff_iff, beq_iff_eq, decide_eq_true_eq]
    exact ⟨fun h => by simpa using congrArg Array.toList h, fun h => by rw [h]⟩
  rw [e1, e2, e3, e4]
  rcases min_or l with ⟨r, rfl⟩ | hn
  · rw [(strip_min r).1, if_pos (by simp)]
    simp
  · rw [(strip_no hn).1, if_neg]
    rw [Bool.and_eq_true, decide_eq_true_eq, decide_eq_true_eq]
    rintro ⟨_, h⟩
    match l, h, hn with
    | c :: r, h, hn =>
      have : c = 45 := by simpa using h
      subst this
      exact hn r rfl
/-- a text, k times: only its length is told -/
def rRepS : R2 := fun x y H Q => ∃ (z : Str) (k : Int), x = .str z ∧ y = .int k ∧ 2 ≤ k ∧ k ≤ 1000 ∧ 1 ≤ z.length ∧ z.length ≤ 1000 ∧ ∀ r : Str, r.length = z.length * k.toNat → Q (.str r) H
theorem rep_size (c : Array Nat) : ∀ m : Nat, ((List.replicate m c).foldl (· ++ ·) #[]).size = c.size * m := fun m => by
  have key : ∀ (m : Nat) (a : Array Nat), ((List.replicate m c).foldl (· ++ ·) a).size = a.size + c.size * m := by
    intro m
    induction m with
    | zero =>
      intro a
      simp
    | succ m ih =>
      intro a
      rw [List.replicate_succ, List.foldl_cons, ih, Array.size_append, Nat.mul_succ]
      omega
  rw [key m #[]]
  simp
theorem op_repS {X : Cx} : OpR X (binaryOp .Mult) rRepS := by
  intro pins s σ H x y v u Q I rx ry h
  obtain ⟨z, k, rfl, rfl, k2, k1, z1, z2, q⟩ := h
  obtain ⟨t, rfl⟩ := rx
  obtain ⟨t', rfl⟩ := ry
  have hm : z.length * k.toNat ≤ 1000000 := Nat.le_trans (Nat.mul_le_mul z2 (show k.toNat ≤ 1000 by omega)) (by decide)
  have hc : (k == 1 || z.length == 0) = false := by
    rw [Bool.or_eq_false_iff, beq_eq_false_iff_ne, beq_eq_false_iff_ne]
    omega
  refine P.mul_str (by rw [decide_eq_false (by omega), decide_eq_false (by omega)]; rfl) (fun _ _ => ?_) (fun _ _ => ?_) ?_
  · have e : (1000 : Int) ≤ (2 ^ 63 - 1) / k := by
      rw [Int.le_ediv_iff_mul_le (by omega)]
      omega
    omega
  · unfold Builtin.Str.tooLong
    have sl := sizeLine_eq
    first
      | (rw [decide_eq_false]; omega)
      | (simp; omega)
  · rw [if_neg (by omega), if_neg (by rw [hc]; exact Bool.false_ne_true)]
    have hz : (⟨(List.replicate k.toNat z.cps).foldl (· ++ ·) #[]⟩ : Str).length = z.length * k.toNat := rep_size z.cps k.toNat
    refine ⟨?_, ⟨.str _, H, I.tok _, ⟨_, rfl⟩, q _ hz⟩⟩
    have sl := sizeLine_eq
    first
      | (rw [hz]; omega)
      | (show _ ≤ _; rw [hz]; omega)
end Sw
/-! A written text ahead gives a token. -/
namespace Sw
open PySem PySem.Spec PyProof.Rows L2
section
variable {X : Cx} {f e : Expr} {es : List Expr} {tf te : TE} {ta : TA} {c : Str} {j : Nat} {pc0 pos : Pos} {r : R2}
/-- [.., 'c' + f, ..]: behind it a token is out -/
theorem pa_lit (ho : OpR X (binaryOp .Add) r) (hf : PE X f tf) (hr : PAT X es ta) (hs : starEach (.BinOp (.Constant (.str c) j pc0) .Add f pos :: es) X.env = (false, eval (.BinOp (.Constant (.str c) j pc0) .Add f pos) X.env) :: starEach es X.env := by rfl) :
    PA X (.BinOp (.Constant (.str c) j pc0) .Add f pos :: es) (tCons (tOp r (tC (.str c)) tf) ta) := by
  refine ⟨fun pos' pins s σ H Q I h => ?_⟩
  rw [hs]
  show wpAny _ _ (spliced ((false, eval (.BinOp (.Constant (.str c) j pc0) .Add f pos) X.env) :: backTo pos' (starEach es X.env))) _ _ s
  refine Calls.spliced_cons ?_
  refine wpAny_BinOp (Calls.Constant_str ?_)
  refine wpAny_mono (PySem.wpAny_toks (hf.run pins _ σ H _ (I.tok (s.toks + 1)) h)) (fun u s2 q => ?_) fun _ _ z => z.2
  obtain ⟨hk, y, H1, I1, r1, q1⟩ := q
  have hk : s.toks + 1 ≤ s2.toks := hk
  refine wpAny_mono (PySem.wpAny_toks (ho pins s2 σ H1 (.str c) y _ u _ I1 ⟨s.toks, rfl⟩ r1 q1)) (fun v s3 q => ?_) fun _ _ z => z.2
  obtain ⟨hk2, x, H2, I2, r2, q2⟩ := q
  exact thn (hr pos' pins s3 σ H2 _ (by omega) I2 q2) fun us s4 ⟨xs, H3, I3, r3, q3⟩ => ⟨x :: xs, H3, I3, .cons r2 r3, q3⟩
/-- a part of a list behind a written one, which wants no token itself -/
theorem pat_of (he : PE X e te) (hr : PAT X es ta) (hs : starEach (e :: es) X.env = (false, eval e X.env) :: starEach es X.env := by rfl) : PAT X (e :: es) (tCons te ta) := pat_cons (CwR.PET.of he) hr hs
end
end Sw
/-! Lists beside the empty one; rules within a comprehension. -/
namespace Sw
open PySem PySem.Spec PyProof.Rows L2
def rNeNil (K : PySem.W.Frag) : R2 := fun x y H Q => ∃ p q xs, x = .ref p ∧ y = .ref q ∧ SqL K H p xs ∧ SqL K H q [] ∧ Q (.bl (!decide (xs = []))) H
def rEqNil (K : PySem.W.Frag) : R2 := fun x y H Q => ∃ p q xs, x = .ref p ∧ y = .ref q ∧ SqL K H p xs ∧ SqL K H q [] ∧ Q (.bl (decide (xs = []))) H
theorem op_neNil {X : Cx} {K : PySem.W.Frag} (hK : X.K = K) (hu : X.A.units + 64 < cLine) : OpR X (compareOp .NotEq) (rNeNil K) := by
  subst hK
  intro pins s σ H x y v u Q I rx ry h
  obtain ⟨p, q, xs, rfl, rfl, hp, hq, k⟩ := h
  cases rx
  cases ry
  obtain ⟨its, rv, p', hz⟩ := I.list hp
  obtain ⟨its2, rv2, p2, hz2⟩ := I.list hq
  cases rv2
  have hu' : X.A.units < cLine := by omega
  have hl := rv.length
  cases xs with
  | nil =>
    cases rv
    refine PySem.SeqAt.RcNeAt.lists (e := fun _ => true) p'.isList p2.isList rfl hu' (fun j h1 h2 => by simp at h1) X.prog X.w _ _ ⟨.bl _, H, I, rfl, k⟩
  | cons x xs =>
    refine PySem.SeqAt.RcNeAt.lists_lengths p'.isList p2.isList (by cases rv; simp) hu' X.prog X.w _ _ ⟨.bl _, H, I, rfl, ?_⟩
    simpa using k
theorem op_eqNil {X : Cx} {K : PySem.W.Frag} (hK : X.K = K) (hu : X.A.units + 64 < cLine) : OpR X (compareOp .Eq) (rEqNil K) := by
  subst hK
  intro pins s σ H x y v u Q I rx ry h
  obtain ⟨p, q, xs, rfl, rfl, hp, hq, k⟩ := h
  cases rx
  cases ry
  obtain ⟨its, rv, p', hz⟩ := I.list hp
  obtain ⟨its2, rv2, p2, hz2⟩ := I.list hq
  cases rv2
  have hu' : X.A.units < cLine := by omega
  have hl := rv.length
  cases xs with
  | nil =>
    cases rv
    refine PySem.SeqAt.RcAt.lists (e := fun _ => true) p'.isList p2.isList rfl hu' (fun j h1 h2 => by simp at h1) X.prog X.w _ _ ⟨.bl _, H, I, rfl, k⟩
  | cons x xs =>
    refine PySem.SeqAt.RcAt.lists_lengths p'.isList p2.isList (by cases rv; simp) hu' X.prog X.w _ _ ⟨.bl _, H, I, rfl, ?_⟩
    simpa using k
theorem call_lenK {X : Cx} {K : PySem.W.Frag} (hK : X.K = K) : CallR X (.builtin "len") (fun xs H Q => ∃ x n, xs = [x] ∧ LenV K x H n ∧ Q (V.int ((n : Nat) : Int)) H) := by
  subst hK
  exact call_lenA
end Sw
/-! Rules by a named heap of the top, for what stands within a comprehension; lcm; zip of tuples. -/
namespace Sw
open PySem PySem.Spec PyProof.Rows L2 StX RZ
section
variable {X : Cx} {K : PySem.W.Frag}
theorem ix_listK (hK : X.K = K) : IxR X (rIxL K) := by
  subst hK
  exact ix_list
theorem ix_tupK (hK : X.K = K) : IxR X (rIxT K) := by
  subst hK
  exact ix_tup
theorem sl_listK (hK : X.K = K) : SlR X (rSlL K) := by
  subst hK
  exact sl_list
theorem sl_tupAK (hK : X.K = K) : SlR X (rSlA K) := by
  subst hK
  exact sl_tupA
theorem op_catAK (hK : X.K = K) : OpR X (binaryOp .Add) (rCatA K) := by
  subst hK
  exact op_catA
theorem pi_listK {tg l : Expr} {tl : TE} (hK : X.K = K) (hl : PE X l tl) : PI X tg l (iList K tl) := by
  subst hK
  exact pi_list hl
theorem pi_tupK {tg l : Expr} {tl : TE} (hK : X.K = K) (hl : PE X l tl) : PI X tg l (iTup K tl) := by
  subst hK
  exact pi_tup hl
def rTupOf (K : PySem.W.Frag) : List V → Hp → VK → Prop := fun xs H Q => ∃ p ys, xs = [.ref p] ∧ ((SqL K H p ys ∧ ∀ l, H l = none → Q (.ref l) (upd H l (.tup ys))) ∨ (SqT K H p ys ∧ Q (.ref p) H))
theorem call_tupK (hK : X.K = K) : CallR X (.type "tuple") (rTupOf K) := by
  subst hK
  exact call_tuple_of
theorem pa_starK {e : Expr} {es : List Expr} {te : TE} {t : TA} {p : Pos} (hK : X.K = K) (he : PE X e te) (hr : PA X es t) (hs : starEach (.Starred e p :: es) X.env = (true, eval e X.env) :: starEach es X.env := by rfl) : PA X (.Starred e p :: es) (tStar K te t) := by
  subst hK
  exact pa_star he hr hs
def rLcm : List V → Hp → VK → Prop := fun vs H Q => ∃ a b : Int, vs = [.int a, .int b] ∧ 0 < a ∧ 0 < b ∧ a.natAbs < 2 ^ 3000 ∧ b.natAbs < 2 ^ 3000 ∧ Q (.int ((Nat.lcm a.natAbs b.natAbs : Nat) : Int)) H
theorem lcm_le_mul {a b : Nat} (hb : 0 < b) (ha : 0 < a) : Nat.lcm a b ≤ a * b := by
  unfold Nat.lcm
  exact Nat.div_le_self _ _
theorem cr_lcm : CallR X (.builtin "math.lcm") rLcm := by
  intro pins s σ H vs us Q I r h
  obtain ⟨a, b, rfl, ha0, hb0, ha, hb, q⟩ := h
  obtain ⟨t, u, rfl⟩ := Vals.int2 r
  have l1 : (max 1 a.natAbs).log2 < 3000 := PySem.Flt.log2_lt_of (by decide) (by
    rcases Nat.le_total 1 a.natAbs with z | z
    · rw [Nat.max_eq_right z]
      exact ha
    · omega)
  have l2 : (max a.natAbs b.natAbs).log2 < 3000 := PySem.Flt.log2_lt_of (by decide) (by
    rcases Nat.le_total a.natAbs b.natAbs with z | z
    · rw [Nat.max_eq_right z]
      exact hb
    · rw [Nat.max_eq_left z]
      exact ha)
  have e1 : Nat.lcm 1 a.natAbs = a.natAbs := Nat.lcm_one_left _
  have sz : ((((Nat.lcm 1 a.natAbs).lcm b.natAbs : Nat) : Int)).natAbs.log2 < bitsLine := by
    rw [e1, Int.natAbs_natCast]
    have h6 : Nat.lcm a.natAbs b.natAbs < 2 ^ (3000 + 3000) := by
      rw [Nat.pow_add]
      exact Nat.lt_of_le_of_lt (lcm_le_mul (by omega) (by omega)) (Nat.mul_lt_mul'' ha hb)
    exact Nat.lt_of_lt_of_le (PySem.Flt.log2_lt_of (by decide) h6) (by decide)
  have key := PySem.W.mg_run_lcm a t b u (by omega) (by omega) sz
  refine PySem.call_function_meets PySem.W.MGF.kind_lcm PySem.W.MGF.plain_lcm PySem.W.MGF.entry_lcm (PySem.W.MGF.args_lcm _ _) key.meets ?_
  refine ⟨.int _, H, I.tok _, ⟨_, rfl⟩, ?_⟩
  rw [e1]
  exact q
end
section
variable {K : PySem.W.Frag} {a b : Addr} {xs ys : List V}
theorem walk_zipT {n : Nat} (hn : n = min xs.length ys.length) : Walk (ItzT K a b) n (fun H => SqT K H a xs ∧ SqT K H b ys) (YPair (fun i => xs[i]?) (fun i => ys[i]?)) := by
  subst hn
  refine ⟨fun i _ hi q => ?_, fun _ q => ⟨xs, ys, q.1, q.2, by omega⟩, fun i H v H' _ q y => ?_⟩
  · have h1 : i < xs.length := by omega
    have h2 : i < ys.length := by omega
    exact ⟨xs, ys, xs[i], ys[i], q.1, q.2, by simp [h1], by simp [h2]⟩
  · obtain ⟨T, x, z, h1, h2, h3, h4, h5⟩ := y
    exact ⟨T, x, z, h1, h2, h3, h4 xs q.1, h5 ys q.2⟩
end
end Sw
/-! enumerate over a tuple. -/
namespace Sw
open PySem PySem.Spec PyProof.Rows L2
set_option maxHeartbeats 2000000 in
theorem enumB_new {v : Value} {o : Obj} {W : Heap → Prop} (B : Begins v o W) :
    Meets (Builtin.«enumerate.__new__» ⟨[.type "enumerate", v], []⟩) (fun _ R s => W s.heap ∧ R (.ok (.ret (.ref (s.heap.push o).objs.size)))
      { s with heap := (s.heap.push o).push { cls := .type "enumerate", data := .fields #[.none, .bool false, .ref s.heap.objs.size, rawInt 0, .none, .none] } }) := by
  refine .of_wp fun prog w A R s h => ?_
  obtain ⟨hp, gg, dd, tk, os⟩ := s
  obtain ⟨hW, hR⟩ := h
  have isub := sub_enumerate
  have step : ∀ {A2 : Around} {E2 : Value → Shared → Prop} {Q2 : Value → Shared → Prop}, Q2 (.ref hp.objs.size) ⟨hp.push o, gg, dd, tk, os⟩ → wpAny (model prog w) A2 (pyIter v) Q2 E2 ⟨hp, gg, dd, tk, os⟩ := fun z => B.iter prog w _ _ ⟨hp, gg, dd, tk, os⟩ _ hW z
  wp_walk using step
  refine wpAny_stack_any fun stk => wpAny_pure ?_
  split
  · rename_i c1 _ _ _ _ _
    cases (c1 == Value.type "enumerate") <;> (wp_walk using step; exact ⟨_, rfl, hR⟩)
  · wp_walk using step
    exact ⟨_, rfl, hR⟩
theorem call_enumB {prog : Program} {w : World} {A : Around} {E : Value → Shared → Prop} {s : Shared} {v : Value} {o : Obj} {W : Heap → Prop} {Q : Value → Shared → Prop} (B : Begins v o W) (hW : W s.heap)
    (k : ∀ h2, IsEnum h2 (s.heap.objs.size + 1) s.heap.objs.size 0 .none → h2.get? s.heap.objs.size = some o → (∀ b ob, s.heap.get? b = some ob → h2.get? b = some ob) → Q (.ref (s.heap.objs.size + 1)) { s with heap := h2 }) :
    wpAny (model prog w) A (call (.type "enumerate") [v]) Q E s := by
  refine callType_new F.called_enumerate (by decide) (F.typeCall_enumerate_1 _) (F.newCall_enumerate_1 _) (fun ob => F.args_object_init_2 ob _) F.entry_enumerate_new (enumB_new B) ⟨hW, ?_⟩
  have size1 : (s.heap.push o).objs.size = s.heap.objs.size + 1 := Heap.size_push ..
  show _ ∧ _
  rw [size1]
  have isE : IsEnum ((s.heap.push o).push { cls := .type "enumerate", data := .fields #[.none, .bool false, .ref s.heap.objs.size, rawInt 0, .none, .none] }) (s.heap.objs.size + 1) s.heap.objs.size 0 .none := by
    have z := Heap.get?_push_size (s.heap.push o) (o := { cls := .type "enumerate", data := .fields #[.none, .bool false, .ref s.heap.objs.size, rawInt 0, .none, .none] }) rfl
    rw [size1] at z
    exact z
  exact ⟨⟨_, isE, rfl⟩, k _ isE (Heap.get?_push_of_some _ (Heap.get?_push_size _ B.free)) fun b ob z => Heap.get?_push_of_some _ (Heap.get?_push_of_some _ z)⟩
/-- the tuple at a, each item in a new pair -/
def IteT (K : PySem.W.Frag) (a : Addr) : It where
  go i H := ∃ (xs : List V) (x : V), SqT K H a xs ∧ xs[i]? = some x
  yld i H v H' := ∃ T x, v = .ref T ∧ H T = none ∧ H' = upd H T (.tup [.int (i : Nat), x]) ∧ ∀ xs, SqT K H a xs → xs[i]? = some x
  stop i H := ∃ xs : List V, SqT K H a xs ∧ xs.length = i
theorem tup_ne_enum {h : Heap} {e it a : Addr} {i : Int} {old : Value} {its : Array Value} (he : IsEnum h e it i old) (ht : h.IsTuple a its) : a ≠ e := fun z => by
  obtain ⟨ob, e1, c1, _⟩ := ht
  have e2 : h.get? e = some _ := he
  rw [z, e2] at e1
  cases e1
  exact absurd (Value.type.inj c1) (by decide)
theorem tup_ne_iter {h : Heap} {it a t : Addr} {i : Nat} {its : Array Value} (hi : h.IsTupleIter it t i) (ht : h.IsTuple a its) : a ≠ it := fun z => by
  obtain ⟨ob, e1, c1, _⟩ := ht
  obtain ⟨ob2, e2, c2, _⟩ := hi
  rw [z, e2] at e1
  cases e1
  rw [c2] at c1
  exact absurd (Value.type.inj c1) (by decide)
theorem turn_enumT {P : Program} {w : World} {K : PySem.W.Frag} {elts : List Expr} {kk : Nat} {tpos : Pos} (a e it : Addr) :
    Turn P w K (.Tuple elts kk tpos) (IteT K a) [e, it] e (fun i h => (∃ old, IsEnum h e it ((i : Nat) : Int) old) ∧ h.IsTupleIter it a i ∧ e ≠ it) := by
  refine ⟨by simp, ?_, ?_, ?_, ?_, ?_⟩
  · rintro i h ⟨⟨old, he⟩, ⟨o, ho, _, hd⟩, _⟩ b hb
    rcases (show b = e ∨ b = it by simpa using hb) with rfl | rfl
    · exact ⟨_, he, fun v q => nomatch q⟩
    · exact ⟨o, ho, fun v q => by rw [hd] at q; cases q⟩
  · rintro i h h' ⟨⟨old, he⟩, hi, hne⟩ k
    exact ⟨⟨old, k e (by simp) _ he⟩, hi.at fun o q => k it (by simp) o q, hne⟩
  · intro X hP hw hK hc i pins s σ H E I hf st hg
    subst hP hw hK
    obtain ⟨⟨old, he⟩, hit, hne⟩ := st
    obtain ⟨xs, x, hq, hx⟩ := hg
    obtain ⟨its, rv, p, _⟩ := I.tuple hq
    obtain ⟨u, hu, ru⟩ := rv.get hx
    have p2 : s.heap.IsTuple a its.toArray := p
    have ae := tup_ne_enum he p2
    have ai := tup_ne_iter hit p2
    have hel : e < s.heap.objs.size := Heap.lt_size he
    have hu2 : its.toArray[i]? = some u := by simpa using hu
    have hil : i < its.toArray.size := (Array.getElem?_eq_some_iff.mp hu2).1
    have DD := Draws.tuple (prog := X.prog) (w := X.w) (A := X.A.in1) (I.ok.hd hc) it a ai its.toArray
    refine wpAny_pyNext_enum_itemD DD he ⟨hit, p2⟩ hil hne (by simp only [List.mem_cons, List.not_mem_nil, or_false, not_or]; exact ⟨hne, Ne.symm ae⟩) fun y h' tk hy ho hst hT hsz hk => ?_
    have ey : y = u := by
      rw [hu2] at hy
      exact (Option.some.inj hy).symm
    subst ey
    refine ⟨_, rfl, wpAny_letOwnedTupleGo_enum (s := { s with heap := h', toks := tk + 1 }) ho fun h3 he3 sb => ?_⟩
    have hT3 : h3.get? s.heap.objs.size = some { cls := .type "tuple", data := .seq #[.int i tk, y] } := by
      rw [← hT]
      exact sb.2 _ (Nat.ne_of_gt hel)
    have fresh : ObjOk X.prog X.w (upd H s.heap.objs.size (.tup [.int (i : Nat), x])) h3 s.heap.objs.size (.tup [.int (i : Nat), x]) :=
      ⟨by show 2 ≤ sizeLine; decide, [.int i tk, y], .cons ⟨_, rfl⟩ (.cons ru .nil), ⟨_, hT3, rfl, _, rfl⟩⟩
    have stay : ∀ b ob, b ∉ [e, it] → s.heap.get? b = some ob → h3.get? b = some ob := fun b ob hb q => by
      have b1 : b ≠ e := fun z => hb (by simp [z])
      have b2 : b ≠ it := fun z => hb (by simp [z])
      rw [sb.2 b b1]
      exact hk b ob b1 b2 q
    have I1 : Inv X pins σ (upd H s.heap.objs.size (.tup [.int (i : Nat), x])) { s with heap := h3, toks := tk + 1 } := I.turnedNew (ch := [e, it]) stay hf (Nat.le_refl _) fresh
    refine ⟨.ref s.heap.objs.size, _, I1, rfl, ⟨_, x, rfl, I.hok.fresh (Nat.le_refl _), rfl, fun ys hy => by rw [I.tuple_inj hy hq]; exact hx⟩, ⟨⟨y, ?_⟩, hst.1.at fun ob q => (sb.2 it (Ne.symm hne)).trans q, hne⟩, fun b hb => ?_⟩
    · rw [show ((i + 1 : Nat) : Int) = (i : Int) + 1 by omega]
      exact he3
    · have hb2 : b < s.heap.objs.size := by
        rcases (show b = e ∨ b = it by simpa using hb) with rfl | rfl
        · exact hel
        · obtain ⟨ob, q, _⟩ := hit
          exact Heap.lt_size q
      rw [upd_ne (Nat.ne_of_lt hb2)]
      exact (hf b hb).1
  · intro X hP hw hK hc i pins s σ H E I hf st hg
    subst hP hw hK
    obtain ⟨⟨old, he⟩, hit, hne⟩ := st
    obtain ⟨xs, hq, hx⟩ := hg
    obtain ⟨its, rv, p, _⟩ := I.tuple hq
    have p2 : s.heap.IsTuple a its.toArray := p
    obtain ⟨f0, f1, f2, f3, f4, f5⟩ := hf it (by simp)
    have DD := Draws.tuple (prog := X.prog) (w := X.w) (A := X.A.in1) (I.ok.hd hc) it a (tup_ne_iter hit p2) its.toArray
    have en : i = its.toArray.size := by
      have := rv.length
      rw [List.size_toArray]
      omega
    rw [en] at hit
    exact wpAny_pyNext_enum_endD DD he ⟨hit, p2⟩ fun h' eb => ⟨rfl, I.turned (t' := s.toks) (fun b o hb q => eb b o hb q) f0 f1 f3 f4 f5⟩
  · rintro A i s Q E ⟨⟨_, he⟩, _⟩ h
    exact wpAny_pyIter_enum he h
def iEnumT (K : PySem.W.Frag) (ta : TA) : TI := fun σ H R => ta σ H fun vs H1 => ∃ a xs, vs = [.ref a] ∧ SqT K H1 a xs ∧ R (IteT K a) H1
theorem pi_enumT {X : Cx} {e : Expr} {ta : TA} {p pos tpos : Pos} {elts : List Expr} {kk : Nat} (hg : Gl X "enumerate") (hm : X.mg "enumerate" = none) (ha : PA X [e] ta) (hs : starEach [e] X.env = [(false, eval e X.env)] := by rfl) :
    PI X (.Tuple elts kk tpos) (.Call (.Name "enumerate" p) [e] [] pos) (iEnumT X.K ta) := by
  constructor
  intro pins s σ H R I h
  refine Call_ (ld_blt I hg hm boot_enumerate (PyProof.Rows.callWith_type1 (thn (ha.run pos pins s σ H _ I h) fun us s1 ⟨vs, H1, I1, r1, a, xs, ex, hq, q⟩ => ?_) hs rfl))
  subst ex
  obtain ⟨u, rfl, r2⟩ := vals1 r1
  cases r2
  obtain ⟨its, rv, pl, _⟩ := I1.tuple hq
  have p2 : s1.heap.IsTuple a its.toArray := pl
  refine call_enumB (begins_tuple a its.toArray) p2 fun h2 he ho hk => wpAny_pyIter_enum he ?_
  have I2 : Inv X pins σ H1 { s1 with heap := h2 } := I1.kept (t' := s1.toks) hk
  refine ⟨s1.heap.objs.size + 1, [s1.heap.objs.size + 1, s1.heap.objs.size], _, _, H1, rfl, I2, turn_enumT a (s1.heap.objs.size + 1) s1.heap.objs.size, ⟨⟨.none, he⟩, ⟨_, ho, rfl, rfl⟩, Nat.succ_ne_self _⟩, fun b hb => ?_, q⟩
  have le : s1.heap.objs.size ≤ b := by
    rcases (show b = s1.heap.objs.size + 1 ∨ b = s1.heap.objs.size by simpa using hb) with z | z
    · exact z ▸ Nat.le_succ _
    · exact z ▸ Nat.le_refl _
  exact I1.fpOk le (I1.hok.fresh le)
theorem walk_enumT {K : PySem.W.Frag} {a : Addr} {xs : List V} : Walk (IteT K a) xs.length (fun H => SqT K H a xs) (YPair (fun i => some (.int (i : Nat))) (fun i => xs[i]?)) := by
  refine ⟨fun i H hi q => ⟨xs, xs[i], q, by simp [hi]⟩, fun H q => ⟨xs, q, rfl⟩, fun i H v H' hi q y => ?_⟩
  obtain ⟨T, x, h1, h2, h3, h4⟩ := y
  exact ⟨T, .int (i : Nat), x, h1, h2, h3, rfl, h4 xs q⟩
end Sw
/-! Any datum beside a text: ==, not in. -/
namespace Sw
open PySem PySem.Spec PyProof.Rows L2 PySem.SeqAt
open AutoSeq1 (wpAny_loadPart')
theorem dict_eq_declines_str (l : Addr) (c : Value) (es : Array DictEntry) (ep : Nat) (b : Str) (u : Tok) :
    Meets (Builtin.«dict.__eq__» ⟨[.ref l, .str b u], []⟩) (fun _ R s => s.heap.get? l = some { cls := .type "dict", dict := none, data := .dict es ep, slots := #[] } ∧ R (.ok (.ret .notImplemented)) s) :=
  .of_wp fun prog w A R s h => by obtain ⟨hp, g, d, tk, os⟩ := s; obtain ⟨hl, h⟩ := h; have f1 := F.sub_str_dict; wp_walk using wpAny_loadPart' hl, wpAny_load hl; exact ⟨_, rfl, h⟩
theorem str_eq_declines_dict (b : Str) (u : Tok) (l : Addr) (es : Array DictEntry) (ep : Nat) :
    Meets (Builtin.«str.__eq__» ⟨[.str b u, .ref l], []⟩) (fun _ R s => s.heap.get? l = some { cls := .type "dict", dict := none, data := .dict es ep, slots := #[] } ∧ R (.ok (.ret .notImplemented)) s) :=
  .of_wp fun prog w A R s h => by obtain ⟨hp, g, d, tk, os⟩ := s; obtain ⟨hl, h⟩ := h; wp_walk using wpAny_loadPart' hl, wpAny_load hl; exact ⟨_, rfl, h⟩
section
variable {A : Around} {s : Shared}
theorem rcAt_dict_str {l : Addr} {o : Obj} {es : Array DictEntry} {ep : Nat} (b : Str) (u : Tok) (ho : s.heap.get? l = some o) (hx : o.ExactDict) (hd : o.data = .dict es ep) (hu : A.units < cLine) : RcAt A s (.ref l) (.str b u) false := fun prog w E Q h => by
  obtain ⟨cls, dd, data, sl⟩ := o
  obtain ⟨h1, h2, h3⟩ := hx
  simp only at h1 h2 h3 hd
  subst h1 h2 h3 hd
  exact rc_eq_decline_or (k := false) ⟨_, ho, rfl⟩ (typeIs_str s b u) (by decide) F.sub_str_dict F.slot_dict_eq F.slot_str_eq_refl
    (fun _ hq => call_meets F.slot_dict_eq ⟨_, ho, rfl⟩ F.entry_dict_eq (F.args_dict_eq_2 _ _) (dict_eq_declines_str l (.type "dict") es ep b u) ⟨ho, hq⟩)
    (fun _ hq => call_meets F.slot_str_eq_refl (typeIs_str s b u) F.entry_str_eq (F.args_str_eq_2 _ _) (str_eq_declines_dict b u l es ep) ⟨ho, hq⟩)
    (fun _ hq => wpAny_of_eq (rfl : isSame (.ref l) (.str b u) = pure false) hq) (.inr hu) h
theorem rcAt_str_dict {l : Addr} {o : Obj} {es : Array DictEntry} {ep : Nat} (b : Str) (u : Tok) (ho : s.heap.get? l = some o) (hx : o.ExactDict) (hd : o.data = .dict es ep) (hu : A.units < cLine) : RcAt A s (.str b u) (.ref l) false := fun prog w E Q h => by
  obtain ⟨cls, dd, data, sl⟩ := o
  obtain ⟨h1, h2, h3⟩ := hx
  simp only at h1 h2 h3 hd
  subst h1 h2 h3 hd
  exact rc_eq_decline_or (k := false) (typeIs_str s b u) ⟨_, ho, rfl⟩ (by decide) F.sub_dict_str F.slot_str_eq F.slot_dict_eq_refl
    (fun _ hq => call_meets F.slot_str_eq (typeIs_str s b u) F.entry_str_eq (F.args_str_eq_2 _ _) (str_eq_declines_dict b u l es ep) ⟨ho, hq⟩)
    (fun _ hq => call_meets F.slot_dict_eq_refl ⟨_, ho, rfl⟩ F.entry_dict_eq (F.args_dict_eq_2 _ _) (dict_eq_declines_str l (.type "dict") es ep b u) ⟨ho, hq⟩)
    (fun _ hq => wpAny_of_eq (rfl : isSame (.str b u) (.ref l) = pure false) hq) (.inr hu) h
theorem eqAt_str_dict {l : Addr} {o : Obj} {es : Array DictEntry} {ep : Nat} (b : Str) (u : Tok) (ho : s.heap.get? l = some o) (hx : o.ExactDict) (hd : o.data = .dict es ep) (hu : A.units < cLine) : EqAt A s (.str b u) (.ref l) false := fun prog w E Q h => by
  unfold eqBool
  refine wpAny_holding ?_
  refine wpAny_ite_split (fun hab => absurd (eq_of_beq hab) nofun) (fun _ => ?_)
  exact wpAny_bind (rcAt_str_dict b u ho hx hd hu prog w E _ (wpAny_truthy_bool h))
end
/-- the datum is this text -/
def isS (z : Str) : PyData → Bool
  | .str x => decide (x = z)
  | _ => false
def isSin (zs : List Str) : PyData → Bool
  | .str x => decide (x ∈ zs)
  | _ => false
def rEqS (K : PySem.W.Frag) : R2 := fun x y H Q => ∃ mu d z, Dt K mu H x d ∧ y = .str z ∧ Q (.bl (isS z d)) H
def rNotInS (K : PySem.W.Frag) : R2 := fun x y H Q => ∃ mu d zs p, Dt K mu H x d ∧ y = .ref p ∧ SqT K H p (zs.map V.str) ∧ Q (.bl (!isSin zs d)) H
section
variable {X : Cx} {K : PySem.W.Frag}
theorem op_eqS (hK : X.K = K) (hu : X.A.units + 64 < cLine) : OpR X (compareOp .Eq) (rEqS K) := by
  subst hK
  intro pins s σ H x y v u Q I rx ry h
  obtain ⟨mu, d, z, hd, rfl, q⟩ := h
  have hu' : X.A.units < cLine := by omega
  have sc := fun (a : scal x (.str z) = true) (b : Q (.bl (decide (x = V.str z))) H) => op_eq pins s σ H x (.str z) v u Q I rx ry ⟨a, b⟩
  cases hd with
  | non => exact sc rfl q
  | bl b => exact sc rfl q
  | int i => exact sc rfl q
  | str w =>
    refine sc rfl ?_
    rw [show decide (V.str w = V.str z) = decide (w = z) by rw [Bool.eq_iff_iff]; simp]
    exact q
  | lst _ rd _ =>
    cases rx
    obtain ⟨t, rfl⟩ := ry
    obtain ⟨its, rv, p, _⟩ := I.list (Rd.sqL rd)
    exact RcAt.list_str z t p.isList hu' X.prog X.w _ _ ⟨.bl _, H, I, rfl, q⟩
  | tup rd _ =>
    cases rx
    obtain ⟨t, rfl⟩ := ry
    obtain ⟨its, rv, p, _⟩ := I.tuple (Rd.sqT rd)
    exact RcAt.tuple_str z t p hu' X.prog X.w _ _ ⟨.bl _, H, I, rfl, q⟩
  | tupK rd _ =>
    cases rx
    obtain ⟨t, rfl⟩ := ry
    obtain ⟨its, rv, p, _⟩ := I.tuple (KTup.sqT rd)
    exact RcAt.tuple_str z t p hu' X.prog X.w _ _ ⟨.bl _, H, I, rfl, q⟩
  | @dct a kvs _ _ rd _ =>
    cases rx
    obtain ⟨t, rfl⟩ := ry
    have zo : ObjOk X.prog X.w H s.heap a (.dK kvs) := rd.ok I.hok
    obtain ⟨_, _, vs, rel, o, es, ep, ho, hx, hdd, _⟩ := zo
    exact rcAt_dict_str z t ho hx hdd hu' X.prog X.w _ _ ⟨.bl _, H, I, rfl, q⟩
/-- which of the texts -/
def eqS (d : PyData) : Value → Bool
  | .str z _ => isS z d
  | _ => false
theorem op_notInT (hK : X.K = K) (hu : X.A.units + 64 < cLine) : OpR X (compareOp .NotIn) (rNotInS K) := by
  subst hK
  intro pins s σ H x y v u Q I rx ry h
  obtain ⟨mu, d, zs, p, hd, rfl, hp, q⟩ := h
  cases ry
  obtain ⟨its, rv, pl, hz⟩ := I.tuple hp
  have hu' : X.A.in1.units < cLine := by
    have : X.A.in1.units = X.A.units + 1 := rfl
    omega
  have it : ∀ y ∈ its, ∃ z t, y = Value.str z t := by
    intro y hy
    obtain ⟨i, hi, e⟩ := List.getElem_of_mem hy
    have hl := rv.length
    obtain ⟨y2, e2, r2⟩ := rv.get (show (zs.map V.str)[i]? = some (V.str (zs[i]'(by rw [List.length_map] at hl; omega))) by
      rw [List.getElem?_map, List.getElem?_eq_getElem (by rw [List.length_map] at hl; omega)]
      rfl)
    rw [List.getElem?_eq_getElem hi, e] at e2
    cases e2
    obtain ⟨t, rfl⟩ := r2
    exact ⟨_, t, rfl⟩
  have an : its.any (eqS d) = isSin zs d := by
    have key : ∀ {zs : List Str} {us : List Value}, Vals (zs.map V.str) us → us.any (eqS d) = isSin zs d := by
      intro zs
      induction zs with
      | nil =>
        intro us r
        cases r
        cases d <;> rfl
      | cons z zs ih =>
        intro us r
        cases r with
        | cons r1 r2 =>
          obtain ⟨t, rfl⟩ := r1
          rw [List.any_cons, ih r2]
          show (isS z d || isSin zs d) = isSin (z :: zs) d
          cases d with
          | str w =>
            show (decide (w = z) || decide (w ∈ zs)) = decide (w ∈ z :: zs)
            rw [Bool.eq_iff_iff]
            simp
          | _ => rfl
    exact key rv
  refine notIn_tupleAt (eqS d) pl (fun y hy => ?_) ⟨.bl _, H, I, rfl, ?_⟩
  · obtain ⟨z, t, rfl⟩ := it y (by simpa using hy)
    show EqAt X.A.in1 s (.str z t) v (isS z d)
    cases hd with
    | non =>
      cases rx
      exact EqAt.str_none z t
    | bl b =>
      cases rx
      exact EqAt.str_bool z t b
    | int i =>
      obtain ⟨t2, rfl⟩ := rx
      exact EqAt.str_int z t i t2
    | str w =>
      obtain ⟨t2, rfl⟩ := rx
      have e := EqAt.str_str (A := X.A.in1) (s := s) z t w t2
      have e2 : isS z (.str w) = (z == w) := by
        show decide (w = z) = (z == w)
        rw [Bool.eq_iff_iff, decide_eq_true_eq, beq_iff_eq]
        exact ⟨Eq.symm, Eq.symm⟩
      rw [e2]
      exact e
    | lst _ rd _ =>
      cases rx
      obtain ⟨its, rv, p, _⟩ := I.list (Rd.sqL rd)
      exact EqAt.str_list z t p.isList hu'
    | tup rd _ =>
      cases rx
      obtain ⟨its, rv, p, _⟩ := I.tuple (Rd.sqT rd)
      exact EqAt.str_tuple z t p hu'
    | tupK rd _ =>
      cases rx
      obtain ⟨its, rv, p, _⟩ := I.tuple (KTup.sqT rd)
      exact EqAt.str_tuple z t p hu'
    | @dct a kvs _ _ rd _ =>
      cases rx
      have zo : ObjOk X.prog X.w H s.heap a (.dK kvs) := rd.ok I.hok
      obtain ⟨_, _, vs, rel, o, es, ep, ho, hx, hdd, _⟩ := zo
      exact eqAt_str_dict z t ho hx hdd hu'
  · rw [List.any_toArray, an]
    exact q
end
end Sw
/-! A tuple beside the empty one. -/
namespace Sw
open PySem PySem.Spec PyProof.Rows L2
def rNeNilT (K : PySem.W.Frag) : R2 := fun x y H Q => ∃ p q xs, x = .ref p ∧ y = .ref q ∧ SqT K H p xs ∧ SqT K H q [] ∧ Q (.bl (!decide (xs = []))) H
def rEqNilT (K : PySem.W.Frag) : R2 := fun x y H Q => ∃ p q xs, x = .ref p ∧ y = .ref q ∧ SqT K H p xs ∧ SqT K H q [] ∧ Q (.bl (decide (xs = []))) H
theorem nil_len {xs : List V} {its : List Value} (rv : Vals xs its) : (its.toArray.size == (#[] : Array Value).size) = decide (xs = []) := by
  have := rv.length
  rw [List.size_toArray, Bool.eq_iff_iff, beq_iff_eq, decide_eq_true_eq]
  show its.length = 0 ↔ _
  rw [← this]
  exact List.length_eq_zero_iff
theorem op_neNilT {X : Cx} {K : PySem.W.Frag} (hK : X.K = K) (hu : X.A.units + 64 < cLine) : OpR X (compareOp .NotEq) (rNeNilT K) := by
  subst hK
  intro pins s σ H x y v u Q I rx ry h
  obtain ⟨p, q, xs, rfl, rfl, hp, hq, k⟩ := h
  cases rx
  cases ry
  obtain ⟨its, rv, p', hz⟩ := I.tuple hp
  obtain ⟨its2, rv2, p2, hz2⟩ := I.tuple hq
  cases rv2
  have hu' : X.A.units < cLine := by omega
  refine PySem.SeqAt.RcNeAt.tuples (e := fun _ => true) p' p2 hu' (fun j h1 h2 => absurd h2 (by simp)) X.prog X.w _ _ ⟨.bl _, H, I, rfl, ?_⟩
  rw [nil_len rv]
  simpa using k
theorem op_eqNilT {X : Cx} {K : PySem.W.Frag} (hK : X.K = K) (hu : X.A.units + 64 < cLine) : OpR X (compareOp .Eq) (rEqNilT K) := by
  subst hK
  intro pins s σ H x y v u Q I rx ry h
  obtain ⟨p, q, xs, rfl, rfl, hp, hq, k⟩ := h
  cases rx
  cases ry
  obtain ⟨its, rv, p', hz⟩ := I.tuple hp
  obtain ⟨its2, rv2, p2, hz2⟩ := I.tuple hq
  cases rv2
  have hu' : X.A.units < cLine := by omega
  refine PySem.SeqAt.RcAt.tuples (e := fun _ => true) p' p2 hu' (fun j h1 h2 => absurd h2 (by simp)) X.prog X.w _ _ ⟨.bl _, H, I, rfl, ?_⟩
  rw [nil_len rv]
  simpa using k
theorem extend_tup (l : Addr) (items : Array Value) (n : Nat) (b : Addr) (items2 : Array Value) (n2 : Nat) (dd : Option Addr) (sl : Array (Option Value)) (hs0 : ¬(!items.isEmpty && Builtin.List.listTooLong (items.size + items2.size)) = true) (hs1 : items.size ≤ sizeLine) (hs2 : items.size + items2.size ≤ sizeLine + 1) :
    Meets (Builtin.«list.extend» ⟨[.ref l, .ref b], []⟩) (fun _ R s => s.heap.get? l = some { cls := .type "list", dict := none, data := .seq items n, slots := #[] } ∧ s.heap.get? b = some { cls := .type "tuple", dict := dd, data := .seq items2 n2, slots := sl } ∧ R (.ok (.ret Value.none)) { s with heap := s.heap.update l (Obj.mapSeq fun x => x ++ items2), toks := s.toks }) :=
  .of_wp fun prog w A R s h => by
    obtain ⟨hp, g, d, tk, os⟩ := s; obtain ⟨hl, hb, h⟩ := h; have f1 := AutoSeq1.idx_int; have f2 := AutoSeq1.sub_tuple_tuple; have f3 := AutoSeq1.sub_list_list; have f4 := AutoSeq1.sub_tuple_list; have f5 := AutoSeq1.sub_list_tuple;
    have hz' : (items ++ items2).size ≤ sizeLine + 1 := by rw [Array.size_append]; exact hs2
    wp_walk using (wpAny_updateSeq hl rfl (hz := hs1) (_hz' := hz')), AutoSeq1.wpAny_loadPart' hl, AutoSeq1.wpAny_loadPart' hb; exact ⟨_, rfl, h⟩
def rExtT (K : PySem.W.Frag) : V → List V → Hp → VK → Prop := fun x vs H Q => ∃ l b xs zs, x = .ref l ∧ vs = [.ref b] ∧ H l = some (.lst xs) ∧ SqT K H b zs ∧ xs.length + zs.length ≤ sizeLine ∧ Q .non (upd H l (.lst (xs ++ zs)))
theorem mt_extendT {X : Cx} {K : PySem.W.Frag} (hK : X.K = K) : MtM X "list.extend" (rExtT K) := by
  subst hK
  intro pins s σ H x vs v us Q I rx rv h
  obtain ⟨l, b, xs, zs, rfl, rfl, hH, hB, hz, q⟩ := h
  cases rx
  obtain ⟨u, rfl, ru⟩ := rv.one
  cases ru
  obtain ⟨z, its, n, r, hl, e⟩ := I.lstM hH
  obtain ⟨its2, r2, ⟨⟨cls, dd, data, sl⟩, e2, hc, n2, hd⟩, _⟩ := I.tuple hB
  simp only at hc hd
  subst hc hd
  have hl2 := r2.length
  have hsz : its.toArray.size + its2.toArray.size ≤ sizeLine := by rw [List.size_toArray, List.size_toArray]; omega
  have hlong : ¬ (!its.toArray.isEmpty && Builtin.List.listTooLong (its.toArray.size + its2.toArray.size)) = true := by
    rw [notLongL hsz, Bool.and_false]
    exact Bool.false_ne_true
  refine call_meets F.slot_list_extend ⟨_, e, rfl⟩ F.entry_list_extend (F.args_list_extend_2 _ _)
    (extend_tup l its.toArray n b its2.toArray n2 dd sl hlong (by rw [List.size_toArray]; omega) (by omega)) ⟨e, e2, ?_⟩
  refine ⟨.non, _, I.lset (its' := its ++ its2) hH e (by simp) (r.append r2) ?_, rfl, q⟩
  rw [List.length_append]
  omega
theorem mt_extT {X : Cx} : MtR X "list.extend" (rExtT X.K) := mt_extendT rfl
end Sw
/-! zip of a text and a tuple; dict.update. -/
namespace Sw
open PySem PySem.Spec PyProof.Rows L2
def ItST (K : PySem.W.Frag) (x : Str) (b : Addr) : It where
  go i H := ∃ (ys : List V) (c : Nat) (y : V), SqT K H b ys ∧ x.cps[i]? = some c ∧ ys[i]? = some y
  yld i H v H' := ∃ T c y, v = .ref T ∧ H T = none ∧ H' = upd H T (.tup [.str ⟨#[c]⟩, y]) ∧ x.cps[i]? = some c ∧ ∀ ys, SqT K H b ys → ys[i]? = some y
  stop i H := ∃ ys : List V, SqT K H b ys ∧ (i = x.cps.size ∨ i = ys.length) ∧ i ≤ x.cps.size ∧ i ≤ ys.length
theorem turn_zipST {P : Program} {w : World} {K : PySem.W.Frag} {elts : List Expr} {kk : Nat} {tpos : Pos} {x : Str} {t : Tok} {b z TI TO i1 i2 : Addr} (D : ZipSep2 z TI TO i1 i2 [i1] [i2, b]) (hb : b ≠ i2) :
    Turn P w K (.Tuple elts kk tpos) (ItST K x b) [z, TI, TO, i1, i2] z (fun i h => IsZip h z TI TO .none ∧ IsTupOf2 h TI (.ref i1) (.ref i2) ∧ (∃ a1 a2, IsTupOf2 h TO a1 a2) ∧ h.IsStrIter i1 (strIterType x) x t i ∧ h.IsTupleIter i2 b i) where
  mem := by simp
  obj := fun i h st c hc => by
    obtain ⟨hz, hTI, ⟨x, y, hTO⟩, ⟨o1, e1, _, d1⟩, ⟨o2, e2, _, d2⟩⟩ := st
    have e' : c = z ∨ c = TI ∨ c = TO ∨ c = i1 ∨ c = i2 := by simpa using hc
    rcases e' with q | q | q | q | q
    · rw [q]; exact ⟨_, hz, fun v q => nomatch q⟩
    · rw [q]; exact ⟨_, hTI, fun v q => nomatch q⟩
    · rw [q]; exact ⟨_, hTO, fun v q => nomatch q⟩
    · rw [q]; exact ⟨o1, e1, fun v q => by rw [d1] at q; cases q⟩
    · rw [q]; exact ⟨o2, e2, fun v q => by rw [d2] at q; cases q⟩
  keep := fun i h h' st k => by
    obtain ⟨hz, hTI, ⟨x, y, hTO⟩, h1, h2⟩ := st
    exact ⟨k z (by simp) _ hz, k TI (by simp) _ hTI, ⟨x, y, k TO (by simp) _ hTO⟩, (let ⟨o, e, c, d⟩ := h1; ⟨o, k i1 (by simp) o e, c, d⟩), h2.at fun o q => k i2 (by simp) o q⟩
  item := by
    intro X hP hw hK hc i pins s σ H E I hf st hg
    subst hP hw hK
    obtain ⟨hz, hTI, ⟨x0, y0, hTO⟩, h1, h2⟩ := st
    obtain ⟨ys, c, y, hqy, hx, hy⟩ := hg
    obtain ⟨its2, rv2, p2, _⟩ := I.tuple hqy
    have p3 : s.heap.IsTuple b its2.toArray := p2
    obtain ⟨u2, hu2, ru2⟩ := rv2.get hy
    have hu3 : its2.toArray[i]? = some u2 := by simpa using hu2
    have hzl : z < s.heap.objs.size := Heap.lt_size hz
    have D1 := Draws.text (prog := X.prog) (w := X.w) (A := X.A.in1) (I.ok.hd hc) i1 x t
    have D2 := Draws.tuple (prog := X.prog) (w := X.w) (A := X.A.in1) (I.ok.hd hc) i2 b hb its2.toArray
    refine wpAny_pyNext_zipD2_item D D1 D2 hz hTI hTO h1 ⟨h2, p3⟩ (Array.getElem?_eq_some_iff.mp hx).1 (Array.getElem?_eq_some_iff.mp hu3).1 fun x1 x2 h' tk y1 y2 z' TO' h1' h2' hT hsz hk => ?_
    obtain ⟨c', u1, hc', rfl⟩ := y1
    rw [hx] at hc'
    cases hc'
    have y2 : its2.toArray[i]? = some x2 := y2
    rw [hu3] at y2
    cases y2
    obtain ⟨h2', _⟩ := h2'
    refine ⟨_, rfl, wpAny_letOwnedTupleGo_zip (s := { s with heap := h', toks := tk }) z' fun h'' z'' sb => ?_⟩
    have hT2 : h''.get? s.heap.objs.size = some { cls := .type "tuple", data := .seq #[.str ⟨#[c]⟩ u1, u2] } := (sb.2 _ (Nat.ne_of_gt hzl)).trans hT
    have new : ObjOk X.prog X.w (upd H s.heap.objs.size (.tup [.str ⟨#[c]⟩, y])) h'' s.heap.objs.size (.tup [.str ⟨#[c]⟩, y]) :=
      ⟨by show 2 ≤ sizeLine; decide, [.str ⟨#[c]⟩ u1, u2], .cons ⟨_, rfl⟩ (.cons ru2 .nil), ⟨_, hT2, rfl, _, rfl⟩⟩
    have I1 : Inv X pins σ (upd H s.heap.objs.size (.tup [.str ⟨#[c]⟩, y])) { s with heap := h'', toks := tk } :=
      I.turnedNew (t' := tk) (ch := [z, TI, TO, i1, i2]) (fun c o hb q => (sb.2 c (fun q' => hb (by simp [q']))).trans (hk c o (fun q' => hb (by simp [q'])) (fun q' => hb (by simp [q'])) (fun q' => hb (by simp [q'])) (fun q' => hb (by simp [q'])) q)) hf (Nat.le_refl _) new
    refine ⟨.ref s.heap.objs.size, _, I1, rfl, ⟨_, c, y, rfl, I.hok.fresh (Nat.le_refl _), rfl, hx, fun l hl => by rw [I.tuple_inj hl hqy]; exact hy⟩, ⟨z'', ?_, ⟨.str ⟨#[c]⟩ u1, u2, ?_⟩, ?_, ?_⟩, fun c hcm => ?_⟩
    · exact (sb.2 _ D.TIz).trans (hk _ _ D.TIz D.TITO D.TIi1 D.TIi2 hTI)
    · exact (sb.2 _ D.TOz).trans TO'
    · obtain ⟨o, e, c1, d1⟩ := h1'
      exact ⟨o, (sb.2 _ D.zi1.symm).trans e, c1, d1⟩
    · exact h2'.at fun o q => (sb.2 _ D.zi2.symm).trans q
    · have hlt : c < s.heap.objs.size := by
        have e' : c = z ∨ c = TI ∨ c = TO ∨ c = i1 ∨ c = i2 := by simpa using hcm
        rcases e' with q | q | q | q | q
        · rw [q]; exact hzl
        · rw [q]; exact Heap.lt_size hTI
        · rw [q]; exact Heap.lt_size hTO
        · rw [q]; obtain ⟨_, e1, _⟩ := h1; exact Heap.lt_size e1
        · rw [q]; obtain ⟨_, e2, _⟩ := h2; exact Heap.lt_size e2
      rw [upd_ne (Nat.ne_of_lt hlt)]
      exact (hf c hcm).1
  done := by
    intro X hP hw hK hc i pins s σ H E I hf st hg
    subst hP hw hK
    obtain ⟨hz, hTI, ⟨x0, y0, hTO⟩, h1, h2⟩ := st
    obtain ⟨ys, hqy, hend, l1, l2⟩ := hg
    obtain ⟨its2, rv2, p2, _⟩ := I.tuple hqy
    have p3 : s.heap.IsTuple b its2.toArray := p2
    have ll := rv2.length
    have D1 := Draws.text (prog := X.prog) (w := X.w) (A := X.A.in1) (I.ok.hd hc) i1 x t
    have D2 := Draws.tuple (prog := X.prog) (w := X.w) (A := X.A.in1) (I.ok.hd hc) i2 b hb its2.toArray
    have sz : its2.toArray.size = ys.length := by rw [List.size_toArray, ll]
    exact wpAny_pyNext_zipD2_end D D1 D2 hz hTI hTO h1 ⟨h2, p3⟩ l1 (by rw [sz]; exact l2) (by rw [sz]; exact hend) fun h' tk hk => ⟨rfl, I.turnedL (t' := tk) (ch := [z, TI, TO, i1, i2]) (fun c o hb q =>
      hk c o (fun q' => hb (by simp [q'])) (fun q' => hb (by simp [q'])) (fun q' => hb (by simp [q'])) (fun q' => hb (by simp [q'])) q) hf⟩
  self := fun A i s Q E st h => wpAny_pyIter_zip st.1 h
theorem sepN (n b : Nat) (h : b < n) : ZipSep2 (n + 4) (n + 2) (n + 3) n (n + 1) [n] [n + 1, b] := by
  have two : ∀ c : Nat, c ≠ n + 1 → c ≠ b → ¬ List.Mem c [n + 1, b] := fun c h1 h2 e => by
    have e2 : c ∈ [n + 1, b] := e
    simp only [List.mem_cons, List.not_mem_nil, or_false] at e2
    omega
  have one : ∀ c : Nat, c ≠ n → ¬ List.Mem c [n] := fun c h1 e => by
    have e2 : c ∈ [n] := e
    simp only [List.mem_cons, List.not_mem_nil, or_false] at e2
    omega
  exact { TIz := by show ¬ ((n + 2 : Nat) = n + 4); omega
          TOz := by show ¬ ((n + 3 : Nat) = n + 4); omega
          TITO := by show ¬ ((n + 2 : Nat) = n + 3); omega
          TIi1 := by show ¬ ((n + 2 : Nat) = n); omega
          mem1 := List.mem_cons_self
          zf1 := one _ (by omega)
          Tf1 := one _ (by omega)
          TIi2 := by show ¬ ((n + 2 : Nat) = n + 1); omega
          mem2 := List.mem_cons_self
          zf2 := two _ (by omega) (by omega)
          Tf2 := two _ (by omega) (by omega)
          sep1_2 := two _ (by omega) (by omega)
          sep2_1 := one _ (by omega) }
theorem le5 (n c : Nat) (h : c ∈ [n + 4, n + 2, n + 3, n, n + 1]) : n ≤ c := by
  simp only [List.mem_cons, List.not_mem_nil, or_false] at h
  omega
def iZipST (K : PySem.W.Frag) (ta : TA) : TI := fun σ H R => ta σ H fun vs H1 => ∃ x b ys, vs = [.str x, .ref b] ∧ SqT K H1 b ys ∧ R (ItST K x b) H1
theorem pi_zipST {X : Cx} {e e2 : Expr} {ta : TA} {p pos tpos : Pos} {elts : List Expr} {kk : Nat} (hg : Gl X "zip") (hm : X.mg "zip" = none) (ha : PA X [e, e2] ta)
    (hs : starEach [e, e2] X.env = (false, eval e X.env) :: starEach [e2] X.env := by rfl) (hpl : (backTo pos (starEach [e2] X.env)).any (·.1) = false := by rfl) :
    PI X (.Tuple elts kk tpos) (.Call (.Name "zip" p) [e, e2] [] pos) (iZipST X.K ta) := by
  refine ⟨fun pins s σ H R I h => ?_⟩
  refine Call_ (ld_blt I hg hm PyProof.Rows.boot_zip (PyProof.Rows.callWith_type1 (thn (ha.run pos pins s σ H _ I h) fun us s1 ⟨vs, H1, I1, r1, q1⟩ => ?_) hs hpl))
  obtain ⟨x, b, ys, ex, hqy, q⟩ := q1
  subst ex
  cases r1 with
  | @cons _ u1 _ us1 r1 r2 =>
  obtain ⟨t, rfl⟩ := r1
  cases r2 with
  | @cons _ u2 _ us2 r3 r4 =>
  cases r4
  cases r3
  obtain ⟨its2, rv2, p2, _⟩ := I1.tuple hqy
  have p3 : s1.heap.IsTuple b its2.toArray := p2
  have bl : b < s1.heap.objs.size := by
    obtain ⟨ob, e1, _⟩ := id p3
    exact Heap.lt_size e1
  refine zip_begins2 (begins_text x t) (begins_tuple b its2.toArray) trivial p3 fun h2 hz hTI hTO ho1 ho2 hsz hk => wpAny_pyIter_zip hz ?_
  have I2 : Inv X pins σ H1 { s1 with heap := h2 } := I1.kept (t' := s1.toks) hk
  have D : ZipSep2 (s1.heap.objs.size + 4) (s1.heap.objs.size + 2) (s1.heap.objs.size + 3) s1.heap.objs.size (s1.heap.objs.size + 1) [s1.heap.objs.size] [s1.heap.objs.size + 1, b] := sepN _ _ bl
  refine ⟨s1.heap.objs.size + 4, [s1.heap.objs.size + 4, s1.heap.objs.size + 2, s1.heap.objs.size + 3, s1.heap.objs.size, s1.heap.objs.size + 1], _, _, H1, rfl, I2, turn_zipST (t := t) D (Nat.ne_of_lt (Nat.lt_succ_of_lt bl)), ⟨hz, hTI, ⟨_, _, hTO⟩, ⟨_, ho1, rfl, rfl⟩, ⟨_, ho2, rfl, rfl⟩⟩, fun c hc => ?_, q⟩
  have le : s1.heap.objs.size ≤ c := le5 _ _ hc
  exact I1.fpOk le (I1.hok.fresh le)
theorem walk_zipST {K : PySem.W.Frag} {x : Str} {b : Addr} {ys : List V} {n : Nat} (h1 : n = x.cps.size) (h2 : n = ys.length) : Walk (ItST K x b) n (fun H => SqT K H b ys) (YPair (fun i => (x.cps[i]?).map fun c => V.str ⟨#[c]⟩) (fun i => ys[i]?)) := by
  refine ⟨fun i H hi q => ⟨ys, x.cps[i], ys[i], q, Array.getElem?_eq_getElem (by omega), List.getElem?_eq_getElem (by omega)⟩, fun H q => ⟨ys, q, .inl h1, by omega, by omega⟩, fun i H v H' hi q y => ?_⟩
  obtain ⟨T, c, y0, e1, e2, e3, e4, e5⟩ := y
  exact ⟨T, _, y0, e1, e2, e3, by show (x.cps[i]?).map _ = _; rw [e4]; rfl, e5 ys q⟩
def rUpd : V → List V → Hp → VK → Prop := fun x vs H Q => ∃ d b kvs more, x = .ref d ∧ vs = [.ref b] ∧ H d = some (.dK kvs) ∧ H b = some (.dK more) ∧ d ≠ b ∧ kvs.length + more.length ≤ sizeLine ∧ Q .non (upd H d (.dK (mergeK kvs more)))
theorem mt_update {X : Cx} : MtR X "dict.update" rUpd := by
  intro pins s σ H x vs v us Q I rx rv h
  obtain ⟨d, b, kvs, more, rfl, rfl, hd, hb, ne, hsz, q⟩ := h
  cases rx
  obtain ⟨u, rfl, ru⟩ := rv.one
  cases ru
  obtain ⟨z1, m1, vs1, r1, D1⟩ := dk_of I.hok hd
  obtain ⟨z2, m2, vs2, r2, D2⟩ := dk_of I.hok hb
  refine call_meetsIn PySem.F.slot_dict_update D1.typeIs PySem.F.entry_dict_update (PySem.F.args_dict_update_2 _ _) (meets_dict_update (mixKind X.prog X.w) d b ne m2)
    ⟨vs1, vs2, D1, D2, (by rw [← r1.length, ← r2.length]; exact hsz), fun h' hmm _ hs => ?_⟩
  have hz : (mergeK kvs more).length ≤ sizeLine := Nat.le_trans (length_mergeK more kvs) hsz
  have he : ∃ q, h'.get? d = some q := let ⟨q, _, _, hq, _⟩ := hmm; ⟨q, hq⟩
  exact ⟨.non, _, d_write I (t' := s.toks) (by rw [hd]; exact True.intro) hs he (dk_new hz m1 (r2.merge r1) hmm), rfl, q⟩
end Sw
/-! A tuple, turned about; a text, some times over. -/
namespace Sw
open PySem PySem.Spec PyProof.Rows L2 HT
section
variable {prog : Program} {w : World} {A : Around} {E : Value → Shared → Prop} {s : Shared}
theorem adjust_rev (n : Nat) : Builtin.Slice.sliceAdjust none none (-1) (n : Int) = ((n : Int) - 1, -1) := by
  unfold Builtin.Slice.sliceAdjust
  have h1 : ((-1 : Int) < 0) := by decide
  simp only [h1, if_true]
theorem places_rev (n : Nat) : Builtin.Slice.slicePlaces ((n : Int) - 1) (-1) (-1) = n := by
  unfold Builtin.Slice.slicePlaces
  have h1 : ¬ ((-1 : Int) > 0) := by decide
  simp only [h1, if_false]
  split
  · simp
  · omega
theorem fm_congr {α β : Type} {f g : α → Option β} : ∀ {l : List α}, (∀ x ∈ l, f x = g x) → l.filterMap f = l.filterMap g
  | [], _ => rfl
  | x :: l, h => by
    rw [List.filterMap_cons, List.filterMap_cons, h x List.mem_cons_self, fm_congr fun y hy => h y (List.mem_cons_of_mem _ hy)]
theorem pick_rev (xs : Array Value) : ((List.range xs.size).filterMap fun (m : Nat) => xs[(((xs.size : Int) - 1) + (m : Int) * (-1)).toNat]?).toArray = xs.toList.reverse.toArray := by
  congr 1
  have key : ∀ m : Nat, m < xs.size → xs[(((xs.size : Int) - 1) + (m : Int) * (-1)).toNat]? = xs.toList.reverse[m]? := fun m hm => by
    rw [show (((xs.size : Int) - 1) + (m : Int) * (-1)).toNat = xs.size - 1 - m by omega, List.getElem?_reverse (by rw [Array.length_toList]; exact hm), Array.getElem?_toList, Array.length_toList]
  have e : (List.range xs.size).filterMap (fun (m : Nat) => xs[(((xs.size : Int) - 1) + (m : Int) * (-1)).toNat]?) = (List.range xs.size).filterMap (fun m => xs.toList.reverse[m]?) := fm_congr fun m hm => key m (List.mem_range.mp hm)
  rw [e]
  have e2 : ∀ l : List Value, (List.range l.length).filterMap (fun m => l[m]?) = l := by
    intro l
    induction l with
    | nil => rfl
    | cons x l ih =>
      rw [List.length_cons, List.range_succ_eq_map, List.filterMap_cons]
      show x :: List.filterMap _ (List.map Nat.succ (List.range l.length)) = x :: l
      rw [List.filterMap_map]
      congr 1
  have e3 := e2 xs.toList.reverse
  rw [List.length_reverse, Array.length_toList] at e3
  rw [e3]
theorem getItem_tuple_rev {t sl : Addr} {items : Array Value} {vs : Value} {Q : Value → Shared → Prop} (ht : IsTup s.heap t items) (hs : s.heap.IsSliceOf sl .none .none vs) (ps : IsPart vs (some (-1)))
    (h : Q (.ref s.heap.objs.size) { s with heap := s.heap.push { cls := .type "tuple", data := .seq items.toList.reverse.toArray } })
    (hsz : items.size ≤ sizeLine) : wpAny (model prog w) A (getItem (.ref t) (.ref sl)) Q E s := by
  have hok : sizeOk (.seq items.toList.reverse.toArray) := by
    show items.toList.reverse.toArray.size ≤ sizeLine
    rw [List.size_toArray, List.length_reverse, Array.length_toList]
    exact hsz
  obtain ⟨os, hos, hcs, hds⟩ := id hs
  have hTs : s.TypeIs (.ref sl) "slice" := ⟨os, hos, hcs⟩
  unfold getItem
  try with_reducible refine wpAny_holding ?_
  first | refine wpAny_bind (wpAny_pure ?_) | skip
  refine wpAny_bind (wpAny_sequenceKey ht.typeIs (by decide) ?_)
  refine wpAny_bind (wpAny_callSpecial?_slot (name := Str.ofString "__getitem__") ht.typeIs PyProof.Rows.slot_tuple_getitem
    (wpAny_call_entry PyProof.Rows.slot_tuple_getitem ht.typeIs entry_tuple_getitem ?_ (args_tuple_getitem _ _)))
  show wpAny _ _ (Builtin.Tuple.tupleItemsOf (.ref t) >>= _) _ _ s
  refine wpAny_bind (tupleItemsOf_ ht ?_)
  refine wpAny_bind (wpAny_typeOf hTs ?_)
  rw [if_pos (by decide)]
  have applied : ∀ {Q' : Int × Int × Nat → Shared → Prop} {A' : Around} {E' : Value → Shared → Prop}, Q' ((items.size : Int) - 1, -1, items.size) s → wpAny (model prog w) A' (Builtin.Slice.sliceApplied (.ref sl) (pure (items.size : Int))) Q' E' s := fun {Q' A' E'} q => by
    unfold Builtin.Slice.sliceApplied Builtin.Slice.sliceFields
    refine wpAny_bind (wpAny_bind (wpAny_field hos hds (x := .none) rfl (wpAny_bind (wpAny_field hos hds (x := .none) rfl (wpAny_bind (wpAny_field hos hds (x := vs) rfl (wpAny_pure ?_)))))))
    refine wpAny_bind (slicePart_ ps ?_)
    show wpAny _ _ (if ((-1 : Int) == 0) = true then _ else _) _ _ s
    rw [if_neg (by decide)]
    refine wpAny_bind (slicePart_none (wpAny_bind (slicePart_none (wpAny_bind (wpAny_pure ?_)))))
    show wpAny _ _ (match Builtin.Slice.sliceAdjust none none (-1) (items.size : Int) with | (lo, hi) => pure (lo, (-1 : Int), Builtin.Slice.slicePlaces lo hi (-1))) _ _ s
    rw [adjust_rev]
    show wpAny _ _ (pure ((items.size : Int) - 1, (-1 : Int), Builtin.Slice.slicePlaces ((items.size : Int) - 1) (-1) (-1))) _ _ s
    rw [places_rev]
    exact wpAny_pure q
  refine wpAny_bind (applied ?_)
  have hno : ¬ ((((items.size : Int) - 1) == 0 && (-1 : Int) == 1 && items.size == items.size) = true) := by
    intro q
    rw [Bool.and_eq_true, Bool.and_eq_true] at q
    exact absurd (eq_of_beq q.1.2) (by decide)
  show wpAny _ _ (if (((items.size : Int) - 1) == 0 && (-1 : Int) == 1 && items.size == items.size) = true then _ else _) _ _ s
  rw [if_neg hno, pick_rev]
  first
    | exact wpAny_bind (m := Builtin.Tuple.tupleExact _) (wpAny_newObj_type (wpAny_pure ⟨_, rfl, wpAny_pure h⟩) hok)
    | exact wpAny_bind (m := Builtin.Tuple.tupleExact _) (wpAny_newObj_type (wpAny_bind (wpAny_pure (wpAny_pure ⟨_, rfl, wpAny_pure h⟩))) hok)
    | exact wpAny_bind (wpAny_bind (m := Builtin.Tuple.tupleExact _) (wpAny_newObj_type (wpAny_pure (wpAny_pure ⟨_, rfl, wpAny_pure h⟩)) hok))
    | exact wpAny_bind (wpAny_bind (m := Builtin.Tuple.tupleExact _) (wpAny_newObj_type (wpAny_pure ⟨_, rfl, wpAny_pure h⟩) hok))
end
def tRevT (K : PySem.W.Frag) (te : TE) : TE := fun σ H Q => te σ H fun x H1 => ∃ a xs, x = .ref a ∧ SqT K H1 a xs ∧ ∀ p, H1 p = none → Q (.ref p) (upd H1 p (.tup xs.reverse))
theorem pe_revT {X : Cx} {e : Expr} {te : TE} {k : Nat} {p1 p2 p3 pos : Pos} (he : PE X e te) : PE X (.Subscript e (.Slice none none (some (.UnaryOp .USub (.Constant (.int 1) k p1) p2)) p3) pos) (tRevT X.K te) := by
  refine ⟨fun pins s σ H Q I h => Subscript_ (thn (he.run pins s σ H _ I h) fun v s1 ⟨x, H1, I1, r1, a, xs, ex, hx, q⟩ => ?_)⟩
  subst ex
  cases r1
  have hst : PO X (some (.UnaryOp .USub (.Constant (.int 1) k p1) p2)) (tPart (tUn (rU fun i => .int (-i)) (tC (.int 1)))) := po_some (pe_un un_neg pe_int)
  refine wpAny_Slice (thn (po_none.run pins s1 σ H1 (fun o H2 => o = none ∧ H2 = H1) I1 ⟨rfl, rfl⟩) fun vl s2 ⟨l, H2, I2, pl, el, e2⟩ => ?_)
  subst el e2
  cases pl
  refine thn (po_none.run pins s2 σ H2 (fun o H3 => o = none ∧ H3 = H2) I2 ⟨rfl, rfl⟩) fun vu s3 ⟨u, H3, I3, pu, eu, e3⟩ => ?_
  subst eu e3
  cases pu
  refine thn (hst.run pins s3 σ H3 (fun o H4 => o = some (-1) ∧ H4 = H3) I3 ⟨1, rfl, -1, rfl, rfl, rfl⟩) fun vs s4 ⟨o, H4, I4, ps, eo, e4⟩ => ?_
  subst eo e4
  have I5 : Inv X pins σ H4 { s4 with heap := s4.heap.push { cls := .type "slice", data := .fields #[.none, .none, vs] } } := I4.kept (t' := s4.toks) fun b ob q => Heap.get?_push_of_some _ q
  obtain ⟨its, r, ht, hz⟩ := I5.tuple hx
  have hlen := r.length
  show wpAny (model X.prog X.w) X.A (subscriptTail e (.Slice none none (some (.UnaryOp .USub (.Constant (.int 1) k p1) p2)) p3) (.ref a) (.ref s4.heap.objs.size)) (EP X pins σ Q) X.xe { s4 with heap := s4.heap.push { cls := .type "slice", data := .fields #[.none, .none, vs] } }
  refine tail_any (ops := [.ref a, .ref s4.heap.objs.size]) ht.typeIs (PyProof.Rows.slot_tuple_getitem.lookup) ?_ (by with_unfolding_all rfl)
  refine getItem_tuple_rev ht (Heap.IsSliceOf.new _ .none .none vs) ps ?_ (by rw [List.size_toArray]; omega)
  refine ⟨.ref _, _, I5.laid (t' := s4.toks) (o := .tup xs.reverse) (fun b ob q => Heap.get?_push_of_some _ q) (Nat.le_refl _) ?_, rfl, q _ (I5.hok.fresh (Nat.le_refl _))⟩
  refine ⟨by rw [List.length_reverse]; exact hz, its.reverse, r.reverse, ⟨_, Heap.get?_push_size _ rfl, rfl, 0, ?_⟩⟩
  simp
/-- a text, k times: its length, its letters -/
def rRepQ : R2 := fun x y H Q => ∃ (z : Str) (k : Int), x = .str z ∧ y = .int k ∧ 2 ≤ k ∧ k ≤ 1000 ∧ 1 ≤ z.length ∧ z.length ≤ 1000 ∧ ∀ r : Str, r.length = z.length * k.toNat → (PyData.strOk z = true → PyData.strOk r = true) → Q (.str r) H
theorem rep_all (c : Array Nat) (p : Nat → Bool) (h : c.all p = true) : ∀ m : Nat, ((List.replicate m c).foldl (· ++ ·) #[]).all p = true := fun m => by
  have key : ∀ (m : Nat) (a : Array Nat), a.all p = true → ((List.replicate m c).foldl (· ++ ·) a).all p = true := by
    intro m
    induction m with
    | zero =>
      intro a ha
      simpa using ha
    | succ m ih =>
      intro a ha
      rw [List.replicate_succ, List.foldl_cons]
      exact ih _ (by rw [Array.all_append, ha, h]; rfl)
  exact key m #[] (by simp)
theorem op_repQ {X : Cx} : OpR X (binaryOp .Mult) rRepQ := by
  intro pins s σ H x y v u Q I rx ry h
  obtain ⟨z, k, rfl, rfl, k2, k1, z1, z2, q⟩ := h
  obtain ⟨t, rfl⟩ := rx
  obtain ⟨t', rfl⟩ := ry
  have hm : z.length * k.toNat ≤ 1000000 := Nat.le_trans (Nat.mul_le_mul z2 (show k.toNat ≤ 1000 by omega)) (by decide)
  have hc : (k == 1 || z.length == 0) = false := by
    rw [Bool.or_eq_false_iff, beq_eq_false_iff_ne, beq_eq_false_iff_ne]
    omega
  refine P.mul_str (by rw [decide_eq_false (by omega), decide_eq_false (by omega)]; rfl) (fun _ _ => ?_) (fun _ _ => ?_) ?_
  · have e : (1000 : Int) ≤ (2 ^ 63 - 1) / k := by
      rw [Int.le_ediv_iff_mul_le (by omega)]
      omega
    omega
  · unfold Builtin.Str.tooLong
    have sl := sizeLine_eq
    first
      | (rw [decide_eq_false]; omega)
      | (simp; omega)
  · rw [if_neg (by omega), if_neg (by rw [hc]; exact Bool.false_ne_true)]
    have hz : (⟨(List.replicate k.toNat z.cps).foldl (· ++ ·) #[]⟩ : Str).length = z.length * k.toNat := rep_size z.cps k.toNat
    refine ⟨?_, ⟨.str _, H, I.tok _, ⟨_, rfl⟩, q _ hz fun ho => rep_all z.cps _ ho k.toNat⟩⟩
    have sl := sizeLine_eq
    first
      | (rw [hz]; omega)
      | (show _ ≤ _; rw [hz]; omega)
end Sw
namespace Sw
open PySem PySem.Spec PyProof.Rows L2
/-- entries whose keys are these texts, in order -/
def KeyL : List DictEntry → List Str → Prop
  | [], [] => True
  | e :: r, k :: ks => (∃ t, e.key = .str k t) ∧ KeyL r ks
  | _, _ => False
theorem keyL_find {z : Str} : ∀ {l : List DictEntry} {ks : List Str}, KeyL l ks → (l.find? (·.key.isStr z)).map (·.val) = (ks.zip (l.map (·.val))).lookup z ∧ l.any (·.refKey) = false
  | [], [], _ => ⟨rfl, rfl⟩
  | e :: r, k :: ks, ⟨⟨t, h⟩, q⟩ => by
    obtain ⟨i1, i2⟩ := keyL_find (z := z) q
    have e1 : e.key.isStr z = (k == z) := by rw [h]; rfl
    have e2 : e.refKey = false := by unfold DictEntry.refKey; rw [h]
    refine ⟨?_, ?_⟩
    · rw [List.find?_cons, e1, List.map_cons, List.zip_cons_cons, List.lookup_cons]
      by_cases c : k = z
      · subst c
        rw [beq_self_eq_true]
        rfl
      · have c1 : (k == z) = false := by rw [beq_eq_false_iff_ne]; exact c
        have c2 : (z == k) = false := by rw [beq_eq_false_iff_ne]; exact fun y => c y.symm
        rw [c1, c2]
        exact i1
    · rw [List.any_cons, e2, i2]
      rfl
  | [], _ :: _, h => h.elim
  | _ :: _, [], h => h.elim
theorem nsIn_tab {K : PySem.W.Frag} {d0 : Addr} {c : Value} {od : Option Addr} {es : Array DictEntry} {n : Nat} {sl : Array (Option Value)} {ks : List Str} (l : K.lookup d0 = some ⟨c, od, .dict es n, sl⟩) (h : KeyL es.toList ks) (z : Str) :
    PySem.W.nsIn K d0 z = some ((ks.zip (es.toList.map (·.val))).lookup z) := by
  obtain ⟨i1, i2⟩ := keyL_find (z := z) h
  unfold PySem.W.nsIn
  rw [l]
  show (match es.toList.find? (·.key.isStr z) with
      | some e => some (some e.val)
      | none => if es.toList.any (·.refKey) then none else some none) = _
  rw [← i1, i2]
  cases es.toList.find? (·.key.isStr z) <;> rfl
/-- the values are tuples of texts -/
inductive TabV (K : PySem.W.Frag) : List (Str × List Str) → List Value → Prop
  | nil : TabV K [] []
  | cons {z : Str} {ks : List Str} {a : Addr} {r : List (Str × List Str)} {vs : List Value} : KTup K a (ks.map V.str) → TabV K r vs → TabV K ((z, ks) :: r) (.ref a :: vs)
theorem TabV.get {K : PySem.W.Frag} {z : Str} : ∀ {T : List (Str × List Str)} {vs : List Value}, TabV K T vs → (T.lookup z = none → ((T.map (·.1)).zip vs).lookup z = none) ∧ ∀ ks, T.lookup z = some ks → ∃ a, ((T.map (·.1)).zip vs).lookup z = some (.ref a) ∧ KTup K a (ks.map V.str)
  | [], _, .nil => ⟨fun _ => rfl, fun _ h => nomatch h⟩
  | (k, ks0) :: r, _, .cons (a := a) (vs := vs) h t => by
    obtain ⟨i1, i2⟩ := t.get (z := z)
    rw [List.lookup_cons, List.map_cons, List.zip_cons_cons, List.lookup_cons]
    show ((match z == k with | true => some ks0 | false => r.lookup z) = none → (match z == k with | true => some (Value.ref a) | false => ((r.map (·.1)).zip vs).lookup z) = none) ∧ ∀ ks, (match z == k with | true => some ks0 | false => r.lookup z) = some ks → ∃ a', (match z == k with | true => some (Value.ref a) | false => ((r.map (·.1)).zip vs).lookup z) = some (.ref a') ∧ KTup K a' (ks.map V.str)
    cases z == k with
    | true =>
      refine ⟨fun e => (nomatch e), fun ks e => ?_⟩
      cases e
      exact ⟨a, rfl, h⟩
    | false => exact ⟨i1, i2⟩
theorem kt1 {K : PySem.W.Frag} {a : Addr} {od : Option Addr} {x0 : Str} {t0 : Tok} {k : Nat} {osl : Array (Option Value)} (l : K.lookup a = some ⟨.type "tuple", od, .seq #[.str x0 t0] k, osl⟩) : KTup K a [.str x0] :=
  ⟨_, _, _, l, rfl, rfl, (show 1 ≤ sizeLine by decide), (.cons ⟨_, rfl⟩ .nil)⟩
theorem kt2 {K : PySem.W.Frag} {a : Addr} {od : Option Addr} {x0 x1 : Str} {t0 t1 : Tok} {k : Nat} {osl : Array (Option Value)} (l : K.lookup a = some ⟨.type "tuple", od, .seq #[.str x0 t0, .str x1 t1] k, osl⟩) : KTup K a [.str x0, .str x1] :=
  ⟨_, _, _, l, rfl, rfl, (show 2 ≤ sizeLine by decide), (.cons ⟨_, rfl⟩ (.cons ⟨_, rfl⟩ .nil))⟩
theorem kt3 {K : PySem.W.Frag} {a : Addr} {od : Option Addr} {x0 x1 x2 : Str} {t0 t1 t2 : Tok} {k : Nat} {osl : Array (Option Value)} (l : K.lookup a = some ⟨.type "tuple", od, .seq #[.str x0 t0, .str x1 t1, .str x2 t2] k, osl⟩) : KTup K a [.str x0, .str x1, .str x2] :=
  ⟨_, _, _, l, rfl, rfl, (show 3 ≤ sizeLine by decide), (.cons ⟨_, rfl⟩ (.cons ⟨_, rfl⟩ (.cons ⟨_, rfl⟩ .nil)))⟩
theorem kt4 {K : PySem.W.Frag} {a : Addr} {od : Option Addr} {x0 x1 x2 x3 : Str} {t0 t1 t2 t3 : Tok} {k : Nat} {osl : Array (Option Value)} (l : K.lookup a = some ⟨.type "tuple", od, .seq #[.str x0 t0, .str x1 t1, .str x2 t2, .str x3 t3] k, osl⟩) : KTup K a [.str x0, .str x1, .str x2, .str x3] :=
  ⟨_, _, _, l, rfl, rfl, (show 4 ≤ sizeLine by decide), (.cons ⟨_, rfl⟩ (.cons ⟨_, rfl⟩ (.cons ⟨_, rfl⟩ (.cons ⟨_, rfl⟩ .nil))))⟩
theorem kt5 {K : PySem.W.Frag} {a : Addr} {od : Option Addr} {x0 x1 x2 x3 x4 : Str} {t0 t1 t2 t3 t4 : Tok} {k : Nat} {osl : Array (Option Value)} (l : K.lookup a = some ⟨.type "tuple", od, .seq #[.str x0 t0, .str x1 t1, .str x2 t2, .str x3 t3, .str x4 t4] k, osl⟩) : KTup K a [.str x0, .str x1, .str x2, .str x3, .str x4] :=
  ⟨_, _, _, l, rfl, rfl, (show 5 ≤ sizeLine by decide), (.cons ⟨_, rfl⟩ (.cons ⟨_, rfl⟩ (.cons ⟨_, rfl⟩ (.cons ⟨_, rfl⟩ (.cons ⟨_, rfl⟩ .nil)))))⟩
theorem kt6 {K : PySem.W.Frag} {a : Addr} {od : Option Addr} {x0 x1 x2 x3 x4 x5 : Str} {t0 t1 t2 t3 t4 t5 : Tok} {k : Nat} {osl : Array (Option Value)} (l : K.lookup a = some ⟨.type "tuple", od, .seq #[.str x0 t0, .str x1 t1, .str x2 t2, .str x3 t3, .str x4 t4, .str x5 t5] k, osl⟩) : KTup K a [.str x0, .str x1, .str x2, .str x3, .str x4, .str x5] :=
  ⟨_, _, _, l, rfl, rfl, (show 6 ≤ sizeLine by decide), (.cons ⟨_, rfl⟩ (.cons ⟨_, rfl⟩ (.cons ⟨_, rfl⟩ (.cons ⟨_, rfl⟩ (.cons ⟨_, rfl⟩ (.cons ⟨_, rfl⟩ .nil))))))⟩
end Sw
namespace Sw
open PySem PySem.Spec PyProof.Rows L2
/-- texts in a set that is walked and sorted: m its members, in some order -/
def SetX (P : Program) (w : World) (h : Heap) (a : Addr) (m : List Str) : Prop :=
  ∃ D : PySem.Froz.SD, h.get? a = some (PySem.Froz.sObj "set" D) ∧ PySem.Froz.TxOk P w D m ∧ m.Nodup ∧ m.length < scanBound ∧ Ris D.2.2.place.toList ∧
    (w.params.followText "set-order" = true ∨ D.2.2.led = true)
theorem setX_at {P : Program} {w : World} {h h' : Heap} {a : Addr} {m : List Str} (R : SetX P w h a m) (k : ∀ o, h.get? a = some o → h'.get? a = some o) : SetX P w h' a m := by
  obtain ⟨D, ho, r⟩ := R
  exact ⟨D, k _ ho, r⟩
theorem tail_ris {ep : Nat} {es1 : Array (Int × Value)} {t2 : SetTable} {wd : Bool} (r : Ris t2.place.toList) : Ris (PySem.Froz.tailTx ep es1 t2 wd).2.2.place.toList := by
  unfold PySem.Froz.tailTx
  split
  · exact relayAll_ris _ _ _
  · exact r
theorem tail_led {ep : Nat} {es1 : Array (Int × Value)} {t2 : SetTable} {wd : Bool} : (PySem.Froz.tailTx ep es1 t2 wd).2.2.led = t2.led := by
  unfold PySem.Froz.tailTx
  split
  · exact relayAll_led _ _ _
  · rfl
theorem addTx_ris {hs : Int} {v : Value} {D : PySem.Froz.SD} (r : Ris D.2.2.place.toList) : Ris (PySem.Froz.addTx hs v D).2.2.place.toList := by
  have r1 := layNew_ris D.2.2 D.1 hs v r
  refine tail_ris ?_
  split <;> exact r1
theorem addTx_led {hs : Int} {v : Value} {D : PySem.Froz.SD} : (PySem.Froz.addTx hs v D).2.2.led = D.2.2.led := by
  have r1 := layNew_led D.2.2 D.1 hs v
  refine tail_led.trans ?_
  split <;> exact r1
section
variable {P : Program} {w : World} {A : Around} {E : Value → Shared → Prop} {s : Shared} {a : Addr}
theorem add_old {D : PySem.Froz.SD} {m : List Str} {k : Str} {u : Tok} {Q : Bool → Shared → Prop} (ho : s.heap.get? a = some (PySem.Froz.sObj "set" D)) (F : PySem.Froz.TxOk P w D m) (hk : k ∈ m) (hb : m.length < scanBound)
    (h : Q false s) : wpAny (model P w) A (setAddHashed a (.str k u) (hashStr w k)) Q E s := by
  obtain ⟨es, ep, t⟩ := D
  have hd : (PySem.Froz.sObj "set" (es, ep, t)).data = .set es ep t := rfl
  have hf : t.fits es.size = true := F.fit
  have hel : ElemsOf (strKind P w) es.toList := F.el
  have hb0 : es.size < scanBound := Nat.lt_of_le_of_lt (Nat.le_of_eq F.sz) hb
  have hkey : (strKind P w).is k (.str k u) = true := PySem.Froz.is_str k u
  unfold setAddHashed setAddHashedIn
  refine wpAny_holding (wpAny_bind (wpAny_setState_of ho hd hf ?_))
  dsimp only
  rw [byScan_of rfl hb0 hel]
  simp only [↓reduceIte]
  unfold setAddByScan
  refine wpAny_bind ?_
  refine wpAny_bind (wpAny_rule ?_)
  refine wpAny_bind (wpAny_setScan_of (knd := strKind P w) (k := k) hkey ho hd hf hel ?_)
  cases hr : List.findIdx? (fun e => (strKind P w).is k e.2) es.toList with
  | none =>
    obtain ⟨e, he, q⟩ := (F.mem k).mp hk
    have c := List.findIdx?_eq_none_iff.mp hr e he
    rw [q] at c
    cases c
  | some j =>
    dsimp only
    exact wpAny_pure (wpAny_pure h)
theorem setX_add {m : List Str} {k : Str} {u : Tok} {Q : Bool → Shared → Prop} (R : SetX P w s.heap a m) (room : m.length + 1 < scanBound)
    (hQ : ∀ h', Heap.SameBut a s.heap h' → SetX P w h' a (if k ∈ m then m else k :: m) → Q (!decide (k ∈ m)) { s with heap := h' }) :
    wpAny (model P w) A (setAddHashed a (.str k u) ((strKind P w).hash k)) Q E s := by
  obtain ⟨D, ho, F, nd, hb, hr, hl⟩ := R
  show wpAny (model P w) A (setAddHashed a (.str k u) (hashStr w k)) Q E s
  by_cases hk : k ∈ m
  · refine add_old ho F hk hb ?_
    have q := hQ s.heap (Heap.SameBut.refl a s.heap)
    rw [if_pos hk, decide_eq_true hk] at q
    exact q ⟨D, ho, F, nd, hb, hr, hl⟩
  · refine PySem.Froz.add_x ho F hk room ?_
    have q := hQ (s.heap.update a (fun _ => PySem.Froz.sObj "set" (PySem.Froz.addTx (hashStr w k) (.str k u) D))) (Heap.SameBut.update s.heap a _)
    rw [if_neg hk, decide_eq_false hk] at q
    exact q ⟨_, PySem.Froz.get_upd _ ho rfl, PySem.Froz.add_ok u F, List.nodup_cons.mpr ⟨hk, nd⟩, room, addTx_ris hr, hl.imp id fun z => addTx_led.trans z⟩
theorem setX_fresh {h : Heap} {a : Addr} (ho : h.get? a = some { cls := .type "set", dict := none, data := .set #[] 0 (.fresh 0 0 (!w.params.followText "set-order")) }) : SetX P w h a [] :=
  ⟨(#[], 0, .fresh 0 0 (!w.params.followText "set-order")), ho, PySem.Froz.TxOk.nil rfl, List.nodup_nil, by decide, List.Pairwise.nil, by
    show _ ∨ (!w.params.followText "set-order") = true
    cases w.params.followText "set-order"
    · exact .inr rfl
    · exact .inl rfl⟩
theorem set_update_txs {I : Addr} {fp wr : List Addr} {G : Array GenState → Array GenState → Prop} {n : Nat} {Pv : Nat → Value → Prop} {St : Nat → Shared → Prop} {R : Result → Shared → Prop}
    (W : WalksS P w A.in1 I fp wr G n Pv St) (S : Addr) (hSf : S ∉ fp) (ns : List Str) (hn : n = ns.length) (hb : ns.length + 1 < scanBound) (hval : ∀ i v, Pv i v → ∃ k t, ns[i]? = some k ∧ v = .str k t) :
    ∀ (k i : Nat) (s : Shared), n - i = k → i ≤ n → St i s → (∃ m, m.length ≤ i ∧ (∀ z, z ∈ m ↔ z ∈ ns.take i) ∧ SetX P w s.heap S m) →
      (∀ s' m, Moved (S :: wr) G s s' → m.length ≤ n → (∀ z, z ∈ m ↔ z ∈ ns) → SetX P w s'.heap S m → R (.ok (.ret .none)) s') →
      codeAny (model P w) A (.builtin "set.update.loop" ⟨[.ref S, .ref I], []⟩) R s := by
  have hSw : S ∉ wr := fun h => hSf (W.sub _ h)
  have hsub : ∀ b ∈ wr, b ∈ S :: wr := fun b hb => List.mem_cons_of_mem _ hb
  intro k
  induction k with
  | zero =>
    intro i s hk' hi hst ⟨m, hc, hm0, hS⟩ hR
    have hin : i = n := by omega
    subst hin
    refine codeAny_builtin F.entry_set_update_loop ?_
    rw [Around.under_plainId F.plain_set_update_loop _]
    show wpAny _ A.in1 (pyNext (.ref I) >>= _) _ _ s
    refine wpAny_bind (W.done s _ _ hst fun s' hm => ?_)
    show wpAny _ A.in1 (ret Value.none) _ _ s'
    have e : ns.take i = ns := List.take_of_length_le (by omega)
    rw [e] at hm0
    exact wpAny_pure (hR s' m (hm.mono hsub) hc hm0 (setX_at hS fun o e => hm.heap S o hSw e))
  | succ k ih =>
    intro i s hk' hi hst ⟨m, hc, hm0, hS⟩ hR
    have hlt : i < n := by omega
    refine codeAny_builtin F.entry_set_update_loop ?_
    rw [Around.under_plainId F.plain_set_update_loop _]
    show wpAny _ A.in1 (pyNext (.ref I) >>= _) _ _ s
    refine wpAny_bind (W.item i s _ _ hlt hst fun v s' hP hst' hm => ?_)
    obtain ⟨z, t, hz, rfl⟩ := hval i v hP
    have hS' : SetX P w s'.heap S m := setX_at hS fun o e => hm.heap S o hSw e
    show wpAny _ A.in1 (holding [Value.str z t] (setAdd S (.str z t)) >>= _) _ _ s'
    refine wpAny_bind (wpAny_holding ?_)
    unfold setAdd
    refine wpAny_holding ?_
    refine wpAny_bind ((strKind P w).pyHash (k := z) (PySem.Froz.is_str z t) ?_)
    refine setX_add (s := { s' with toks := s'.toks + 1 }) hS' (by omega) fun h' hsb hS2 => ?_
    have hS3 : (if z ∈ m then m else z :: m).length ≤ i + 1 ∧ ∀ y, y ∈ (if z ∈ m then m else z :: m) ↔ y ∈ ns.take (i + 1) := by
      have e : ns.take (i + 1) = ns.take i ++ [z] := by rw [List.take_add_one, hz] <;> rfl
      rw [e]
      by_cases c : z ∈ m
      · rw [if_pos c]
        refine ⟨by omega, fun y => ?_⟩
        rw [List.mem_append, ← hm0 y, List.mem_singleton]
        exact ⟨.inl, fun q => q.elim id fun q => q ▸ c⟩
      · rw [if_neg c]
        refine ⟨by rw [List.length_cons]; omega, fun y => ?_⟩
        rw [List.mem_append, ← hm0 y, List.mem_singleton, List.mem_cons]
        exact Or.comm
    refine wpAny_pure ⟨plainId_quiet F.plain_set_update_loop _, ih (i + 1) _ (by omega) hlt (W.frame _ s' _ _ hst' (Nat.le_succ _) fun b hb o e => ?_) ⟨_, hS3.1, hS3.2, hS2⟩ fun s'' m2 hm'' hc'' hq'' hS'' => ?_⟩
    · rw [hsb.2 b (fun h : b = S => hSf (by rw [← h]; exact hb))]; exact e
    · refine hR s'' m2 (Moved.trans W.gtrans ((hm.mono hsub).then_heap (Nat.le_succ _) fun b o hb e => ?_) hm'') hc'' hq'' hS''
      rw [hsb.2 b (fun h : b = S => hb (by rw [h]; exact List.mem_cons_self))]; exact e
end
end Sw
namespace Sw
open PySem PySem.Spec PyProof.Rows L2
section
variable {P : Program} {w : World} {A : Around} {E : Value → Shared → Prop} {s : Shared} {a : Addr}
/-- the new set's object -/
def nSet (w : World) : Obj := { cls := .type "set", dict := none, data := .set #[] 0 (.fresh 0 0 (!w.params.followText "set-order")) }
theorem call_setX {l : Addr} {items : Array Value} (ns : List Str) {Q : Value → Shared → Prop} (hh : A.handled = none) (hl : s.heap.IsList l items) (hit : StrsAre items.toList ns) (hb : ns.length + 1 < scanBound)
    (h : ∀ (h' : Heap) (tk : Nat) (m : List Str), SetX P w h' s.heap.objs.size m → m.length ≤ ns.length → (∀ z, z ∈ m ↔ z ∈ ns) → (∀ b o, s.heap.get? b = some o → h'.get? b = some o) → Q (.ref s.heap.objs.size) { s with heap := h', toks := tk }) :
    wpAny (model P w) A (call (.type "set") [.ref l]) Q E s := by
  have hisz : items.size = ns.length := by
    have q := StrsAre.len_eq hit
    rw [Array.length_toList] at q
    exact q
  obtain ⟨c, tl, hmro⟩ := F.called_set.mro
  have hmade := F.called_set.made
  have hsub := F.called_set.sub
  have h1 := F.called_set.notType
  have h2 := F.called_set.canCreate
  have hct := F.typeCall_set_1 (.ref l)
  have hS : (s.heap.push (nSet w)).get? s.heap.objs.size = some (nSet w) := Heap.get?_push_size _ rfl
  have hT : Shared.TypeIs { s with heap := s.heap.push (nSet w) } (.ref s.heap.objs.size) "set" := ⟨_, hS, rfl⟩
  have hz1 : (s.heap.push (nSet w)).objs.size = s.heap.objs.size + 1 := Heap.size_push ..
  have hli := F.called_set.init.lookup
  have hbi := F.called_set.init.bind (.ref s.heap.objs.size)
  refine wpAny_call (codeAny_of_tree ?_)
  show wpAny _ _ (callAny (.type "set") _) _ _ _
  refine wpAny_pure ⟨Code.quiet_builtin _ (by decide +kernel), codeAny_builtin F.entry_type_call ?_⟩
  rw [Around.under_plain (weight_type_call_type "set" [.ref l] []) rfl]
  repeat (any_goals (first | assumption | wp_step))
  refine codeAny_mono (code_set_led1 (.ref l) (E := E) (Q₁ := fun obj s₁ => obj = .ref s.heap.objs.size ∧ s₁ = { s with heap := s.heap.push (nSet w) }) ⟨rfl, rfl⟩) fun r s₁ hr => ?_
  cases r with
  | error e => exact hr
  | ok fl =>
    cases fl with
    | ret obj =>
      obtain ⟨rfl, rfl⟩ := hr
      repeat (any_goals (first | assumption | wp_step))
      refine codeAny_mono (codeAny_call_builtin (R := wants (fun r s₂ => r = .none ∧ ∃ h' tk m, s₂ = { s with heap := h', toks := tk } ∧ SetX P w h' s.heap.objs.size m ∧ m.length ≤ ns.length ∧ (∀ z, z ∈ m ↔ z ∈ ns) ∧
          (∀ b o, s.heap.get? b = some o → h'.get? b = some o)) E) F.called_set.init.plain F.entry_set_init (check_set_init_1 hT ?_)) fun r₂ s₂ hr₂ => ?_
      · obtain ⟨ol, hol, hcl, nl, hdl⟩ := hl
        obtain ⟨ocls, odict, odata, oslots⟩ := ol
        simp only at hcl hdl
        subst hcl; subst hdl
        have hol' : (s.heap.push (nSet w)).get? l = some { cls := .type "list", dict := odict, data := .seq items nl, slots := oslots } := Heap.get?_push_of_some _ hol
        have hsls := F.sub_list_set
        have hslf := F.sub_list_frozenset
        have hne : (Value.type "list" == Value.type "dict") = false := by decide
        have hl1 : (s.heap.push (nSet w)).IsList l items := ⟨_, hol', rfl, nl, rfl⟩
        have hlS : l < s.heap.objs.size := Heap.lt_size hol
        have hh3 : A.in1.in1.in1.handled = none := by simp [hh]
        have hneI : l ≠ (s.heap.push (nSet w)).objs.size := by rw [hz1]; exact Nat.ne_of_lt (Nat.lt_succ_of_lt hlS)
        have hSf : s.heap.objs.size ∉ [(s.heap.push (nSet w)).objs.size, l] := by
          rw [hz1]; simp only [List.mem_cons, List.not_mem_nil, or_false, not_or]; exact ⟨Nat.ne_of_lt (Nat.lt_succ_self _), Nat.ne_of_gt hlS⟩
        have hval : ∀ (i : Nat) (v : Value), items[i]? = some v → ∃ k t, ns[i]? = some k ∧ v = .str k t := fun i v hv => by
          have hi : i < ns.length := by rw [← hisz]; exact (Array.getElem?_eq_some_iff.mp hv).1
          obtain ⟨t, e⟩ := SS.strs_at hit i v (by rw [Array.getElem?_toList]; exact hv)
          refine ⟨ns[i], t, List.getElem?_eq_getElem hi, ?_⟩
          rw [e, List.getD_eq_getElem?_getD, List.getElem?_eq_getElem hi] <;> rfl
        unfold Builtin.«set.__init__» noKeywords Builtin.Frozenset.updateFrom
        generalize hPI : pyIter = PI
        wp_walk
        subst hPI
        refine wpAny_pyIter_list hl1 ?_
        refine wpAny_bind (wpAny_runValue ?_)
        refine set_update_txs ((Walks.list hh3 _ l hneI items).toS) s.heap.objs.size
          hSf ns hisz hb hval (items.size - 0) 0 _ (by omega) (Nat.zero_le _)
          ⟨⟨_, Heap.get?_push_size _ rfl, rfl, rfl⟩, (hl1.push _)⟩ ⟨[], Nat.le_refl 0, fun z => Iff.rfl, setX_fresh (Heap.get?_push_of_some _ hS)⟩ fun s' m hm hc' hq' hS' => ?_
        obtain ⟨h', g2, d', tk', os'⟩ := s'
        have eg : g2 = s.gens := hm.gens
        have ed : d' = s.drawn := hm.drawn
        have eo : os' = s.os := hm.os
        subst eg; subst ed; subst eo
        show wpAny _ _ _ _ _ _
        refine wpAny_pure ?_
        show wpAny _ _ (ret Value.none) _ _ _
        rw [hisz] at hc'
        refine wpAny_pure ⟨rfl, h', tk', m, rfl, hS', hc', hq', fun b o e => ?_⟩
        have hb0 : b < s.heap.objs.size := Heap.lt_size e
        refine hm.heap b o ?_ (Heap.get?_push_of_some _ (Heap.get?_push_of_some _ e))
        rw [hz1]; simp only [List.mem_cons, List.not_mem_nil, or_false, not_or]; exact ⟨Nat.ne_of_lt hb0, Nat.ne_of_lt (Nat.lt_succ_of_lt hb0)⟩
      · cases r₂ with
        | error e => exact hr₂
        | ok fl₂ =>
          cases fl₂ with
          | ret r =>
            obtain ⟨rfl, h', tk, m, rfl, hS', hc', hq', hk'⟩ := hr₂
            repeat (any_goals (first | assumption | wp_step))
            exact h _ _ _ hS' hc' hq' hk'
          | _ => exact hr₂.elim
    | _ => exact hr.elim
end
/-- the state of a set of texts -/
def SetXO (P : Program) (w : World) (a : Addr) (m : List Str) : HO := .ext fun h => SetX P w h a m
section
variable {X : Cx}
theorem setXO_new {P : Program} {w : World} {H : Hp} {h : Heap} {a : Addr} {m : List Str} (R : SetX P w h a m) : ObjOk P w H h a (SetXO P w a m) := by
  have ⟨D, ho, _⟩ := R
  exact ⟨R, ⟨_, ho⟩, fun h1 h2 p k => setX_at p k⟩
/-- set(xs), xs a list of texts -/
def rSetX (K : PySem.W.Frag) (P : Program) (w : World) : List V → Hp → VK → Prop := fun vs H Q => ∃ (l : Addr) (xs : List Str), vs = [V.ref l] ∧ SqL K H l (xs.map V.str) ∧ xs.length < 64 ∧
  ∀ (p : Addr) (m : List Str), m.Nodup → m.length < 64 → (∀ z, z ∈ m ↔ z ∈ xs) → H p = none → Q (.ref p) (upd H p (SetXO P w p m))
theorem cr_setX (hc : X.calm = true) : CallR X (.type "set") (rSetX X.K X.prog X.w) := by
  intro pins s σ H vs us Q I r h
  obtain ⟨l, xs, rfl, hl, hf, q⟩ := h
  rw [Vals.ref1 r]
  obtain ⟨its, rv, pl, hz⟩ := I.list hl
  have hn : H s.heap.objs.size = none := I.hok.fresh (Nat.le_refl _)
  refine call_setX (P := X.prog) (w := X.w) xs (I.ok.hd hc) pl.isList (by simpa using strsAre_of rv) (by unfold scanBound; omega) fun h' tk m R hm hq k => ?_
  have nd : m.Nodup := R.elim fun _ z => z.2.2.1
  exact ⟨.ref s.heap.objs.size, upd H s.heap.objs.size (SetXO X.prog X.w s.heap.objs.size m), I.laid (t' := tk) k (Nat.le_refl _) (setXO_new R), rfl, q _ m nd (Nat.lt_of_le_of_lt hm hf) hq hn⟩
/-- the texts of a set's rows -/
theorem strs_rows {P : Program} {w : World} : ∀ (l : List (Int × Value)), ElemsOf (strKind P w) l → ∃ ss, StrsAre (l.map (·.2)) ss ∧ (∀ z, z ∈ ss ↔ ∃ e ∈ l, (strKind P w).is z e.2 = true)
  | [], _ => ⟨[], .nil, fun z => by simp⟩
  | e :: l, h => by
    obtain ⟨ss, h1, h2⟩ := strs_rows l fun x hx => h x (List.mem_cons_of_mem _ hx)
    obtain ⟨⟨k, hk, _⟩, _⟩ := h e List.mem_cons_self
    have hs : ∃ t, e.2 = Value.str k t := by
      have q : Value.isStrOf k e.2 = true := hk
      revert q
      cases e.2 <;> intro q <;> first | (simp [Value.isStrOf] at q; done) | skip
      rename_i y t
      have : y = k := by simpa [Value.isStrOf] using q
      exact ⟨t, by rw [this]⟩
    obtain ⟨t, ht⟩ := hs
    refine ⟨k :: ss, ?_, fun z => ?_⟩
    · rw [List.map_cons, ht]
      exact .cons k t h1
    · rw [List.mem_cons, h2 z]
      constructor
      · rintro (rfl | ⟨x, hx, q⟩)
        · exact ⟨e, List.mem_cons_self, hk⟩
        · exact ⟨x, List.mem_cons_of_mem _ hx, q⟩
      · rintro ⟨x, hx, q⟩
        rcases List.mem_cons.mp hx with y | y
        · subst y
          exact .inl ((strKind P w).inj x.2 z k q hk)
        · exact .inr ⟨x, y, q⟩
end
end Sw
namespace Sw
open PySem PySem.Spec PyProof.Rows L2
theorem perm_few : ∀ (m ss : List Str), m.Nodup → (∀ z, z ∈ m → z ∈ ss) → ss.length ≤ m.length → m.Perm ss
  | [], ss, _, _, h => by
    rw [List.length_eq_zero_iff.mp (Nat.le_zero.mp h)]
  | x :: m, ss, nd, hs, h => by
    obtain ⟨n1, n2⟩ := List.nodup_cons.mp nd
    have hx := hs x List.mem_cons_self
    have p := perm_few m (ss.erase x) n2 (fun z hz => (List.mem_erase_of_ne (show z ≠ x from fun e => n1 (e ▸ hz))).mpr (hs z (List.mem_cons_of_mem _ hz))) (by
      rw [List.length_erase_of_mem hx]
      rw [List.length_cons] at h
      omega)
    exact (p.cons x).trans (List.perm_cons_erase hx).symm
section
variable {P : Program} {w : World} {A : Around} {E : Value → Shared → Prop} {s : Shared} {a : Addr}
theorem sorted_setX {m : List Str} {Q : Value → Shared → Prop} (R : SetX P w s.heap a m) (hh : A.handled = none) (h64 : m.length < 64)
    (hQ : ∀ s' p (out : Array Value) (c : Nat) (ys : List Str), (∀ b o, s.heap.get? b = some o → s'.heap.get? b = some o) → s'.gens = s.gens → s'.os = s.os → s.heap.objs.size ≤ p →
      s'.heap.get? p = some (seqObj "list" out c) → StrsAre out.toList ys → ys.Perm m → sortedS ys = true → Q (.ref p) s') :
    wpAny (model P w) A (call (.builtin "sorted") [.ref a]) Q E s := by
  obtain ⟨⟨es, ep, t⟩, ho, T, nd, hb, hr, hl⟩ := R
  obtain ⟨ss, hss, hmem⟩ := strs_rows (P := P) (w := w) es.toList T.el
  have hsz : es.size = m.length := T.sz
  have hsl : ss.length = m.length := by
    rw [← StrsAre.len_eq hss, List.length_map, Array.length_toList]; exact hsz
  have pm0 : m.Perm ss := perm_few m ss nd (fun z hz => (hmem z).mpr ((T.mem z).mp hz)) (Nat.le_of_eq hsl)
  refine Calls.call_function_entry kind_sorted plain_sorted entry_sorted (args_sorted1 _) ?_
  unfold Builtin.«sorted»
  refine wpAny_bind (m := checkCount "sorted" 1 1 _) (wpAny_pure ?_)
  refine wpAny_bind (collect_set (A := A.in1) hh ⟨_, ho, rfl, rfl⟩ T.fit (Nat.lt_of_le_of_lt (Nat.le_of_eq hsz) hb) hr hl fun s1 vs k1 hz g1 o1 pm => ?_)
  have hvl : vs.length = m.length := by rw [pm.length_eq, List.length_map, Array.length_toList]; exact hsz
  have hS : StrsAre vs (vs.map strOf) := strsAre_map vs fun v hv => hss.all v (pm.mem_iff.mp hv)
  have pk : (vs.map strOf).Perm m := by
    have q := pm.map strOf
    rw [hss.strs] at q
    exact q.trans pm0.symm
  have h64' : vs.length < 64 := by rw [hvl]; exact h64
  have hL : vs.length ≤ sizeLine := by rw [sizeLine_eq]; omega
  refine wpAny_bind (wpAny_newList ?_ hL)
  have hoL : (s1.heap.push (seqObj "list" vs.toArray 0)).get? s1.heap.objs.size = some (seqObj "list" vs.toArray 0) := Heap.get?_push_size _ rfl
  refine wpAny_bind (wpAny_holding (wpAny_call_entry slot_list_sort ⟨_, hoL, rfl⟩ entry_list_sort
    (list_sort_treeKAny strKind_oneLt hoL hS.keysOf (fun v₁ v₂ rest e => keyKind_strs (by rw [← e]; exact hS)) hL fun st' hp hs => ⟨_, rfl, ?_⟩) (args_list_sort _)))
  obtain ⟨ys, a1, a2, a3⟩ := sorted_out_str hS hp hs
  obtain ⟨c, hc⟩ := sortedHeap_at (vs := vs) (out := (arrOf st').map (·.2)) hoL
  refine wpAny_pure ⟨_, rfl, hQ _ s1.heap.objs.size _ c ys (fun b u e => ?_) g1 o1 hz hc a1 (a2.trans pk) a3⟩
  have q := k1 b u e
  have hlt := Heap.lt_size q
  show (sortedHeap (s1.heap.push (seqObj "list" vs.toArray 0)) s1.heap.objs.size vs ((arrOf st').map (·.2))).get? b = some u
  rw [sortedHeap_old (Nat.ne_of_lt hlt) (by rw [size_push']; exact Nat.lt_succ_of_lt hlt)]
  exact Heap.get?_push_of_some _ q
end
section
variable {X : Cx}
/-- sorted(texts' set) -/
def rSortX (P : Program) (w : World) : List V → Hp → VK → Prop := fun vs H Q => ∃ (a : Addr) (m : List Str), vs = [V.ref a] ∧ H a = some (SetXO P w a m) ∧ m.length < 64 ∧
  ∀ (ys : List Str) (p : Addr), ys.Perm m → sortedS ys = true → H p = none → Q (.ref p) (upd H p (.lst (ys.map V.str)))
theorem cr_sortX (hc : X.calm = true) : CallR X (.builtin "sorted") (rSortX X.prog X.w) := by
  intro pins s σ H vs us Q I r h
  obtain ⟨a, m, rfl, ha, h64, q⟩ := h
  have R : SetX X.prog X.w s.heap a m := (I.hok a _ ha).1
  rw [Vals.ref1 r]
  refine sorted_setX R (I.ok.hd hc) h64 fun s' p out c ys k g o hp hg hi pm hs => ?_
  have hlen : (ys.map V.str).length ≤ sizeLine := by rw [List.length_map, pm.length_eq, sizeLine_eq]; omega
  have hn : H p = none := I.hok.fresh hp
  have J : Inv X pins σ (upd H p (.lst (ys.map V.str))) { s with heap := s'.heap, gens := s'.gens, drawn := s'.drawn, toks := s'.toks } :=
    I.call (ch := []) (Un.laid k hp hn) (I.hok.laid k hp ⟨hlen, out.toList, c, vals_of_strs hi, hg⟩) (by rw [g]; exact I.bare) (fun _ z => nomatch z)
  have e : s' = { s with heap := s'.heap, gens := s'.gens, drawn := s'.drawn, toks := s'.toks } := by
    cases s'
    cases s
    cases o
    rfl
  rw [e]
  exact ⟨.ref p, _, J, rfl, q ys p pm hs hn⟩
end
end Sw
namespace Sw
open PySem PySem.Spec PyProof.Rows L2
/-- a written dict whose place is new, and not that of sys.modules -/
def tDispN (trs : List (TE × TE)) : TE := fun σ H Q => ∀ p, H p = none → p ≠ sysModules → tPairs trs σ (upd H p (.dK [])) fun ps H2 => H2 p = some (.dK []) ∧ ∃ kvs : List (Key × V), ps = kvs.map (fun kv => (kV kv.1, kv.2)) ∧ kvs.length ≤ 15 ∧ Q (.ref p) (upd H2 p (.dK (mergeK [] kvs)))
theorem pe_dispN {X : Cx} {pos : Pos} {keys : List (Option Expr)} {values : List Expr} {trs : List (TE × TE)} (h : PPs X pos keys values trs) (hall : keys.all (·.isSome) = true) (hl : keys.length = values.length) (h0 : keys ≠ [])
    (h15 : keys.length ≤ 15) : PE X (.Dict keys values pos) (tDispN trs) := by
  refine ⟨fun pins s σ H Q I q => ?_⟩
  have I1 := I.laid (a := s.heap.objs.size) (o := .dK []) (t' := s.toks) (fun _ _ q => Heap.get?_push_of_some _ q) (Nat.le_refl _) (dk_empty s.heap I.big)
  refine wpAny_Dict_walk (knd := mixKind X.prog X.w) hall hl h0 h15 (thn (h.run pins _ σ _ _ I1 (q _ (I.hok.fresh (Nat.le_refl _)) (Nat.ne_of_gt I.big))) fun ws s2 g => ?_)
  obtain ⟨ps, H2, I2, rel, e, kvs, ep, lk, q2⟩ := g
  subst ep
  obtain ⟨rs, c, rk⟩ := carries_of (P := X.prog) (w := X.w) rel
  obtain ⟨z, hd, vs0, r0, dd⟩ := dk_of I2.hok e
  cases r0
  have hz : (mergeK [] kvs).length ≤ sizeLine := by
    have h1 := length_mergeK kvs []
    rw [List.length_nil] at h1
    rw [sizeLine_eq]
    omega
  refine ⟨rs, c, dd, fun h' dd' hs => ⟨.ref s.heap.objs.size, _, ?_, rfl, q2⟩⟩
  exact d_write I2 (by rw [e]; exact True.intro) hs (let ⟨u, _, _, hu, _⟩ := dd'; ⟨u, hu⟩) (dk_new hz hd (rk.merge .nil) dd')
theorem gv_disp1 {K : PySem.W.Frag} {b : Addr} {mu : Addr → Prop} {σ : L2.St} {H0 : Hp} {D : PyData → Prop} {te : TE} {k : Str} {d : PyData} (hm : mu b) (h : ∀ mv : Addr → Prop, mv b → Ge K b mv σ H0 te d) (hd : D (.dict [(.str k, d)])) :
    Gv K b mu σ H0 (tDispN [(tC (.str k), te)]) D := fun H hb m Q q p np ns => by
  have npb : p ≠ b := fun z => by
    obtain ⟨_, _, _, _, _, e, _⟩ := hb.bag
    rw [z, e] at np
    cases np
  have r0 := Rel.of_same hb.bag (same_upd (o := .dK []) np)
  refine h (fun a => mu a ∨ a = p) (.inl hm) (upd H p (.dK [])) (hb.trans r0) (fun a z => ?_) _ fun v H1 r1 e1 => ?_
  · rcases z with z | rfl
    · exact (m.rel r0) a z
    · exact .inl (by rw [upd_same]; exact fun z => nomatch z)
  have hp := r1.keep _ _ npb upd_same
  refine ⟨hp, [(.inr k, v)], rfl, by simp, q _ _ _ hd ((r0.trans r1).at hb.bag np) (.dct (m.new np ns) (.inl upd_same) ?_) (own_not (fun _ z => nomatch z))⟩
  refine .cons (k := .inr k) ((e1.fut (mu := fun a => mu a ∨ a = p) fun c o e z => ?_).less fun a z => .inl z) .nil
  by_cases c1 : c = p
  · subst c1
    rw [hp] at e
    cases e
    rcases z with z | ⟨xs, z⟩ | ⟨ob, u, z⟩
    · exact absurd (.inr rfl) z
    · cases z
    · cases z
  · rw [upd_ne c1]
    exact e
end Sw
/-! Dicts: beside the empty one, copied. -/
namespace Sw
open PySem PySem.Spec PyProof.Rows L2
/-- a dict beside {} -/
def rNeNilD : R2 := fun x y H Q => ∃ p q kvs, x = .ref p ∧ y = .ref q ∧ Rd H p (.dK kvs) ∧ Rd H q (.dK []) ∧ Q (.bl (!decide (kvs = []))) H
theorem op_neNilD {X : Cx} (hu : X.A.units + 64 < cLine) : OpR X (compareOp .NotEq) rNeNilD := by
  intro pins s σ H x y v u Q I rx ry h
  obtain ⟨p, q, kvs, rfl, rfl, hp, hq, k⟩ := h
  cases rx
  cases ry
  obtain ⟨z1, l1, vs1, r1, d1⟩ := dk_rd I.hok hp
  obtain ⟨z2, l2, vs2, r2, d2⟩ := dk_rd I.hok hq
  cases r2
  have hl : kvs.length = vs1.length := Paired.length r1
  have e : (!((vs1.length == ([] : List (Key × Value)).length) && decide (kvs = []))) = !decide (kvs = []) := by
    cases kvs with
    | nil => simp at hl; simp [hl]
    | cons _ _ => simp
  refine PySem.W.keq_ne (knd := mixKind X.prog X.w) (r := decide (kvs = [])) l1 l2 d1 d2 (by omega) (fun z => ?_) ⟨.bl _, H, I, ?_, k⟩
  · have : kvs = [] := List.eq_nil_of_length_eq_zero (by rw [hl, z]; rfl)
    subst this
    cases r1
    exact .nil
  · rw [e]
    rfl
/-- dict(d): a copy, its place new, and not that of sys.modules -/
theorem call_dictN {X : Cx} : CallR X (.type "dict") (fun xs H Q => ∃ (a : Addr) (kvs : List (Key × V)), xs = [.ref a] ∧ Rd H a (.dK kvs) ∧ ∀ p, H p = none → p ≠ sysModules → Q (.ref p) (upd H p (.dK kvs))) := by
  intro pins s σ H xs us Q I r q
  obtain ⟨a, kvs, ex, hq, q⟩ := q
  refine thn (call_dictD pins s σ H xs us (fun v H' => ∃ p, v = .ref p ∧ H p = none ∧ H' = upd H p (.dK kvs)) I r ⟨a, kvs, ex, hq, fun p np => ⟨p, rfl, np, rfl⟩⟩) fun v s1 ⟨x, H1, I1, r1, p, e1, np, e2⟩ => ?_
  subst e1 e2
  obtain ⟨_, ne, _⟩ := dk_of I1.hok (upd_same (H := H) (a := p) (o := .dK kvs))
  exact ⟨.ref p, _, I1, r1, q p np (fun z => by rw [z] at ne; simp at ne)⟩
end Sw
/-! Menus of things made of one tuple: slices, sums, lists. -/
namespace Sw
open PySem PySem.Spec PyProof.Rows L2
/-- list(x): its place is new, and not that of sys.modules -/
theorem call_listN {X : Cx} : CallR X (.type "list") (fun xs H Q => ∃ p ys, xs = [.ref p] ∧ (SqL X.K H p ys ∨ SqT X.K H p ys) ∧ ∀ l, H l = none → l ≠ sysModules → Q (.ref l) (upd H l (.lst ys))) := by
  intro pins s σ H xs us Q I r h
  obtain ⟨p, ys, rfl, hq, q⟩ := h
  obtain ⟨u, rfl, rx⟩ := vals1 r
  cases rx
  have fin : ∀ (its : List Value), Vals ys its → ys.length ≤ sizeLine → ∀ (h' : Heap) (c' : Nat), (∀ b o', s.heap.get? b = some o' → h'.get? b = some o') →
      h'.get? s.heap.objs.size = some { cls := .type "list", dict := none, data := .seq its.toArray c', slots := #[] } → EP X pins σ Q (.ref s.heap.objs.size) { s with heap := h' } := fun its r' hz h' c' kp e =>
    ⟨.ref s.heap.objs.size, _, I.laid (t' := s.toks) kp (Nat.le_refl _) (show ObjOk X.prog X.w _ h' _ (.lst ys) from ⟨hz, its, c', r', e⟩), rfl, q _ (I.hok.fresh (Nat.le_refl _)) (Nat.ne_of_gt I.big)⟩
  rcases hq with hq | hq
  · obtain ⟨its, r', pl, hz⟩ := I.list hq
    have hlen := r'.length
    obtain ⟨o, ho, hc, n, hd⟩ := pl.isList
    exact call_list_seq p (.inl rfl) ho hc hd (fun h' c' kp e => fin its r' hz h' c' kp e) (by simp only [List.size_toArray] <;> omega)
  · obtain ⟨its, r', pl, hz⟩ := I.tuple hq
    have hlen := r'.length
    obtain ⟨o, ho, hc, n, hd⟩ := pl
    exact call_list_seq p (.inr rfl) ho hc hd (fun h' c' kp e => fin its r' hz h' c' kp e) (by simp only [List.size_toArray] <;> omega)
theorem call_dictPN {X : Cx} (hcalm : X.calm = true) : CallR X (.type "dict") (fun xs H Q => ∃ (a : Addr) (ps : List Addr) (kvs : List (Key × V)), xs = [.ref a] ∧ SqL X.K H a (ps.map V.ref) ∧ Paired (fun p kv => SqT X.K H p [kV kv.1, kv.2]) ps kvs ∧
    ∀ p, H p = none → p ≠ sysModules → Q (.ref p) (upd H p (.dK (mergeK [] kvs)))) := by
  intro pins s σ H xs us Q I r q
  obtain ⟨a, ps, kvs, ex, hq, hp, q⟩ := q
  refine thn (call_dictP hcalm pins s σ H xs us (fun v H' => ∃ p, v = .ref p ∧ H p = none ∧ H' = upd H p (.dK (mergeK [] kvs))) I r ⟨a, ps, kvs, ex, hq, hp, fun p np => ⟨p, rfl, np, rfl⟩⟩) fun v s1 ⟨x, H1, I1, r1, p, e1, np, e2⟩ => ?_
  subst e1 e2
  obtain ⟨_, ne, _⟩ := dk_of I1.hok (upd_same (H := H) (a := p) (o := .dK (mergeK [] kvs)))
  exact ⟨.ref p, _, I1, r1, q p np (fun z => by rw [z] at ne; simp at ne)⟩
/-- o[i] of a dict by values (in o[i] op= e) -/
def rGetD : R2 := fun o i H Q => ∃ (a : Addr) (v : V), o = .ref a ∧ DGet H a i (some v) ∧ Q v H
theorem get_dict {X : Cx} (hu : X.A.units + 1 < cLine) : PGet X rGetD := by
  intro pins s σ H o i ov iv Q I ro ri h
  obtain ⟨a, v, rfl, g, q⟩ := h
  cases ro
  exact d_getItem hu I g ri fun w' s3 I3 rw' => ⟨v, H, I3, rw', q⟩
/-- a slice of data -/
def sliD (ds : List PyData) (lo hi : Option Int) : List PyData := (ds.drop (HT.sIx ds.length 0 lo)).take (HT.sIx ds.length ds.length hi - HT.sIx ds.length 0 lo)
theorem dtA_cut {K : PySem.W.Frag} {mu : Addr → Prop} {H : Hp} {xs : List V} {ds : List PyData} {lo hi : Option Int} (h : DtA K mu H xs ds) : DtA K mu H (cutV xs lo hi) (sliD ds lo hi) := by
  unfold cutV sliD
  rw [h.length]
  exact (h.drop _).take _
theorem sliD_mem {ds : List PyData} {lo hi : Option Int} {d : PyData} (h : d ∈ sliD ds lo hi) : d ∈ ds := List.mem_of_mem_drop (List.mem_of_mem_take h)
theorem sliD_len (ds : List PyData) (lo hi : Option Int) : (sliD ds lo hi).length ≤ ds.length := by
  unfold sliD
  rw [List.length_take, List.length_drop]
  omega
theorem wtA_app : ∀ ds es : List PyData, PyData.weightAll (ds ++ es) = PyData.weightAll ds + PyData.weightAll es
  | [], es => by simp [PyData.weightAll]
  | d :: ds, es => by
    simp only [List.cons_append, PyData.weightAll, wtA_app ds es]
    omega
theorem wtA_take (ds : List PyData) (n : Nat) : PyData.weightAll (ds.take n) + PyData.weightAll (ds.drop n) = PyData.weightAll ds := by rw [← wtA_app, List.take_append_drop]
theorem sliD_wt (ds : List PyData) (lo hi : Option Int) : PyData.weightAll (sliD ds lo hi) ≤ PyData.weightAll ds := by
  unfold sliD
  have h1 := wtA_take (ds.drop (HT.sIx ds.length 0 lo)) (HT.sIx ds.length ds.length hi - HT.sIx ds.length 0 lo)
  have h2 := wtA_take ds (HT.sIx ds.length 0 lo)
  omega
theorem wtA_rev (ds : List PyData) : PyData.weightAll ds.reverse = PyData.weightAll ds := by
  induction ds with
  | nil => rfl
  | cons d ds ih =>
    rw [List.reverse_cons, wtA_app, ih]
    simp only [PyData.weightAll]
    omega
theorem wtA_split {ds : List PyData} {i : Nat} {e : PyData} (h : ds[i]? = some e) : PyData.weightAll ds = PyData.weightAll (ds.take i) + (e.weight + 1) + PyData.weightAll (ds.drop (i + 1)) := by
  obtain ⟨hi, he⟩ := List.getElem?_eq_some_iff.mp h
  have z := wtA_take ds i
  rw [List.drop_eq_getElem_cons hi, he] at z
  simp only [PyData.weightAll] at z
  omega
theorem dpA_le {n : Nat} : ∀ {ds : List PyData}, PyData.depthAll ds ≤ n ↔ ∀ d ∈ ds, d.depth ≤ n
  | [] => by simp [PyData.depthAll]
  | d :: ds => by
    simp only [PyData.depthAll, List.mem_cons, forall_eq_or_imp, ← dpA_le (ds := ds)]
    omega
theorem cutV_upto (xs : List V) (n : Nat) : cutV xs none (some (n : Int)) = xs.take n := by
  unfold cutV
  rw [HT.sIx_none, HT.sIx_nat, List.drop_zero, Nat.sub_zero]
  by_cases h : n ≤ xs.length
  · rw [Nat.min_eq_left h]
  · rw [Nat.min_eq_right (by omega), List.take_length, List.take_of_length_le (by omega)]
theorem cutV_fromN (xs : List V) (n : Nat) : cutV xs (some (n : Int)) none = xs.drop n := by
  unfold cutV
  rw [HT.sIx_none, HT.sIx_nat]
  by_cases h : n ≤ xs.length
  · rw [Nat.min_eq_left h]
    exact List.take_of_length_le (by rw [List.length_drop]; omega)
  · rw [List.drop_eq_nil_of_le (by omega), List.drop_eq_nil_of_le (by omega), List.take_nil]
theorem sl_use {K : PySem.W.Frag} {H : Hp} {r : Addr} {xs : List V} {lo hi : Option Int} {Q : VK} (h : SqT K H r xs) (k : ∀ p H', Same H H' → SqT K H' p (cutV xs lo hi) → Q (.ref p) H') : rSlA K (.ref r) lo hi H Q := by
  refine ⟨r, xs, rfl, h, fun z => ?_, fun _ p np => k p _ (same_upd np) (.of upd_same)⟩
  refine k r H (.refl H) ?_
  have : cutV xs lo hi = xs := by
    unfold cutV
    rw [z.1, z.2, List.drop_zero, Nat.sub_zero, List.take_length]
  rw [this]
  exact h
theorem cat_use {K : PySem.W.Frag} {H : Hp} {a c : Addr} {xs ys : List V} {Q : VK} (h1 : SqT K H a xs) (h2 : SqT K H c ys) (hz : xs.length + ys.length ≤ sizeLine) (k : ∀ p H', Same H H' → SqT K H' p (xs ++ ys) → Q (.ref p) H') : rCatA K (.ref a) (.ref c) H Q := by
  refine ⟨a, c, xs, ys, rfl, rfl, h1, h2, hz, fun e => ?_, fun _ e => ?_, fun _ _ p np => k p _ (same_upd np) (.of upd_same)⟩
  · subst e
    exact k c H (.refl H) h2
  · subst e
    refine k a H (.refl H) ?_
    rw [List.append_nil]
    exact h1
theorem sq_fut {K : PySem.W.Frag} {mu : Addr → Prop} {H H' : Hp} {a : Addr} {xs : List V} (h : SqT K H a xs) (f : Fut mu H H') : SqT K H' a xs := by
  rcases h with (r | ⟨o, r⟩) | r
  · exact .inl (.inl (f _ _ r (.inr (.inl ⟨_, rfl⟩))))
  · exact .inl (.inr ⟨o, f _ _ r (.inr (.inr ⟨_, _, rfl⟩))⟩)
  · exact .inr r
theorem dt_tupS {K : PySem.W.Frag} {mu : Addr → Prop} {H : Hp} {p : Addr} {xs : List V} {ds : List PyData} (h : SqT K H p xs) (hA : DtA K mu H xs ds) : Dt K mu H (.ref p) (.tuple ds) := by
  rcases h with h | h
  · exact .tup h hA
  · exact .tupK h hA
theorem dtA_revS {K : PySem.W.Frag} {mu : Addr → Prop} {H : Hp} : ∀ {vs : List V} {ds : List PyData}, DtA K mu H vs ds → DtA K mu H vs.reverse ds.reverse
  | _, _, .nil => .nil
  | _, _, .cons h t => by
    rw [List.reverse_cons, List.reverse_cons]
    exact (dtA_revS t).append (.cons h .nil)
theorem tup_new {K : PySem.W.Frag} {mu : Addr → Prop} {H : Hp} {p : Addr} {xs : List V} {ds : List PyData} (np : H p = none) (h : DtA K mu H xs ds) : Dt K mu (upd H p (.tup xs)) (.ref p) (.tuple ds) := .tup (.of upd_same) (h.fut (.of_same (same_upd np)))
theorem dt_on {K : PySem.W.Frag} {mu : Addr → Prop} {H : Hp} {p : Addr} {o : HO} {v : V} {d : PyData} (np : H p = none) (h : Dt K mu H v d) : Dt K mu (upd H p o) v d := h.fut (.of_same (same_upd np))
theorem dtA_rep {K : PySem.W.Frag} {mu : Addr → Prop} {H : Hp} {v : V} {d : PyData} (h : Dt K mu H v d) : ∀ n : Nat, DtA K mu H (List.replicate n [v]).flatten (List.replicate n d)
  | 0 => .nil
  | n + 1 => by
    rw [List.replicate_succ, List.replicate_succ, List.flatten_cons]
    exact .cons h (dtA_rep h n)
theorem sz {xs : List V} (h : xs.length ≤ 1000) : xs.length ≤ sizeLine := Nat.le_of_lt (small1000 h)
theorem bag_ne {b p : Addr} {H : Hp} (hb : BagAt H b) (np : H p = none) : p ≠ b := fun z => by
  obtain ⟨_, _, _, _, _, q, _⟩ := hb
  rw [z, q] at np
  cases np
theorem fut_atD {H : Hp} {a : Addr} {kvs : List (Key × V)} {o' : HO} (ha : H a = some (.dK kvs)) : Fut (fun b => b = a) H (upd H a o') := fun c o e z => by
  by_cases h : c = a
  · subst h
    rw [ha] at e
    cases e
    rcases z with z | ⟨_, z⟩ | ⟨_, _, z⟩
    · exact absurd rfl z
    · cases z
    · cases z
  · rw [upd_ne h]
    exact e
theorem sIx_last (n : Nat) : HT.sIx n 0 (some (-1)) = ((-1 : Int) + (n : Int)).toNat := by
  show (if (-1 : Int) < 0 then ((-1 : Int) + (n : Int)).toNat else min (-1 : Int).toNat n) = _
  rw [if_pos (by decide)]
section
variable {K : PySem.W.Frag} {b : Addr} {mu : Addr → Prop} {σ : L2.St} {H0 : Hp} {te : TE} {ta tr : TA} {d : PyData} {ds : List PyData} {D : PyData → Prop} {n : Nat}
variable (K b mu σ H0) in
/-- the expression gives a datum of which D holds -/
def Gn (te : TE) (D : PyData → Prop) : Prop := ∀ H, Rel b H0 H → MuOk mu H → ∀ Q : VK, (∀ v H' d, D d → Rel b H H' → Dt K mu H' v d → Q v H') → te σ H Q
variable (K b mu σ H0) in
def GnA (ta : TA) (D : PyData → Prop) (n : Nat) : Prop := ∀ H, Rel b H0 H → MuOk mu H → ∀ Q : List V → Hp → Prop, (∀ vs H' ds, ds.length = n → (∀ d ∈ ds, D d) → Rel b H H' → DtA K mu H' vs ds → Q vs H') → ta σ H Q
theorem Ge.gn (h : Ge K b mu σ H0 te d) (hd : D d) : Gn K b mu σ H0 te D := fun H hb m Q q => h H hb m Q fun v H' r e => q v H' d hd r e
theorem Gv.gn (h : Gv K b mu σ H0 te D) : Gn K b mu σ H0 te D := fun H hb m Q q => h H hb m Q fun v H' d hd r e _ => q v H' d hd r e
theorem gnA_nil : GnA K b mu σ H0 tNil D 0 := fun H hb _ _ q => q _ H [] rfl (fun _ z => nomatch z) (.refl hb.bag) .nil
theorem gnA_cons (hm : mu b) (h : Gn K b mu σ H0 te D) (t : GnA K b mu σ H0 tr D n) : GnA K b mu σ H0 (tCons te tr) D (n + 1) := fun H hb m _ q =>
  h H hb m _ fun v H1 d hd r1 e1 => t H1 (hb.trans r1) (m.rel r1) _ fun vs H2 ds hl hds r2 e2 => q _ H2 (d :: ds) (by rw [List.length_cons, hl]) (fun x z => by
    rcases List.mem_cons.mp z with rfl | z
    · exact hd
    · exact hds x z) (r1.trans r2) (.cons (e1.fut (r2.fut hm r1.bag)) e2)
theorem gn_var {i : Nat} {v : V} (hm : mu b) (hb : BagAt H0 b) (hσ : σ[i]? = some (some v)) (h : Dt K mu H0 v d) (hd : D d) : Gn K b mu σ H0 (tVar i) D := fun H r m Q q =>
  ⟨v, hσ, q v H d hd (.refl r.bag) (h.fut (r.fut hm hb))⟩
/-- a menu is asked -/
theorem gn_some {i : Nat} (hm : mu b) (hσ : σ[i]? = some (some (.ref b))) (h : GnA K b mu σ H0 ta D n) (h0 : 0 < n) (h1 : n ≤ 1000) :
    Gn K b mu σ H0 (tCall spSome [] E0 (tCons (tVar i) (tCons (tLst ta) tNil))) D := fun H hb m Q q => by
  refine ⟨_, hσ, h H hb m _ fun vs H1 ds hl hD r e => ?_⟩
  have hv : vs.length = n := e.length.trans hl
  refine ⟨Nat.le_of_lt (small1000 (by omega)), fun p np => ?_⟩
  have nb := bag_ne r.bag np
  refine ⟨b, p, vs, rfl, r.bag.same (same_upd np), nb, upd_same, by omega, by omega, fun j v H2 hj r2 => ?_⟩
  obtain ⟨d, hd, ed⟩ := e.get hj
  have r3 := r.same (same_upd (o := .lst vs) np)
  exact q v H2 d (hD d (List.mem_of_getElem? hd)) (r3.trans r2) ((ed.fut (.of_same (same_upd np))).fut (r2.fut hm r3.bag))
variable (K b σ H0) in
/-- the expression gives a tuple of these -/
def Gs (te : TE) (ys : List V) : Prop := ∀ H, Rel b H0 H → ∀ Q : VK, (∀ p H', Same H H' → SqT K H' p ys → Q (.ref p) H') → te σ H Q
variable {xs ys : List V} {te2 : TE}
theorem gs_var {i : Nat} {a : Addr} (hb : BagAt H0 b) (hσ : σ[i]? = some (some (.ref a))) (h : SqT K H0 a xs) : Gs K b σ H0 (tVar i) xs := fun H r Q q =>
  ⟨_, hσ, q a H (.refl H) (sq_fut h (r.fut (mu := fun z => z = b) rfl hb))⟩
variable (σ) in
/-- a bound of a slice, written -/
def Gp (t : TO) (o : Option Int) : Prop := ∀ (H : Hp) (Q : Option Int → Hp → Prop), Q o H → t σ H Q
theorem gp_none : Gp σ tNoPart none := fun _ _ q => q
theorem gp_int {i : Int} : Gp σ (tPart (tC (.int i))) (some i) := fun _ _ q => ⟨i, rfl, q⟩
theorem gp_neg {i : Int} : Gp σ (tPart (tUn (rU fun i => .int (-i)) (tC (.int i)))) (some (-i)) := fun _ _ q => ⟨i, rfl, _, rfl, q⟩
theorem gp_var {j : Nat} {i : Int} (hσ : σ[j]? = some (some (.int i))) : Gp σ (tPart (tVar j)) (some i) := fun _ _ q => ⟨_, hσ, i, rfl, q⟩
theorem gs_sl {tl th : TO} {lo hi : Option Int} (h : Gs K b σ H0 te xs) (hl : Gp σ tl lo) (hh : Gp σ th hi) : Gs K b σ H0 (tSl (rSlA K) te tl th) (cutV xs lo hi) := fun H r Q q =>
  h H r _ fun p H1 s1 h1 => hl _ _ (hh _ _ (sl_use h1 fun p2 H2 s2 h2 => q p2 H2 (s1.trans s2) h2))
theorem gs_cat (h : Gs K b σ H0 te xs) (h2 : Gs K b σ H0 te2 ys) (hz : xs.length + ys.length ≤ 1000000) : Gs K b σ H0 (tOp (rCatA K) te te2) (xs ++ ys) := fun H r Q q =>
  h H r _ fun p H1 s1 q1 => h2 H1 (r.same s1) _ fun p2 H2 s2 q2 => cat_use (s2.seqT q1) q2 (by rw [sizeLine_eq]; omega) fun p3 H3 s3 q3 => q p3 H3 ((s1.trans s2).trans s3) q3
theorem gs_rev (h : Gs K b σ H0 te xs) : Gs K b σ H0 (tRevT K te) xs.reverse := fun H r Q q =>
  h H r _ fun p H1 s1 q1 => ⟨p, xs, rfl, q1, fun p2 n2 => q p2 _ (s1.trans (same_upd n2)) (.of upd_same)⟩
theorem gs_tup1 {v : V} (h : ∀ (H : Hp) (Q : VK), Q v H → te σ H Q) : Gs K b σ H0 (tTup (tCons te tNil)) [v] := fun H r Q q =>
  h H _ ⟨Nat.le_of_lt (small1000 (show 1 ≤ 1000 by decide)), fun p np => q p _ (same_upd np) (.of upd_same)⟩
theorem Gs.gn (hm : mu b) (hb : BagAt H0 b) (h : Gs K b σ H0 te ys) (e : DtA K mu H0 ys ds) (hd : D (.tuple ds)) : Gn K b mu σ H0 te D := fun H r m Q q =>
  h H r _ fun p H1 s1 h1 => q _ H1 _ hd (Rel.of_same r.bag s1) (dt_tupS h1 ((e.fut (r.fut hm hb)).fut (.of_same s1)))
/-- list(x) of a tuple in a menu -/
theorem Gs.gnL (hm : mu b) (hb : BagAt H0 b) (h : Gs K b σ H0 te ys) (e : DtA K mu H0 ys ds) (hd : D (.list ds)) : Gn K b mu σ H0 (tCB (fun xs H Q => ∃ p ys, xs = [.ref p] ∧ (SqL K H p ys ∨ SqT K H p ys) ∧ ∀ l, H l = none → l ≠ sysModules → Q (.ref l) (upd H l (.lst ys))) (tCons te tNil)) D := fun H r m Q q =>
  h H r _ fun p H1 s1 h1 => ⟨p, ys, rfl, .inr h1, fun l nl ns => q _ _ _ hd ((Rel.of_same r.bag s1).same (same_upd nl)) (.lst ((m.same s1).new nl ns) (.inl upd_same) (((e.fut (r.fut hm hb)).fut (.of_same s1)).fut (.of_same (same_upd nl))))⟩
end
end Sw
namespace Sw
open PySem PySem.Spec PyProof.Rows L2
/-- the empty text, k times -/
def rRepE : R2 := fun x y H Q => ∃ (z : Str) (k : Int), x = .str z ∧ y = .int k ∧ 2 ≤ k ∧ k ≤ 1000 ∧ z.length = 0 ∧ Q (.str z) H
theorem op_repE {X : Cx} : OpR X (binaryOp .Mult) rRepE := by
  intro pins s σ H x y v u Q I rx ry h
  obtain ⟨z, k, rfl, rfl, k2, k1, z1, q⟩ := h
  obtain ⟨t, rfl⟩ := rx
  obtain ⟨t', rfl⟩ := ry
  have hc : (k == 1 || z.length == 0) = true := by
    rw [Bool.or_eq_true, beq_iff_eq, beq_iff_eq]
    exact .inr z1
  refine P.mul_str (by rw [decide_eq_false (by omega), decide_eq_false (by omega)]; rfl) (fun _ _ => ?_) (fun _ _ => ?_) ?_
  · rw [z1]
    have e : (0 : Int) ≤ (2 ^ 63 - 1) / k := Int.ediv_nonneg (by decide) (by omega)
    first | omega | exact e
  · unfold Builtin.Str.tooLong
    have sl := sizeLine_eq
    rw [z1]
    first
      | (rw [decide_eq_false]; omega)
      | (simp; omega)
      | simp
  · rw [if_neg (by omega), if_pos hc]
    exact ⟨.str z, H, I, ⟨_, rfl⟩, q⟩
/-- a text, k times: what holds of its signs -/
def rRepP : R2 := fun x y H Q => ∃ (z : Str) (k : Int), x = .str z ∧ y = .int k ∧ 2 ≤ k ∧ k ≤ 1000 ∧ 1 ≤ z.length ∧ z.length ≤ 1000 ∧ ∀ r : Str, r.length = z.length * k.toNat → (∀ p : Nat → Bool, z.cps.all p = true → r.cps.all p = true) → Q (.str r) H
theorem op_repP {X : Cx} : OpR X (binaryOp .Mult) rRepP := by
  intro pins s σ H x y v u Q I rx ry h
  obtain ⟨z, k, rfl, rfl, k2, k1, z1, z2, q⟩ := h
  obtain ⟨t, rfl⟩ := rx
  obtain ⟨t', rfl⟩ := ry
  have hm : z.length * k.toNat ≤ 1000000 := Nat.le_trans (Nat.mul_le_mul z2 (show k.toNat ≤ 1000 by omega)) (by decide)
  have hc : (k == 1 || z.length == 0) = false := by
    rw [Bool.or_eq_false_iff, beq_eq_false_iff_ne, beq_eq_false_iff_ne]
    omega
  refine P.mul_str (by rw [decide_eq_false (by omega), decide_eq_false (by omega)]; rfl) (fun _ _ => ?_) (fun _ _ => ?_) ?_
  · have e : (1000 : Int) ≤ (2 ^ 63 - 1) / k := by
      rw [Int.le_ediv_iff_mul_le (by omega)]
      omega
    omega
  · unfold Builtin.Str.tooLong
    have sl := sizeLine_eq
    first
      | (rw [decide_eq_false]; omega)
      | (simp; omega)
  · rw [if_neg (by omega), if_neg (by rw [hc]; exact Bool.false_ne_true)]
    have hz : (⟨(List.replicate k.toNat z.cps).foldl (· ++ ·) #[]⟩ : Str).length = z.length * k.toNat := rep_size z.cps k.toNat
    refine ⟨?_, ⟨.str _, H, I.tok _, ⟨_, rfl⟩, q _ hz fun p ho => rep_all z.cps p ho k.toNat⟩⟩
    have sl := sizeLine_eq
    first
      | (rw [hz]; omega)
      | (show _ ≤ _; rw [hz]; omega)
/-- a text, empty or not, k times -/
def rRepW : R2 := fun x y H Q => ∃ (z : Str) (k : Int), x = .str z ∧ y = .int k ∧ 2 ≤ k ∧ k ≤ 1000 ∧ z.length ≤ 1000 ∧ ∀ r : Str, r.length = z.length * k.toNat → (∀ p : Nat → Bool, z.cps.all p = true → r.cps.all p = true) → Q (.str r) H
theorem op_repW {X : Cx} : OpR X (binaryOp .Mult) rRepW := by
  intro pins s σ H x y v u Q I rx ry h
  obtain ⟨z, k, rfl, rfl, k2, k1, z2, q⟩ := h
  by_cases e : z.length = 0
  · exact op_repE pins s σ H _ _ _ _ Q I rx ry ⟨z, k, rfl, rfl, k2, k1, e, q z (by rw [e, Nat.zero_mul]) fun _ z => z⟩
  · exact op_repP pins s σ H _ _ _ _ Q I rx ry ⟨z, k, rfl, rfl, k2, k1, by omega, z2, q⟩
end Sw
/-! Tuples and texts some times over, once and never too. -/
namespace Sw
open PySem PySem.Spec PyProof.Rows L2
theorem tuple_mul1 (l : Addr) (items : Array Value) (n : Nat) (dd : Option Addr) (sl : Array (Option Value)) (u : Tok) :
    Meets (Builtin.«tuple.__mul__» ⟨[.ref l, .int 1 u], []⟩) (fun _ R s => s.heap.get? l = some { cls := .type "tuple", dict := dd, data := .seq items n, slots := sl } ∧
      R (.ok (.ret (Value.ref l))) s) :=
  .of_wp fun prog w A R s h => by
    obtain ⟨hp, g, d, tk, os⟩ := s
    obtain ⟨hl, h⟩ := h
    have f1 := AutoSeq1.idx_int
    have c1 : (items.isEmpty || (1 : Int) == 1) = true := by simp
    have hT : (⟨hp, g, d, tk, os⟩ : Shared).TypeIs (.ref l) "tuple" := ⟨_, hl, rfl⟩
    wp_walk using wpAny_loadPart' hl
    repeat (first
      | (refine wpAny_ite_true (decide_eq_true (by exact c1)) ?_; wp_walk using wpAny_loadPart' hl)
      | (refine wpAny_ite_false (by decide) ?_; wp_walk using wpAny_loadPart' hl))
    exact ⟨_, rfl, h⟩
theorem tuple_mul0 (l : Addr) (items : Array Value) (n : Nat) (dd : Option Addr) (sl : Array (Option Value)) (u : Tok) (hi : items.isEmpty = false) :
    Meets (Builtin.«tuple.__mul__» ⟨[.ref l, .int 0 u], []⟩) (fun _ R s => s.heap.get? l = some { cls := .type "tuple", dict := dd, data := .seq items n, slots := sl } ∧
      R (.ok (.ret (Value.ref s.heap.objs.size))) { s with heap := s.heap.push { cls := Value.type "tuple", data := Data.seq #[] }, toks := s.toks }) :=
  .of_wp fun prog w A R s h => by
    obtain ⟨hp, g, d, tk, os⟩ := s
    obtain ⟨hl, h⟩ := h
    have f1 := AutoSeq1.idx_int
    have c1 : (items.isEmpty || (0 : Int) == 1) = false := by rw [hi]; decide
    wp_walk using wpAny_loadPart' hl
    repeat (first
      | (refine wpAny_ite_false (decide_eq_false (by rw [c1]; exact Bool.false_ne_true)) ?_; wp_walk using wpAny_loadPart' hl)
      | (refine wpAny_ite_false (by decide) ?_; wp_walk using wpAny_loadPart' hl)
      | (refine wpAny_ite_true (by simp) ?_; wp_walk using wpAny_loadPart' hl))
    exact ⟨_, rfl, h⟩
/-- a tuple, k times -/
def rRepU (K : PySem.W.Frag) : R2 := fun x y H Q => ∃ l k xs, x = .ref l ∧ y = .int k ∧ SqT K H l xs ∧ xs ≠ [] ∧ 0 ≤ k ∧ k ≤ 1000 ∧ xs.length ≤ 1000 ∧ ∀ p H', Same H H' → SqT K H' p (List.replicate k.toNat xs).flatten → Q (.ref p) H'
theorem op_repU {X : Cx} : OpR X (binaryOp .Mult) (rRepU X.K) := by
  intro pins s σ H x y v u Q I rx ry h
  obtain ⟨l, k, xs, rfl, rfl, hT, hne, h1, h2, hz, q⟩ := h
  by_cases e2 : 2 ≤ k
  · exact op_repT pins s σ H _ _ _ _ Q I rx ry ⟨l, k, xs, rfl, rfl, hT, hne, e2, h2, hz, fun p np => q p _ (same_upd np) (.of upd_same)⟩
  cases rx
  obtain ⟨t, rfl⟩ := ry
  obtain ⟨its, r, ⟨⟨cls, dd, data, sl⟩, ho, hc, n, hd⟩, hs⟩ := I.tuple hT
  simp only at hc hd
  subst hc hd
  have hle : its.length = xs.length := r.length.symm
  have hn : its ≠ [] := fun e => hne (by
    rw [e] at hle
    exact List.eq_nil_of_length_eq_zero hle.symm)
  have hi : its.toArray.isEmpty = false := by
    cases its with
    | nil => exact absurd rfl hn
    | cons a b => rfl
  rcases (show k = 0 ∨ k = 1 by omega) with rfl | rfl
  · refine wpAny_binaryOp_repeat_ref (T := "tuple") (U := "int") (by decide) ⟨_, ho, rfl⟩ (fun s' => typeIs_int s' 0 t) noFill_tuple_mul F.fills_int_mul F.slot_int_rmul repeat_tuple F.slot_int_index.lookup
      (call_meets F.slot_int_rmul (typeIs_int s 0 t) F.entry_int_rmul (F.args_int_rmul_2 _ _) (int_rmul_tuple 0 t l its.toArray n dd sl)
        ⟨ho, rfl, ⟨_, ho, rfl⟩, call_meets F.slot_tuple_mul ⟨_, ho, rfl⟩ F.entry_tuple_mul (F.args_tuple_mul_2 _ _) (tuple_mul0 l its.toArray n dd sl t hi) ⟨ho, ?_⟩⟩)
    have nf : H s.heap.objs.size = none := I.hok.fresh (Nat.le_refl _)
    refine ⟨.ref s.heap.objs.size, _, I.laid (t' := s.toks) (o := .tup []) (fun b ob q => Heap.get?_push_of_some _ q) (Nat.le_refl _) ?_, rfl, q _ _ (same_upd nf) (.of upd_same)⟩
    exact ⟨Nat.zero_le _, [], .nil, IsTup.new _ _⟩
  · refine wpAny_binaryOp_repeat_ref (T := "tuple") (U := "int") (by decide) ⟨_, ho, rfl⟩ (fun s' => typeIs_int s' 1 t) noFill_tuple_mul F.fills_int_mul F.slot_int_rmul repeat_tuple F.slot_int_index.lookup
      (call_meets F.slot_int_rmul (typeIs_int s 1 t) F.entry_int_rmul (F.args_int_rmul_2 _ _) (int_rmul_tuple 1 t l its.toArray n dd sl)
        ⟨ho, rfl, ⟨_, ho, rfl⟩, call_meets F.slot_tuple_mul ⟨_, ho, rfl⟩ F.entry_tuple_mul (F.args_tuple_mul_2 _ _) (tuple_mul1 l its.toArray n dd sl t) ⟨ho, ?_⟩⟩)
    refine ⟨.ref l, H, I, rfl, q l H (.refl H) ?_⟩
    rw [show (List.replicate (1 : Int).toNat xs).flatten = xs by simp]
    exact hT
/-- a text, once or more -/
def rRepZ : R2 := fun x y H Q => ∃ (z : Str) (k : Int), x = .str z ∧ y = .int k ∧ 1 ≤ k ∧ k ≤ 1000 ∧ z.length ≤ 1000 ∧ ∀ r : Str, r.length = z.length * k.toNat → (∀ p : Nat → Bool, z.cps.all p = true → r.cps.all p = true) → Q (.str r) H
theorem op_repZ {X : Cx} : OpR X (binaryOp .Mult) rRepZ := by
  intro pins s σ H x y v u Q I rx ry h
  obtain ⟨z, k, rfl, rfl, k2, k1, z2, q⟩ := h
  by_cases e : 2 ≤ k
  · exact op_repW pins s σ H _ _ _ _ Q I rx ry ⟨z, k, rfl, rfl, e, k1, z2, q⟩
  obtain ⟨t, rfl⟩ := rx
  obtain ⟨t', rfl⟩ := ry
  obtain rfl : k = 1 := by omega
  refine P.mul_str (by rw [decide_eq_false (by omega), decide_eq_false (by omega)]; rfl) (fun _ _ => ?_) (fun _ _ => ?_) ?_
  · have e : (1000 : Int) ≤ (2 ^ 63 - 1) / 1 := by decide
    omega
  · unfold Builtin.Str.tooLong
    have sl := sizeLine_eq
    first
      | (rw [decide_eq_false]; omega)
      | (simp; omega)
  · rw [if_neg (by omega), if_pos (by simp)]
    exact ⟨.str z, H, I, ⟨_, rfl⟩, q z (by simp) fun _ h => h⟩
end Sw
namespace Sw
open PySem PySem.Spec PyProof.Rows L2
section
variable {P : Program} {w : World} {A : Around} {E : Value → Shared → Prop} {s : Shared}
theorem collect_tupT {l : Addr} {vs : List Value} {Q : List Value → Shared → Prop} (hl : s.heap.IsTuple l vs.toArray) (hsz : vs.length ≤ sizeLine)
    (h : Q vs { s with heap := (s.heap.push (seqObj "list" #[] 0)).update s.heap.objs.size (Obj.mapSeq (· ++ vs.toArray)) }) :
    wpAny (model P w) A (collect (.ref l)) Q E s := by
  obtain ⟨o, ho, hc, n, hd⟩ := id hl
  unfold collect
  refine wpAny_bind (wpAny_runValue (codeAny_builtin entry_proto_collect' ?_))
  show wpAny _ _ (do again (.builtin "list.__iadd__" ⟨[← newList [], .ref l], []⟩)) _ _ s
  refine wpAny_bind (wpAny_newList (wpAny_pure ⟨Code.quiet_builtin _ (by decide +kernel), codeAny_builtin entry_list_iadd' ?_⟩))
  show wpAny _ _ (Builtin.List.listExtendWith (.ref s.heap.objs.size) (.ref l) (.ref s.heap.objs.size)) _ _ { s with heap := s.heap.push (seqObj "list" #[] 0) }
  unfold Builtin.List.listExtendWith
  have ho' : (s.heap.push (seqObj "list" #[] 0)).get? l = some o := Heap.get?_push_of_some _ ho
  refine wpAny_bind (wpAny_typeOf (T := "tuple") ⟨o, ho', hc⟩ ?_)
  have ht : (Value.type "tuple" == Value.type "tuple") = true := by rfl
  rw [if_pos (by rw [ht]; simp)]
  refine wpAny_bind (listItems_at ho' hd ?_)
  refine wpAny_bind (listItems_at (xs := #[]) (n := 0) (Heap.get?_push_size _ rfl) rfl ?_)
  rw [if_neg (by simp)]
  refine wpAny_bind (listUpdate_at (xs := #[]) (n := 0) (Heap.get?_push_size _ rfl) rfl ?_ (Nat.zero_le _) (by show (#[] ++ vs.toArray).size ≤ sizeLine + 1; simp only [Array.size_append, List.size_toArray, List.length_nil]; omega))
  refine wpAny_pure ?_
  show wpAny (model P w) A (do
      let o ← load s.heap.objs.size
      match o.data with
      | .seq xs _ => pure xs.toList
      | _ => unsupported "internal:collect") Q E { s with heap := (s.heap.push (seqObj "list" #[] 0)).update s.heap.objs.size (Obj.mapSeq (· ++ vs.toArray)) }
  refine wpAny_bind (wpAny_load (get?_update_seq (Heap.get?_push_size _ rfl) _) ?_)
  show wpAny _ _ (pure ((#[] : Array Value) ++ vs.toArray).toList) Q E _
  rw [show ((#[] : Array Value) ++ vs.toArray).toList = vs by simp]
  exact wpAny_pure h
theorem sorted_strsT {l : Addr} {vs : List Value} {ss : List Str} {Q : Value → Shared → Prop} (hl : s.heap.IsTuple l vs.toArray) (hS : StrsAre vs ss) (hL : vs.length ≤ sizeLine)
    (h : ∀ (out : Array Value) (ss' : List Str), StrsAre out.toList ss' → ss'.Perm ss → sortedS ss' = true → Q (.ref (s.heap.objs.size + 1)) { s with heap := sortedAll s.heap vs out }) :
    wpAny (model P w) A (call (.builtin "sorted") [.ref l]) Q E s := by
  refine Calls.call_function_entry kind_sorted plain_sorted entry_sorted (args_sorted1 _) ?_
  unfold Builtin.«sorted»
  refine wpAny_bind (m := checkCount "sorted" 1 1 _) (wpAny_pure ?_)
  refine wpAny_bind (collect_tupT hl hL ?_)
  refine wpAny_bind (wpAny_newList ?_)
  have hsz : ((s.heap.push (seqObj "list" #[] 0)).update s.heap.objs.size (Obj.mapSeq (· ++ vs.toArray))).objs.size = s.heap.objs.size + 1 := by
    rw [Heap.size_update, size_push']
  have hoL : (((s.heap.push (seqObj "list" #[] 0)).update s.heap.objs.size (Obj.mapSeq (· ++ vs.toArray))).push (seqObj "list" vs.toArray 0)).get? (s.heap.objs.size + 1) = some (seqObj "list" vs.toArray 0) := by
    rw [← hsz]; exact Heap.get?_push_size _ rfl
  show wpAny _ _ _ _ _ { s with heap := ((s.heap.push (seqObj "list" #[] 0)).update s.heap.objs.size (Obj.mapSeq (· ++ vs.toArray))).push (seqObj "list" vs.toArray 0) }
  rw [hsz]
  refine wpAny_bind (wpAny_holding (wpAny_call_entry slot_list_sort ⟨_, hoL, rfl⟩ entry_list_sort (list_sort_treeKAny strKind_oneLt hoL hS.keysOf (fun v₁ v₂ rest e => keyKind_strs (by rw [← e]; exact hS)) hL fun st' hp hs => ⟨_, rfl, ?_⟩) (args_list_sort _)))
  obtain ⟨ss', h1, h2, h3⟩ := sorted_out_str hS hp hs
  exact wpAny_pure ⟨_, rfl, h _ ss' h1 h2 h3⟩
theorem call_setXT {l : Addr} {items : Array Value} (ns : List Str) {Q : Value → Shared → Prop} (hh : A.handled = none) (hl : s.heap.IsTuple l items) (hit : StrsAre items.toList ns) (hb : ns.length + 1 < scanBound)
    (h : ∀ (h' : Heap) (tk : Nat) (m : List Str), SetX P w h' s.heap.objs.size m → m.length ≤ ns.length → (∀ z, z ∈ m ↔ z ∈ ns) → (∀ b o, s.heap.get? b = some o → h'.get? b = some o) → Q (.ref s.heap.objs.size) { s with heap := h', toks := tk }) :
    wpAny (model P w) A (call (.type "set") [.ref l]) Q E s := by
  have hisz : items.size = ns.length := by
    have q := StrsAre.len_eq hit
    rw [Array.length_toList] at q
    exact q
  obtain ⟨c, tl, hmro⟩ := F.called_set.mro
  have hmade := F.called_set.made
  have hsub := F.called_set.sub
  have h1 := F.called_set.notType
  have h2 := F.called_set.canCreate
  have hct := F.typeCall_set_1 (.ref l)
  have hS : (s.heap.push (nSet w)).get? s.heap.objs.size = some (nSet w) := Heap.get?_push_size _ rfl
  have hT : Shared.TypeIs { s with heap := s.heap.push (nSet w) } (.ref s.heap.objs.size) "set" := ⟨_, hS, rfl⟩
  have hz1 : (s.heap.push (nSet w)).objs.size = s.heap.objs.size + 1 := Heap.size_push ..
  have hli := F.called_set.init.lookup
  have hbi := F.called_set.init.bind (.ref s.heap.objs.size)
  refine wpAny_call (codeAny_of_tree ?_)
  show wpAny _ _ (callAny (.type "set") _) _ _ _
  refine wpAny_pure ⟨Code.quiet_builtin _ (by decide +kernel), codeAny_builtin F.entry_type_call ?_⟩
  rw [Around.under_plain (weight_type_call_type "set" [.ref l] []) rfl]
  repeat (any_goals (first | assumption | wp_step))
  refine codeAny_mono (code_set_led1 (.ref l) (E := E) (Q₁ := fun obj s₁ => obj = .ref s.heap.objs.size ∧ s₁ = { s with heap := s.heap.push (nSet w) }) ⟨rfl, rfl⟩) fun r s₁ hr => ?_
  cases r with
  | error e => exact hr
  | ok fl =>
    cases fl with
    | ret obj =>
      obtain ⟨rfl, rfl⟩ := hr
      repeat (any_goals (first | assumption | wp_step))
      refine codeAny_mono (codeAny_call_builtin (R := wants (fun r s₂ => r = .none ∧ ∃ h' tk m, s₂ = { s with heap := h', toks := tk } ∧ SetX P w h' s.heap.objs.size m ∧ m.length ≤ ns.length ∧ (∀ z, z ∈ m ↔ z ∈ ns) ∧
          (∀ b o, s.heap.get? b = some o → h'.get? b = some o)) E) F.called_set.init.plain F.entry_set_init (check_set_init_1 hT ?_)) fun r₂ s₂ hr₂ => ?_
      · obtain ⟨ol, hol, hcl, nl, hdl⟩ := hl
        obtain ⟨ocls, odict, odata, oslots⟩ := ol
        simp only at hcl hdl
        subst hcl; subst hdl
        have hol' : (s.heap.push (nSet w)).get? l = some { cls := .type "tuple", dict := odict, data := .seq items nl, slots := oslots } := Heap.get?_push_of_some _ hol
        have hsls := F.sub_tuple_set
        have hslf := F.sub_tuple_frozenset
        have hne : (Value.type "tuple" == Value.type "dict") = false := by decide
        have hl1 : (s.heap.push (nSet w)).IsTuple l items := ⟨_, hol', rfl, nl, rfl⟩
        have hlS : l < s.heap.objs.size := Heap.lt_size hol
        have hh3 : A.in1.in1.in1.handled = none := by simp [hh]
        have hneI : l ≠ (s.heap.push (nSet w)).objs.size := by rw [hz1]; exact Nat.ne_of_lt (Nat.lt_succ_of_lt hlS)
        have hSf : s.heap.objs.size ∉ [(s.heap.push (nSet w)).objs.size, l] := by
          rw [hz1]; simp only [List.mem_cons, List.not_mem_nil, or_false, not_or]; exact ⟨Nat.ne_of_lt (Nat.lt_succ_self _), Nat.ne_of_gt hlS⟩
        have hval : ∀ (i : Nat) (v : Value), items[i]? = some v → ∃ k t, ns[i]? = some k ∧ v = .str k t := fun i v hv => by
          have hi : i < ns.length := by rw [← hisz]; exact (Array.getElem?_eq_some_iff.mp hv).1
          obtain ⟨t, e⟩ := SS.strs_at hit i v (by rw [Array.getElem?_toList]; exact hv)
          refine ⟨ns[i], t, List.getElem?_eq_getElem hi, ?_⟩
          rw [e, List.getD_eq_getElem?_getD, List.getElem?_eq_getElem hi] <;> rfl
        unfold Builtin.«set.__init__» noKeywords Builtin.Frozenset.updateFrom
        generalize hPI : pyIter = PI
        wp_walk
        subst hPI
        refine wpAny_pyIter_tuple hl1 ?_
        refine wpAny_bind (wpAny_runValue ?_)
        refine set_update_txs ((Walks.tuple hh3 _ l hneI items).toS) s.heap.objs.size
          hSf ns hisz hb hval (items.size - 0) 0 _ (by omega) (Nat.zero_le _)
          ⟨⟨_, Heap.get?_push_size _ rfl, rfl, rfl⟩, (hl1.push _)⟩ ⟨[], Nat.le_refl 0, fun z => Iff.rfl, setX_fresh (Heap.get?_push_of_some _ hS)⟩ fun s' m hm hc' hq' hS' => ?_
        obtain ⟨h', g2, d', tk', os'⟩ := s'
        have eg : g2 = s.gens := hm.gens
        have ed : d' = s.drawn := hm.drawn
        have eo : os' = s.os := hm.os
        subst eg; subst ed; subst eo
        show wpAny _ _ _ _ _ _
        refine wpAny_pure ?_
        show wpAny _ _ (ret Value.none) _ _ _
        rw [hisz] at hc'
        refine wpAny_pure ⟨rfl, h', tk', m, rfl, hS', hc', hq', fun b o e => ?_⟩
        have hb0 : b < s.heap.objs.size := Heap.lt_size e
        refine hm.heap b o ?_ (Heap.get?_push_of_some _ (Heap.get?_push_of_some _ e))
        rw [hz1]; simp only [List.mem_cons, List.not_mem_nil, or_false, not_or]; exact ⟨Nat.ne_of_lt hb0, Nat.ne_of_lt (Nat.lt_succ_of_lt hb0)⟩
      · cases r₂ with
        | error e => exact hr₂
        | ok fl₂ =>
          cases fl₂ with
          | ret r =>
            obtain ⟨rfl, h', tk, m, rfl, hS', hc', hq', hk'⟩ := hr₂
            repeat (any_goals (first | assumption | wp_step))
            exact h _ _ _ hS' hc' hq' hk'
          | _ => exact hr₂.elim
    | _ => exact hr.elim
end
section
variable {X : Cx}
/-- sorted(xs), xs a tuple of texts -/
def rSortT (K : PySem.W.Frag) : List V → Hp → VK → Prop := fun vs H Q => ∃ (a : Addr) (xs : List Str), vs = [V.ref a] ∧ SqT K H a (xs.map V.str) ∧
  ∀ (ys : List Str) (p : Addr), ys.Perm xs → sortedS ys = true → H p = none → Q (.ref p) (upd H p (.lst (ys.map V.str)))
theorem cr_sortT : CallR X (.builtin "sorted") (rSortT X.K) := by
  intro pins s σ H vs us Q I r h
  obtain ⟨a, xs, rfl, hs, q⟩ := h
  obtain ⟨its, rv, hl, hz⟩ := I.tuple hs
  rw [Vals.ref1 r]
  have hlen0 := rv.length
  refine sorted_strsT hl rv.strs (by rw [← hlen0]; exact hz) fun out ys h1 h2 h3 => ?_
  obtain ⟨ep, he'⟩ := PyProof.Rows.sortedAll_at s.heap its out
  have hlen : (ys.map V.str).length ≤ sizeLine := by rw [List.length_map] at hz; rw [List.length_map, h2.length_eq]; exact hz
  exact ⟨.ref _, upd H (s.heap.objs.size + 1) (.lst (ys.map V.str)), I.laid (t' := s.toks) (fun _ _ => PyProof.Rows.sortedAll_old) (Nat.le_succ _) ⟨hlen, out.toList, ep, vals_of_strs h1, he'⟩, rfl, q ys _ h2 h3 (I.hok.fresh (Nat.le_succ _))⟩
/-- as many members as texts: no text twice -/
theorem set_full {m xs : List Str} (nd : m.Nodup) (h : ∀ z, z ∈ m ↔ z ∈ xs) : m.length = xs.length ↔ xs.Nodup := by
  constructor
  · intro e
    exact (perm_few m xs nd (fun z hz => (h z).mp hz) (Nat.le_of_eq e.symm)).nodup_iff.mp nd
  · intro nx
    have a := perm_few m xs nd (fun z hz => (h z).mp hz)
    rcases Nat.le_total xs.length m.length with q | q
    · exact (a q).length_eq
    · exact (perm_few xs m nx (fun z hz => (h z).mpr hz) q).length_eq.symm
theorem set_few {m xs : List Str} (nd : m.Nodup) (h : ∀ z, z ∈ m ↔ z ∈ xs) : m.length ≤ xs.length := by
  rcases Nat.le_total m.length xs.length with q | q
  · exact q
  · exact Nat.le_of_eq (perm_few m xs nd (fun z hz => (h z).mp hz) q).length_eq
end
end Sw
namespace Sw
open PySem PySem.Spec PyProof.Rows L2
section
variable {P : Program} {w : World} {A : Around} {E : Value → Shared → Prop} {s : Shared} {a : Addr}
theorem sorted_setY {m : List Str} {Q : Value → Shared → Prop} (R : SetX P w s.heap a m) (hh : A.handled = none) (h64 : m.length ≤ 4000)
    (hQ : ∀ s' p (out : Array Value) (c : Nat) (ys : List Str), (∀ b o, s.heap.get? b = some o → s'.heap.get? b = some o) → s'.gens = s.gens → s'.os = s.os → s.heap.objs.size ≤ p →
      s'.heap.get? p = some (seqObj "list" out c) → StrsAre out.toList ys → ys.Perm m → sortedS ys = true → Q (.ref p) s') :
    wpAny (model P w) A (call (.builtin "sorted") [.ref a]) Q E s := by
  obtain ⟨⟨es, ep, t⟩, ho, T, nd, hb, hr, hl⟩ := R
  obtain ⟨ss, hss, hmem⟩ := strs_rows (P := P) (w := w) es.toList T.el
  have hsz : es.size = m.length := T.sz
  have hsl : ss.length = m.length := by
    rw [← StrsAre.len_eq hss, List.length_map, Array.length_toList]; exact hsz
  have pm0 : m.Perm ss := perm_few m ss nd (fun z hz => (hmem z).mpr ((T.mem z).mp hz)) (Nat.le_of_eq hsl)
  refine Calls.call_function_entry kind_sorted plain_sorted entry_sorted (args_sorted1 _) ?_
  unfold Builtin.«sorted»
  refine wpAny_bind (m := checkCount "sorted" 1 1 _) (wpAny_pure ?_)
  refine wpAny_bind (collect_set (A := A.in1) hh ⟨_, ho, rfl, rfl⟩ T.fit (Nat.lt_of_le_of_lt (Nat.le_of_eq hsz) hb) hr hl fun s1 vs k1 hz g1 o1 pm => ?_)
  have hvl : vs.length = m.length := by rw [pm.length_eq, List.length_map, Array.length_toList]; exact hsz
  have hS : StrsAre vs (vs.map strOf) := strsAre_map vs fun v hv => hss.all v (pm.mem_iff.mp hv)
  have pk : (vs.map strOf).Perm m := by
    have q := pm.map strOf
    rw [hss.strs] at q
    exact q.trans pm0.symm
  have h64' : vs.length ≤ 4000 := by rw [hvl]; exact h64
  have hL : vs.length ≤ sizeLine := by rw [sizeLine_eq]; omega
  refine wpAny_bind (wpAny_newList ?_ hL)
  have hoL : (s1.heap.push (seqObj "list" vs.toArray 0)).get? s1.heap.objs.size = some (seqObj "list" vs.toArray 0) := Heap.get?_push_size _ rfl
  refine wpAny_bind (wpAny_holding (wpAny_call_entry slot_list_sort ⟨_, hoL, rfl⟩ entry_list_sort
    (list_sort_treeKAny strKind_oneLt hoL hS.keysOf (fun v₁ v₂ rest e => keyKind_strs (by rw [← e]; exact hS)) hL fun st' hp hs => ⟨_, rfl, ?_⟩) (args_list_sort _)))
  obtain ⟨ys, a1, a2, a3⟩ := sorted_out_str hS hp hs
  obtain ⟨c, hc⟩ := sortedHeap_at (vs := vs) (out := (arrOf st').map (·.2)) hoL
  refine wpAny_pure ⟨_, rfl, hQ _ s1.heap.objs.size _ c ys (fun b u e => ?_) g1 o1 hz hc a1 (a2.trans pk) a3⟩
  have q := k1 b u e
  have hlt := Heap.lt_size q
  show (sortedHeap (s1.heap.push (seqObj "list" vs.toArray 0)) s1.heap.objs.size vs ((arrOf st').map (·.2))).get? b = some u
  rw [sortedHeap_old (Nat.ne_of_lt hlt) (by rw [size_push']; exact Nat.lt_succ_of_lt hlt)]
  exact Heap.get?_push_of_some _ q
end
section
variable {X : Cx}
/-- sorted(a set of texts) -/
def rSortY (P : Program) (w : World) : List V → Hp → VK → Prop := fun vs H Q => ∃ (a : Addr) (m : List Str), vs = [V.ref a] ∧ H a = some (SetXO P w a m) ∧ m.length ≤ 4000 ∧
  ∀ (ys : List Str) (p : Addr), ys.Perm m → sortedS ys = true → H p = none → Q (.ref p) (upd H p (.lst (ys.map V.str)))
theorem cr_sortY (hc : X.calm = true) : CallR X (.builtin "sorted") (rSortY X.prog X.w) := by
  intro pins s σ H vs us Q I r h
  obtain ⟨a, m, rfl, ha, h64, q⟩ := h
  have R : SetX X.prog X.w s.heap a m := (I.hok a _ ha).1
  rw [Vals.ref1 r]
  refine sorted_setY R (I.ok.hd hc) h64 fun s' p out c ys k g o hp hg hi pm hs => ?_
  have hlen : (ys.map V.str).length ≤ sizeLine := by rw [List.length_map, pm.length_eq, sizeLine_eq]; omega
  have hn : H p = none := I.hok.fresh hp
  have J : Inv X pins σ (upd H p (.lst (ys.map V.str))) { s with heap := s'.heap, gens := s'.gens, drawn := s'.drawn, toks := s'.toks } :=
    I.call (ch := []) (Un.laid k hp hn) (I.hok.laid k hp ⟨hlen, out.toList, c, vals_of_strs hi, hg⟩) (by rw [g]; exact I.bare) (fun _ z => nomatch z)
  have e : s' = { s with heap := s'.heap, gens := s'.gens, drawn := s'.drawn, toks := s'.toks } := by
    cases s'
    cases s
    cases o
    rfl
  rw [e]
  exact ⟨.ref p, _, J, rfl, q ys p pm hs hn⟩
/-- set(xs), xs a list of texts -/
def rSetY (K : PySem.W.Frag) (P : Program) (w : World) : List V → Hp → VK → Prop := fun vs H Q => ∃ (l : Addr) (xs : List Str), vs = [V.ref l] ∧ SqL K H l (xs.map V.str) ∧ xs.length ≤ 4000 ∧
  ∀ (p : Addr) (m : List Str), m.Nodup → m.length ≤ 4000 → (∀ z, z ∈ m ↔ z ∈ xs) → H p = none → Q (.ref p) (upd H p (SetXO P w p m))
theorem cr_setY (hc : X.calm = true) : CallR X (.type "set") (rSetY X.K X.prog X.w) := by
  intro pins s σ H vs us Q I r h
  obtain ⟨l, xs, rfl, hl, hf, q⟩ := h
  rw [Vals.ref1 r]
  obtain ⟨its, rv, pl, hz⟩ := I.list hl
  have hn : H s.heap.objs.size = none := I.hok.fresh (Nat.le_refl _)
  refine call_setX (P := X.prog) (w := X.w) xs (I.ok.hd hc) pl.isList (by simpa using strsAre_of rv) (by unfold scanBound; omega) fun h' tk m R hm hq k => ?_
  have nd : m.Nodup := R.elim fun _ z => z.2.2.1
  exact ⟨.ref s.heap.objs.size, upd H s.heap.objs.size (SetXO X.prog X.w s.heap.objs.size m), I.laid (t' := tk) k (Nat.le_refl _) (setXO_new R), rfl, q _ m nd (Nat.le_trans hm hf) hq hn⟩
/-- how many texts a set holds -/
def rLenX (P : Program) (w : World) : List V → Hp → VK → Prop := fun vs H Q => ∃ (a : Addr) (m : List Str), vs = [V.ref a] ∧ H a = some (SetXO P w a m) ∧ m.length ≤ 4000 ∧ Q (.int m.length) H
theorem cr_lenX : CallR X (.builtin "len") (rLenX X.prog X.w) := by
  intro pins s σ H vs us Q I r h
  obtain ⟨a, m, rfl, ha, h64, q⟩ := h
  obtain ⟨⟨es, ep, t⟩, ho, T, nd, hb, hr, hl⟩ : SetX X.prog X.w s.heap a m := (I.hok a _ ha).1
  rw [Vals.ref1 r]
  have hsz : es.size = m.length := T.sz
  exact call_len_set ho ⟨rfl, rfl, rfl⟩ rfl T.fit (by rw [hsz]; omega) ⟨.int m.length, H, I.tok _, ⟨_, by rw [hsz]⟩, q⟩
/-- set(xs), xs a tuple of texts -/
def rSetU (K : PySem.W.Frag) (P : Program) (w : World) : List V → Hp → VK → Prop := fun vs H Q => ∃ (l : Addr) (xs : List Str), vs = [V.ref l] ∧ SqT K H l (xs.map V.str) ∧ xs.length ≤ 4000 ∧
  ∀ (p : Addr) (m : List Str), m.Nodup → m.length ≤ 4000 → (∀ z, z ∈ m ↔ z ∈ xs) → H p = none → Q (.ref p) (upd H p (SetXO P w p m))
theorem cr_setU (hc : X.calm = true) : CallR X (.type "set") (rSetU X.K X.prog X.w) := by
  intro pins s σ H vs us Q I r h
  obtain ⟨l, xs, rfl, hl, hf, q⟩ := h
  rw [Vals.ref1 r]
  obtain ⟨its, rv, pl, hz⟩ := I.tuple hl
  have hn : H s.heap.objs.size = none := I.hok.fresh (Nat.le_refl _)
  refine call_setXT (P := X.prog) (w := X.w) xs (I.ok.hd hc) pl (by simpa using strsAre_of rv) (by unfold scanBound; omega) fun h' tk m R hm hq k => ?_
  have nd : m.Nodup := R.elim fun _ z => z.2.2.1
  exact ⟨.ref s.heap.objs.size, upd H s.heap.objs.size (SetXO X.prog X.w s.heap.objs.size m), I.laid (t' := tk) k (Nat.le_refl _) (setXO_new R), rfl, q _ m nd (Nat.le_trans hm hf) hq hn⟩
end
end Sw
namespace Sw
open PySem PySem.Spec PyProof.Rows L2
section
variable {J : It} {n : Nat} {G : Hp → Prop} {Y : Nat → Hp → V → Hp → Prop}
/-- a comprehension's outer turns, whatever a turn makes (B) -/
theorem oc_it (w : Walk J n G Y) {g : TG} {tt : TT} {B : L2.St → Hp → (Hp → Prop) → Prop} {vs : List Nat} {σ : L2.St} {H0 : Hp} {Qd : Hp → Prop} (Pv : Nat → Hp → Prop) (h0 : Pv 0 H0) (hG : ∀ i H, i ≤ n → Pv i H → G H)
    (hs : ∀ i x H H', i < n → Pv i H → Y i H x H' → g x (wipe σ vs) H' fun σ2 H2 => wipe σ2 vs = wipe σ vs ∧ tt σ2 H2 fun b H3 => if b = true then B σ2 H3 (Pv (i + 1)) else Pv (i + 1) H3) (hd : ∀ H, Pv n H → Qd H) :
    ∃ W : Nat → Nat → Hp → Prop, (∃ m, W 0 m H0) ∧ ∀ i m H, W i m H →
      (J.stop i H ∧ Qd H) ∨ (J.go i H ∧ ∃ Nx : Hp → Prop, (∀ H', Nx H' → ∃ m', m' < m ∧ W (i + 1) m' H') ∧ ∀ x H', J.yld i H x H' → g x (wipe σ vs) H' fun σ2 H2 => wipe σ2 vs = wipe σ vs ∧ tt σ2 H2 fun b H3 =>
        if b = true then B σ2 H3 Nx else Nx H3) := by
  refine ⟨fun i m H => m = n - i ∧ i ≤ n ∧ Pv i H, ⟨n, by simp, Nat.zero_le _, h0⟩, ?_⟩
  rintro i m H ⟨rfl, hi, p⟩
  have q := hG i H hi p
  by_cases hlt : i < n
  · exact .inr ⟨w.goes i H hlt q, Pv (i + 1), fun H' p' => ⟨n - (i + 1), by omega, rfl, hlt, p'⟩, fun x H' y => hs i x H H' hlt p (w.yields i H x H' hlt q y)⟩
  · have e : i = n := by omega
    subst e
    exact .inl ⟨w.stops H q, hd H p⟩
end
section
variable {X : Cx} {K : PySem.W.Frag}
theorem flatT {ys : List Str} : (ys.map V.str).all flatV = true := by
  rw [List.all_map]
  exact List.all_eq_true.mpr fun _ _ => rfl
theorem inVT {y : Str} {ys : List Str} : inV (.str y) (ys.map V.str) = decide (y ∈ ys) := by
  unfold inV
  rw [List.any_map]
  cases h : decide (y ∈ ys) with
  | true => exact List.any_eq_true.mpr ⟨y, of_decide_eq_true h, beq_self_eq_true y⟩
  | false => exact List.any_eq_false.mpr fun z hz e => of_decide_eq_false h (by rw [← eq_of_beq (show (z == y) = true from e)]; exact hz)
/-- a text in a list or tuple of texts -/
def rInT (K : PySem.W.Frag) (neg : Bool) : R2 := fun x y H Q => ∃ (z : Str) (p : Addr) (ys : List Str), x = .str z ∧ y = .ref p ∧ (SqL K H p (ys.map V.str) ∨ SqT K H p (ys.map V.str)) ∧ Q (.bl (if neg then !decide (z ∈ ys) else decide (z ∈ ys))) H
theorem op_inT (hK : X.K = K) : OpR X (compareOp .In) (rInT K false) := by
  subst hK
  intro pins s σ H x y v u Q I rx ry h
  obtain ⟨z, p, ys, rfl, rfl, hq, q⟩ := h
  exact op_in_seq pins s σ H _ _ v u Q I rx ry ⟨p, _, rfl, hq, rfl, flatT, by rw [inVT]; exact q⟩
theorem op_niT (hK : X.K = K) : OpR X (compareOp .NotIn) (rInT K true) := by
  subst hK
  intro pins s σ H x y v u Q I rx ry h
  obtain ⟨z, p, ys, rfl, rfl, hq, q⟩ := h
  exact op_notIn_seq pins s σ H _ _ v u Q I rx ry ⟨p, _, rfl, hq, rfl, flatT, by rw [inVT]; exact q⟩
/-- a key in a dict -/
def rInD : R2 := fun x y H Q => ∃ (a : Addr) (o : Option V), y = .ref a ∧ DGet H a x o ∧ Q (.bl o.isSome) H
theorem op_inD (hu : X.A.units + 1 < cLine) : OpR X (compareOp .In) rInD := by
  intro pins s σ H x y v u Q I rx ry h
  obtain ⟨a, o, rfl, g, q⟩ := h
  cases ry
  exact d_in hu I g rx fun s3 I3 => ⟨.bl o.isSome, H, I3, rfl, q⟩
end
end Sw
namespace Sw
open PySem PySem.Spec PyProof.Rows L2
section
variable {X : Cx}
theorem sw_dict {kx vx : Expr} {gs : List Comprehension} {scope : Scope} {pos py : Pos} {y : Str} {l : Nat} {env : Env} (hk : env.scope.kind = .function) (hy : env.scope.names.lookup y = some .local) (hl : (py.line == pos.line) = true)
    (ha : (scope.names.any fun (n, k) => n == y && (k == .local || k == .cell)) = false) : swapsWith (.DictComp kx vx gs scope pos) (some (.Name y py)) l env = pure true := by
  have ky : env.kindOf y = some .local := hy
  have hb : env.blockKind = .function := by unfold Env.blockKind; rw [hk]; rfl
  unfold swapsWith
  simp only [hb, ky, ha, Expr.pos, hl]
  rfl
/-- x = {k: v for ..} -/
theorem ps_setDc {i : Nat} {y : Str} {py : Pos} {kx vx tg iter : Expr} {ifs : List Expr} {scope : Scope} {own : List (Str × Nat)} {pos spos : Pos} {wi : TI} {g : TG} {tt : TT} {tk tv : TE} (hc : X.calm = true) (hN : X.N.Nodup) (hy : X.N[i]? = some y) (hyl : X.env.scope.names.lookup y = some .local)
    (hsw : swapsWith (.DictComp kx vx [⟨tg, iter, ifs, 0⟩] scope pos) (some (.Name y py)) spos.line X.env = pure true) (hi : PI X tg iter wi) (ok : BlkOk X.N X.env.scope scope own)
    (hg : ∀ (s : Shared) (H : Hp) (C : Addr) (cl : List (Str × Addr)) (fp : List Addr), PG (X.blk s H scope (compEnvC scope cl C X.env) fp) tg g) (ht : ∀ (s : Shared) (H : Hp) (C : Addr) (cl : List (Str × Addr)) (fp : List Addr), PTs (X.blk s H scope (compEnvC scope cl C X.env) fp) ifs tt)
    (hk : ∀ (s : Shared) (H : Hp) (C : Addr) (cl : List (Str × Addr)) (fp : List Addr), PE (X.blk s H scope (compEnvC scope cl C X.env) fp) kx tk)
    (he : ∀ (s : Shared) (H : Hp) (C : Addr) (cl : List (Str × Addr)) (fp : List Addr), PE (X.blk s H scope (compEnvC scope cl C X.env) fp) vx tv) (hs : ∀ x, foldedSetIterable iter X.env x = pure x := by intro _; rfl) :
    PS X (.Assign [.Name y py] (.DictComp kx vx [⟨tg, iter, ifs, 0⟩] scope pos) spos) (tAsg (tDc wi g tt tk tv (own.map (·.2))) (gName i)) := by
  refine ⟨fun pins s σ H D I h => ?_⟩
  rw [exec_Assign_Name_used _ _ _ _ hsw]
  refine wpAny_bind (wpAny_standAt (wpAny_bind ?_))
  show wpAny _ X.A (do let _ ← comprehension (.DictComp kx vx [⟨tg, iter, ifs, 0⟩] scope pos) scope X.env (firstIterPos [⟨tg, iter, ifs, 0⟩] pos) newDict false (eval iter X.env) (some (assign (.Name y py) X.env))) _ _ s
  have h : tDc wi g tt tk tv (own.map (·.2)) σ H (fun x H1 => gName i x σ H1 D.nx) := h
  refine wpAny_bind (thn (dc_core (Qf := fun _ s' => SP X pins D .next s') hc hN I hi ok hg ht hk he hs h fun L C s' m H' I' q hn f => ?_) fun _ s' hq => wpAny_pure (wpAny_pure hq))
  show wpAny _ _ (assign (.Name y py) X.env (.ref L)) _ _ _
  refine wpAny_assign_Name (store_ok2 (v := V.ref L) I' hN hy (.inl hyl) rfl (fun s2 I2 ⟨a, sb, ha⟩ => ?_) (.inr hyl))
  obtain ⟨f0, f1, f2, f3, f4, f5⟩ := f
  have haC : C ≠ a := by
    rcases ha with z | z
    · rw [z]; exact f1
    · exact fun e => f4 y a z e.symm
  refine ⟨m, hn.sameBut sb haC, fun h3 sb3 => ?_⟩
  exact ⟨_, H', I2.turned (t' := s2.toks) (fun b o hb e => (sb3.2 b hb).trans e) f0 f1 f3 f4 f5, q⟩
end
section
variable {X : Cx} {K : PySem.W.Frag}
theorem cr_allK (hK : X.K = K) (hc : X.calm = true) : CallR X (.builtin "all") (rAll K) := by
  subst hK
  exact cr_all hc
theorem cr_anyK (hK : X.K = K) (hc : X.calm = true) : CallR X (.builtin "any") (rAny K) := by
  subst hK
  exact cr_any hc
theorem call_isDK (hK : X.K = K) : CallR X (.builtin "isinstance") (rIsD K) := by
  subst hK
  exact call_isD
theorem pt_truthK {a : Expr} {ta : TE} (hK : X.K = K) (ha : PE X a ta) (he : ∀ whole, isTrue a X.env whole = (do let v ← whole; standAt a.pos; holding [v] (truthy v))) :
    PT X a (fun σ H Q => ta σ H fun x H' => ∃ k, TruV K x H' k ∧ Q k H') := by
  subst hK
  exact pt_truth ha he
end
end Sw
namespace Sw
open PySem PySem.Spec PyProof.Rows L2
section
variable {X : Cx} {K : PySem.W.Frag}
theorem pss_never {st : List Stmt} : PSs X st (fun _ _ _ => False) := ⟨fun _ _ _ _ _ _ h => False.elim h⟩
/-- a slice of a tuple, or of a text -/
theorem sl_both : SlR X (fun x lo hi H Q => rSlA X.K x lo hi H Q ∨ rSlS x lo hi H Q) := by
  intro pins s σ H x v vl vu lo hi sl Q I rx hs pl pu h
  rcases h with h | h
  · exact sl_tupA pins s σ H x v vl vu lo hi sl Q I rx hs pl pu h
  · exact sl_str pins s σ H x v vl vu lo hi sl Q I rx hs pl pu h
end
end Sw
/-! sorted(.., key=lambda x: ..): the lambda's call, the rule. -/
namespace Sw
open PySem PySem.Spec PySem.Calls PyProof.Rows L2 LamX
/-- the frame of a call of the lambda at f -/
abbrev lamE (q : Str) (scope : Scope) (L f c' : Addr) (cl : List (Str × Addr)) : Env := PySem.W.envX q scope L f (.ref c') cl
/-- a call of a lambda of one parameter, whose body makes nothing but an integer -/
theorem key_call {prog : Program} {w : World} {A : Around} {s : Shared} {f c' : Addr} {q x : Str} {params : Arguments} {body : Expr} {scope : Scope} {cl : List (Str × Addr)} {pm ctv v : Value} {k : Int}
    (hroom : A.depth < recursionLimit) (hlim : s.heap.NoLimit) (hf : s.heap.get? f = some (PySem.W.kla_obj "<lambda>" q params body scope cl pm c' ctv))
    (hco : scope.isCoroutine = false) (hgen : scope.isGenerator = false) (hkind : scope.kind = .function) (hcell : ∀ y ∈ scope.names, y.2 ≠ .cell) (hpar : scope.names.lookup x = some .local)
    (hcd : s.heap.CodeRec (.ref c') q) (hbind : ∀ (q : Str) (cl : List (Str × Addr)) (pm cv ctv v : Value), bindArgs (PySem.W.kla_fn "<lambda>" q params body scope cl pm cv ctv) ⟨[v], []⟩ = pure [(x, v)])
    (hbody : ∀ (h₁ : Heap) (tk : Nat), (∀ b o, s.heap.get? b = some o → h₁.get? b = some o) → h₁.Ns s.heap.objs.size (fun y => [(x, v)].reverse.lookup y) →
      wpAny (model prog w) (A.deeper (lamE q scope s.heap.objs.size f c' cl)) (eval body (lamE q scope s.heap.objs.size f c' cl)) (fun u s' => ∃ t tk', u = .int k t ∧ s' = { s with heap := h₁, toks := tk' }) (fun _ _ => False) { s with heap := h₁, toks := tk }) :
    wpAny (model prog w) A (call (.ref f) [v]) (PySem.W.KeyPure (.int k) s) (fun _ _ => False) s := by
  refine wpAny_call ?_
  refine PySem.W.kla_callFunE hroom hf rfl hco hgen rfl hcd ?_
  rw [hbind]
  refine wpAny_pure (wpAny_newFunctionEnv hcell (fun y hy => ?_) (fun h₁ hns hsb => ?_) hkind)
  · rw [List.mem_singleton.mp hy]
    exact hpar
  · have kp : ∀ b o, s.heap.get? b = some o → h₁.get? b = some o := fun b o e => hsb.extBut b o (Nat.ne_of_lt (Heap.lt_size e)) (Heap.get?_push_of_some _ e)
    refine ⟨hlim.keeps kp, PySem.W.kla_codeExpr (wpAny_mono (hbody h₁ _ kp hns) (fun u s' z => ?_) fun _ _ z => z.elim)⟩
    obtain ⟨t, tk', rfl, rfl⟩ := z
    exact ⟨h₁, tk', rfl, kp, .int k t⟩
/-- x[0] * z // x[1], x a parameter and z a name of the def around -/
theorem key_scaled {prog : Program} {w : World} {A : Around} {s : Shared} {env : Env} {x z : Str} {m : Str → Option Value} {t c : Addr} {n d S : Int} {t1 t2 t3 : Tok} {j1 j2 : Nat} {p1 p2 p3 p4 p5 p6 p7 p8 p9 : Pos}
    (hk : env.scope.kind = .function) (hx : env.kindOf x = some .local) (hz : env.kindOf z = some .free) (hn : s.heap.Ns env.locals m) (hm : m x = some (.ref t)) (ht : IsTup s.heap t #[.int n t1, .int d t2])
    (hc : env.cells.lookup z = some c) (hv : s.heap.IsCell c (some (.int S t3))) (hw : CMulW n S) (hd : CDivW (n * S) d) (d1 : (x == ("__debug__" : Str)) = false := by decide) (d2 : (z == ("__debug__" : Str)) = false := by decide) (d3 : (z == ("__classdict__" : Str)) = false := by decide) :
    wpAny (model prog w) A (eval (.BinOp (.BinOp (.Subscript (.Name x p1) (.Constant (.int 0) j1 p2) p3) .Mult (.Name z p4) p5) .FloorDiv (.Subscript (.Name x p6) (.Constant (.int 1) j2 p7) p8) p9) env)
      (fun u s' => ∃ tk tk', u = .int (n * S / d) tk ∧ s' = { s with toks := tk' }) (fun _ _ => False) s := by
  refine wpAny_BinOp (wpAny_BinOp ?_)
  refine Subscript_ (wpAny_Name (wpAny_loadName_local hk hx hn hm (wpAny_Constant_int ?_)) d1)
  refine subscriptTail_builtinR (x := .int n t1) (T := "tuple") ht.typeIs slot_tuple_getitem.lookup (getItem_tuple (j := 0) ht (by decide) (by decide) (by rfl) (by rfl) ⟨rfl, ?_⟩)
  refine wpAny_Name (wpAny_loadName_free hk hz hc hv ?_ d3) d2
  refine mul_int ?_ hw.ok
  refine Subscript_ (wpAny_Name (wpAny_loadName_local hk hx hn hm (wpAny_Constant_int ?_)) d1)
  refine subscriptTail_builtinR (x := .int d t2) (T := "tuple") ht.typeIs slot_tuple_getitem.lookup (getItem_tuple (j := 1) ht (by decide) (by decide) (by rfl) (by rfl) ⟨rfl, ?_⟩)
  have h0 : 0 < d := hd.1
  refine floordiv_int (by omega) ?_ ?_
  · rw [Int.fdiv_eq_ediv_of_nonneg _ (by omega)]
    exact ⟨_, _, rfl, rfl⟩
  · exact .inl (PyProof.noPylong_of_log2 hd.2)
/-- the order by the key n * S // d -/
def keyV (S : Int) (nd : V → Int × Int) (v : V) : Int := (nd v).1 * S / (nd v).2
def sortedV (S : Int) (nd : V → Int × Int) (xs : List V) : List V := xs.mergeSort fun a b => decide (keyV S nd a ≤ keyV S nd b)
/-- sorted(e, key=lambda x: x[0] * z // x[1]), z in the slot i -/
def tSortS (K : PySem.W.Frag) (T : List (Addr × Str)) (i : Nat) (te : TE) : TE := fun σ H Q => te σ H fun y H1 => Tabs T H1 ∧ ∃ (a : Addr) (xs : List V) (S : Int) (nd : V → Int × Int), y = .ref a ∧ SqL K H1 a xs ∧ σ[i]? = some (some (.int S)) ∧
  (∀ v ∈ xs, Cpl K H1 v (nd v).1 (nd v).2 ∧ CMulW (nd v).1 S ∧ CDivW ((nd v).1 * S) (nd v).2) ∧ ∀ H2 p, ExtN H1 H2 → Tabs T H2 → H2 p = none → Q (.ref p) (upd H2 p (.lst (sortedV S nd xs)))
theorem each_vals : ∀ {xs : List V} {us : List Value}, Vals xs us → PySem.W.EachIs (fun (u : Value) (v : V) => RelV v u) us xs
  | _, _, .nil => .nil
  | _, _, .cons h t => .cons h (each_vals t)
theorem vals_each : ∀ {xs : List V} {us : List Value}, PySem.W.EachIs (fun (u : Value) (v : V) => RelV v u) us xs → Vals xs us
  | _, _, .nil => .nil
  | _, _, .cons h t => .cons h (vals_each t)
section
variable {X : Cx}
theorem pe_sortS {T : List (Addr × Str)} {c P : Addr} {i k : Nat} {f a z : Str} {e : Expr} {te : TE} {params : Arguments} {scope : Scope} {j1 j2 : Nat} {p kpos lpos pos p1 p2 p3 p4 p5 p6 p7 p8 p9 : Pos}
    (hg : Gl X f) (hm : X.mg f = none) (hv : bootBuiltins f = some (.builtin "sorted")) (ha : PE X e te) (TB : TabB X.base X.mg c P) (hcode : X.env.code = .ref c) (hmT : (P, X.env.qual ++ "<lambda>") ∈ T) (hu : ∀ p ∈ T, p.1 = P → p.2 = X.env.qual ++ "<lambda>")
    (hr : Room k X.A) (hi : X.N[i]? = some z) (hzc : X.env.scope.names.lookup z = some .cell) (hkind : scope.kind = .function) (hco : scope.isCoroutine = false) (hgen : scope.isGenerator = false) (hnames : scope.names = [(a, .local), (z, .free)]) (haz : (z == a) = false)
    (hdef : defaultsOf params X.env = ([], [])) (hbind : ∀ (q : Str) (cl : List (Str × Addr)) (pm cv ctv v : Value), bindArgs (PySem.W.kla_fn "<lambda>" q params (.BinOp (.BinOp (.Subscript (.Name a p1) (.Constant (.int 0) j1 p2) p3) .Mult (.Name z p4) p5) .FloorDiv (.Subscript (.Name a p6) (.Constant (.int 1) j2 p7) p8) p9) scope cl pm cv ctv) ⟨[v], []⟩ = pure [(a, v)])
    (hn : f ≠ "__name__" := by decide) (hdb : (f == ("__debug__" : Str)) = false := by decide) (d1 : (a == ("__debug__" : Str)) = false := by decide) (d2 : (z == ("__debug__" : Str)) = false := by decide) (d3 : (z == ("__classdict__" : Str)) = false := by decide)
    (he : backTo pos (starEach [e] X.env) = (false, eval e X.env) :: backTo pos (starEach [] X.env) := by rfl) (hpl : (backTo pos (starEach [e] X.env)).any (·.1) = false := by rfl) :
    PE X (.Call (.Name f p) [e] [⟨some "key", .Lambda params (.BinOp (.BinOp (.Subscript (.Name a p1) (.Constant (.int 0) j1 p2) p3) .Mult (.Name z p4) p5) .FloorDiv (.Subscript (.Name a p6) (.Constant (.int 1) j2 p7) p8) p9) scope lpos, kpos⟩] pos) (tSortS X.K T i te) := by
  refine ⟨fun pins s σ H Q I h => ?_⟩
  have hfree : ∀ y ∈ scope.names, y.2 = .free → ∃ c, X.env.cells.lookup y.1 = some c := fun y hy e => by
    rw [hnames] at hy
    rcases List.mem_cons.mp hy with q | q
    · rw [q] at e
      cases e
    · rw [List.mem_singleton.mp q]
      exact I.ok.has _ (.inl hzc)
  refine wpAny_Call_Name_kw (ld_blt I hg hm hv ?_ hn hdb)
  refine PyProof.Rows.callWith_kw ?_ he hpl (by rfl) (by rfl)
  rw [he]
  refine Calls.spliced_cons (thn (ha.run pins s σ H _ I h) fun u s1 ⟨y, H1, I1, r1, q1⟩ => Calls.spliced_nil ?_)
  obtain ⟨hT, l, xs, S, nd, rfl, hS, hσ, hkeys, q⟩ := q1
  obtain rfl : u = Value.ref l := r1
  show wpAny _ _ (evalAll ((do let v ← eval (.Lambda params _ scope lpos) X.env; standAt pos; pure v) :: [])) _ _ s1
  refine wpAny_evalAll_cons (wpAny_bind (lam_make2 I1 TB hcode hmT hu hT hdef hfree fun f2 c' pm ctv H2 s2 I2 eN T2 hf hfn hfr hco2 => wpAny_bind (wpAny_standAt (wpAny_pure (wpAny_evalAll_nil ?_)))))
  show wpAny _ _ (call (.builtin "sorted") [.ref l] [(Str.ofString "key", .ref f2)]) _ _ s2
  have e2 : ∀ b o, H1 b = some o → (∀ ps, o ≠ .tbl ps) → H2 b = some o := eN
  have hS2 : SqL X.K H2 l xs := by
    rcases hS with (h | ⟨ob, h⟩) | h
    · exact .inl (.inl (e2 _ _ h (fun _ z => nomatch z)))
    · exact .inl (.inr ⟨ob, e2 _ _ h (fun _ z => nomatch z)⟩)
    · exact .inr h
  have cT : ∀ {a' : Addr} {ys : List V}, SqT X.K H1 a' ys → SqT X.K H2 a' ys := fun {a' ys} h => by
    rcases h with (h | ⟨ob, h⟩) | h
    · exact .inl (.inl (e2 _ _ h (fun _ z => nomatch z)))
    · exact .inl (.inr ⟨ob, e2 _ _ h (fun _ z => nomatch z)⟩)
    · exact .inr h
  obtain ⟨its, rv, hl, hz⟩ := I2.list hS2
  have hh := hr.units
  have hlen : xs.length ≤ sizeLine := hz
  -- the captured name's cell
  obtain ⟨m, hm2, hl2⟩ := I2.loc
  obtain ⟨uS, rS, look⟩ := hl2 i z (.int S) hi hσ (.inr (.inl hzc))
  obtain ⟨tS, rfl⟩ := rS
  obtain ⟨cz, hcz, hcell⟩ : ∃ cz, X.env.cells.lookup z = some cz ∧ s2.heap.IsCell cz (some (.int S tS)) := by
    rcases look with ⟨k1, _⟩ | ⟨_, cz, h1, h2⟩
    · have k2 : X.env.scope.names.lookup z = some .local := k1
      rw [hzc] at k2
      cases k2
    · exact ⟨cz, h1, h2⟩
  refine PySem.W.sorted_key_data (b := false) (vs := its) (bs := xs) (R := fun u v => RelV v u) (fun v => .int (keyV S nd v)) hl.isList (each_vals rv) (PySem.W.AllAlike.of fun _ _ => by simp [PySem.W.alike]) (PySem.W.Sortable.others fun _ => ⟨by simp, by simp⟩) hlen (fun v _ => ?_) (PyProof.Rows.ksk_s1 _ _) (fun _ => PyProof.Rows.ksk_l1 _ _) (fun _ => PyProof.Rows.ksk_t1 _ _)
    (fun u v hR hv h tk kp => ?_) fun out c2 h' tk kp _ hD _ eo => ?_
  · have : (PyData.int (keyV S nd v)).depth = 0 := by simp [PyData.depth]
    omega
  · obtain ⟨⟨t, rfl, ht⟩, hw, hd⟩ := hkeys v hv
    obtain ⟨its2, r2, pl, _⟩ := I2.tuple (cT ht)
    obtain rfl : u = Value.ref t := hR
    cases r2 with
    | cons ra rb =>
      cases rb with
      | cons rb rc =>
        cases rc
        obtain ⟨ta, rfl⟩ := ra
        obtain ⟨tb, rfl⟩ := rb
        obtain ⟨⟨oc, vs', tq, hoc, hdc, hvc⟩, _, _⟩ := I2.hok c' _ hco2
        have lka : scope.names.lookup a = some .local := by rw [hnames]; simp [List.lookup]
        have lkz : scope.names.lookup z = some .free := by rw [hnames]; simp [List.lookup, haz]
        refine key_call (x := a) (s := { s2 with heap := h, toks := tk }) hr.depth (I2.nolimit.keeps kp) (kp _ _ hf) hco hgen hkind (fun y hy e => ?_) lka ⟨c', oc, vs', tq, rfl, kp _ _ hoc, hdc, hvc⟩ hbind fun h₁ tk' kp1 hns => ?_
        · rw [hnames] at hy
          rcases List.mem_cons.mp hy with w | w
          · rw [w] at e
            cases e
          · rw [List.mem_singleton.mp w] at e
            cases e
        · have kk : ∀ b o, s2.heap.get? b = some o → h₁.get? b = some o := fun b o e => kp1 b o (kp b o e)
          refine wpAny_mono (key_scaled (s := { s2 with heap := h₁, toks := tk' }) (c := cz) (t := t) (t3 := tS) hkind lka lkz hns (by simp [List.lookup]) (pl.keeps kk) ?_ ?_ hw hd d1 d2 d3) (fun u s' w => w) fun _ _ w => w
          · show List.lookup z (cloFrom X.env.cells scope.names []) = some cz
            rw [hnames]
            simp [cloFrom, hcz]
          · obtain ⟨o, ho, hdo⟩ := hcell
            exact ⟨o, kk _ _ ho, hdo⟩
  · have hv := vals_each eo
    have eL : xs.mergeSort (PySem.W.dataLe false fun v => .int (keyV S nd v)) = sortedV S nd xs := by
      rw [PySem.W.dataLe_int]
      rfl
    rw [eL] at hv
    refine ⟨.ref (s2.heap.objs.size + 1), _, I2.laid (a := s2.heap.objs.size + 1) (o := .lst (sortedV S nd xs)) (t' := tk) kp (Nat.le_succ _) ⟨?_, out, c2, hv, hD⟩, rfl, q H2 _ eN T2 (I2.hok.fresh (Nat.le_succ _))⟩
    rw [show (sortedV S nd xs).length = xs.length from List.length_mergeSort _]
    exact hlen
end
end Sw
/-! Dicts whose keys are couples of integers, the keys' tuples wherever they lie. -/
namespace Sw
open PySem PySem.Spec PySem.Calls PyProof.Rows L2
/-- just this object -/
def exO (a : Addr) (o : Obj) : HO := .ext fun h => h.get? a = some o
theorem exO_tbl {a : Addr} {o : Obj} (ps : Array Value) : exO a o ≠ .tbl ps := fun z => by
  unfold exO at z
  cases z
/-- an entry: the key, the place of its tuple, the value -/
abbrev Ent := (Int × Int) × Addr × V
abbrev EntL := List Key × Addr × Value
def kyL (f : Int × Int) : List Key := [.inl f.1, .inl f.2]
theorem kyL_inj {f g : Int × Int} : kyL f = kyL g ↔ f = g := by
  constructor
  · intro h
    unfold kyL at h
    injection h with h1 h2
    injection h2 with h3 _
    injection h1 with h1
    injection h3 with h3
    exact Prod.ext h1 h3
  · rintro rfl
    rfl
def getX (es : List Ent) (k : Int × Int) : Option V := (es.find? fun e => decide (e.1 = k)).map (·.2.2)
def putX (es : List Ent) (k : Int × Int) (b : Addr) (v : V) : List Ent := if (getX es k).isSome = true then es.map (fun e => if e.1 = k then (e.1, e.2.1, v) else e) else es ++ [(k, b, v)]
theorem putX_length (es : List Ent) (k : Int × Int) (b : Addr) (v : V) : (putX es k b v).length ≤ es.length + 1 := by
  unfold putX
  split
  · rw [List.length_map]
    omega
  · rw [List.length_append]
    exact Nat.le_refl _
section
variable (P : Program) (w : World)
abbrev kT : HeapKind P w (List Key) := tupleKind (mixKind P w)
/-- the object is a dict of these entries -/
structure DXo (o : Obj) (xs : List EntL) : Prop where
  ex : o.ExactDict
  dat : ∃ es ep, o.data = .dict es ep ∧ es.toList = xs.map (entryOfKey (kT P w))
  nd : (xs.map (·.1)).Nodup
def PX (K : PySem.W.Frag) (H : Hp) : List Ent → List EntL → Prop := Paired fun p x => x.1 = kyL p.1 ∧ x.2.1 = p.2.1 ∧ SqT K H p.2.1 [.int p.1.1, .int p.1.2] ∧ RelV p.2.2 x.2.2
/-- the dict at a has these entries -/
def DX (K : PySem.W.Frag) (H : Hp) (a : Addr) (es : List Ent) : Prop := ∃ o xs, (a == sysModules) = false ∧ es.length ≤ sizeLine ∧ H a = some (exO a o) ∧ DXo P w o xs ∧ PX K H es xs
end
section
variable {P : Program} {w : World} {K : PySem.W.Frag} {H H' : Hp} {a b : Addr} {es : List Ent} {xs : List EntL} {k : Int × Int} {v : V} {u : Value}
theorem PX.mono (h : PX K H es xs) (f : ∀ {p : Addr} {ys : List V}, SqT K H p ys → SqT K H' p ys) : PX K H' es xs := Paired.mapP h fun _ _ z => ⟨z.1, z.2.1, f z.2.2.1, z.2.2.2⟩
theorem PX.val (h : PX K H es xs) (k : Int × Int) : RelO (getX es k) ((atKey xs (kyL k)).map (·.2)) := by
  unfold getX atKey
  induction h with
  | nil => exact True.intro
  | @cons p x ps xs hp t ih =>
    obtain ⟨e1, e2, _, e4⟩ := hp
    rw [List.find?_cons, List.find?_cons, e1]
    by_cases q : p.1 = k
    · rw [decide_eq_true q, decide_eq_true (kyL_inj.mpr q)]
      exact e4
    · rw [decide_eq_false q, decide_eq_false (fun z => q (kyL_inj.mp z))]
      exact ih
theorem isSome_map' {α β : Type} (f : α → β) (o : Option α) : (o.map f).isSome = o.isSome := by cases o <;> rfl
theorem PX.put (h : PX K H es xs) (hb : SqT K H b [.int k.1, .int k.2]) (hv : RelV v u) : PX K H (putX es k b v) (storedH xs (kyL k) b u) := by
  have e := (h.val k).isSome_eq
  rw [isSome_map'] at e
  unfold putX storedH
  rw [e]
  by_cases q : (atKey xs (kyL k)).isSome = true
  · rw [if_pos q, if_pos q]
    clear q e
    induction h with
    | nil => exact .nil
    | @cons p x ps xs hp t ih =>
      obtain ⟨e1, e2, e3, e4⟩ := hp
      refine .cons ?_ ih
      unfold putAt
      dsimp only
      by_cases q : p.1 = k
      · rw [if_pos q, if_pos (by rw [e1]; exact kyL_inj.mpr q)]
        exact ⟨e1, e2, e3, hv⟩
      · rw [if_neg q, if_neg (fun z => q (kyL_inj.mp (e1.symm.trans z)))]
        exact ⟨e1, e2, e3, e4⟩
  · rw [if_neg q, if_neg q]
    exact Paired.snoc h ⟨rfl, rfl, hb, hv⟩
theorem DX.mono (h : DX P w K H a es) (ha : ∀ o, H a = some (exO a o) → H' a = some (exO a o)) (f : ∀ {p : Addr} {ys : List V}, SqT K H p ys → SqT K H' p ys) : DX P w K H' a es := by
  obtain ⟨o, xs, h1, h2, h3, h4, h5⟩ := h
  exact ⟨o, xs, h1, h2, ha o h3, h4, h5.mono f⟩
theorem DX.same (h : DX P w K H a es) (s : Same H H') : DX P w K H' a es := h.mono (fun o => s _ _) fun q => s.seqT q
theorem DX.ne (h : DX P w K H a es) {c : Addr} (hc : H c = none) : a ≠ c := fun z => by
  obtain ⟨o, xs, h1, h2, h3, _⟩ := h
  rw [z, hc] at h3
  cases h3
theorem sqT_ext {o o' : Obj} (ha : H a = some (exO a o)) {p : Addr} {ys : List V} (h : SqT K H p ys) : SqT K (upd H a (exO a o')) p ys := by
  have ne : ∀ u, H p = some u → (∀ φ, u ≠ .ext φ) → p ≠ a := fun u e n z => by
    rw [z, ha] at e
    exact n _ (Option.some.inj e).symm
  rcases h with (h | ⟨ob, h⟩) | h
  · exact .inl (.inl (by rw [upd_ne (ne _ h (fun _ z => nomatch z))]; exact h))
  · exact .inl (.inr ⟨ob, by rw [upd_ne (ne _ h (fun _ z => nomatch z))]; exact h⟩)
  · exact .inr h
end
section
variable {X : Cx} {pins : List (Addr × Obj)} {σ : L2.St} {H : Hp} {s : Shared} {a b : Addr} {es : List Ent} {k : Int × Int} {A : Around} {E : Value → Shared → Prop}
theorem key_is (I : Inv X pins σ H s) (h : SqT X.K H b [.int k.1, .int k.2]) : (kT X.prog X.w).is s.heap (kyL k) b := by
  obtain ⟨its, r, ⟨o, h1, h2, n, h3⟩, _⟩ := I.tuple h
  exact ⟨o, its.toArray, n, h1, h2, h3, by
    have r' : Vals ((kyL k).map kV) its := r
    simpa using items_are (P := X.prog) (w := X.w) r'⟩
theorem px_is (I : Inv X pins σ H s) {xs : List EntL} (h : PX X.K H es xs) : ∀ x ∈ xs, (kT X.prog X.w).is s.heap x.1 x.2.1 := by
  induction h with
  | nil => exact fun x hx => nomatch hx
  | @cons p x ps xs hp t ih =>
    intro y hy
    rcases List.mem_cons.mp hy with rfl | hy
    · rw [hp.1, hp.2.1]
      exact key_is I hp.2.2.1
    · exact ih y hy
theorem dx_rd (I : Inv X pins σ H s) (h : DX X.prog X.w X.K H a es) : (a == sysModules) = false ∧ es.length ≤ sizeLine ∧ ∃ xs, PX X.K H es xs ∧ s.heap.DictOfH (kT X.prog X.w) a xs := by
  obtain ⟨o, xs, h1, h2, h3, ⟨d1, ⟨en, ep, d2, d3⟩, d4⟩, h5⟩ := h
  obtain ⟨q, _, _⟩ := I.hok a _ h3
  exact ⟨h1, h2, xs, h5, o, en, ep, q, d1, d2, d3, px_is I h5, d4⟩
/-- d[k] = v -/
theorem dx_set {v : V} {u : Value} {Q : Unit → Shared → Prop} (hu : A.units + 1 < cLine) (I : Inv X pins σ H s) (h : DX X.prog X.w X.K H a es) (hb : SqT X.K H b [.int k.1, .int k.2]) (hv : RelV v u) (hl : es.length < sizeLine)
    (q : ∀ o s', DX X.prog X.w X.K (upd H a (exO a o)) a (putX es k b v) → Inv X pins σ (upd H a (exO a o)) s' → Q () s') : wpAny (model X.prog X.w) A (setItem (.ref a) (.ref b) u) Q E s := by
  obtain ⟨h1, h2, xs, px, dd⟩ := dx_rd I h
  obtain ⟨o0, _, _, _, h3, _⟩ := h
  refine wpAny_setItem_heap (hsz := by rw [← Paired.length px]; exact h2) (tupleKind_room_in1 hu) (key_is I hb) dd fun h' dd' hs => ?_
  obtain ⟨o, en, ep, e1, e2, e3, e4, _, e5⟩ := dd'
  refine q o _ ⟨o, _, h1, by have := putX_length es k b v; omega, upd_same, ⟨e2, ⟨en, ep, e3, e4⟩, e5⟩, (px.put hb hv).mono fun z => sqT_ext h3 z⟩ ?_
  exact d_write I (by rw [h3]; exact True.intro) hs ⟨o, e1⟩ ⟨e1, ⟨o, e1⟩, fun g1 g2 p st => st _ p⟩
/-- the same by a comprehension -/
theorem dx_dset {v : V} {u : Value} {Q : Unit → Shared → Prop} (hu : A.units < cLine) (I : Inv X pins σ H s) (h : DX X.prog X.w X.K H a es) (hb : SqT X.K H b [.int k.1, .int k.2]) (hv : RelV v u) (hl : es.length < sizeLine)
    (q : ∀ o s', DX X.prog X.w X.K (upd H a (exO a o)) a (putX es k b v) → Inv X pins σ (upd H a (exO a o)) s' → Q () s') : wpAny (model X.prog X.w) A (dictSet a (.ref b) u) Q E s := by
  obtain ⟨h1, h2, xs, px, dd⟩ := dx_rd I h
  obtain ⟨o0, _, _, _, h3, _⟩ := h
  refine wpAny_dictSet_heap (hsz := by rw [← Paired.length px]; exact h2) (knd := kT X.prog X.w) hu (key_is I hb) dd fun h' dd' hs => ?_
  obtain ⟨o, en, ep, e1, e2, e3, e4, _, e5⟩ := dd'
  refine q o _ ⟨o, _, h1, by have := putX_length es k b v; omega, upd_same, ⟨e2, ⟨en, ep, e3, e4⟩, e5⟩, (px.put hb hv).mono fun z => sqT_ext h3 z⟩ ?_
  exact d_write I (by rw [h3]; exact True.intro) hs ⟨o, e1⟩ ⟨e1, ⟨o, e1⟩, fun g1 g2 p st => st _ p⟩
/-- d.get(k, x) -/
theorem dx_get2 {x : V} {r : Value} {Q : Value → Shared → Prop} (hu : A.units + 1 < cLine) (I : Inv X pins σ H s) (h : DX X.prog X.w X.K H a es) (hb : SqT X.K H b [.int k.1, .int k.2]) (hx : RelV x r)
    (q : ∀ w' s', Inv X pins σ H s' → RelV ((getX es k).getD x) w' → Q w' s') : wpAny (model X.prog X.w) A (call (.builtin "dict.get") [.ref a, .ref b, r]) Q E s := by
  obtain ⟨h1, h2, xs, px, dd⟩ := dx_rd I h
  exact call_meetsIn PySem.F.slot_dict_get dd.typeIs PySem.F.entry_dict_get (PySem.F.args_dict_get_3 _ _ _) (meetsH_dict_get_default (kT X.prog X.w) a b h1 r) ⟨tupleKind_room_in1 hu, kyL k, xs, key_is I hb, dd, q _ _ (I.tok _) ((px.val k).getD hx)⟩
theorem dx_getItem {v : V} {Q : Value → Shared → Prop} (hu : A.units + 1 < cLine) (I : Inv X pins σ H s) (h : DX X.prog X.w X.K H a es) (hb : SqT X.K H b [.int k.1, .int k.2]) (hg : getX es k = some v)
    (q : ∀ w' s', Inv X pins σ H s' → RelV v w' → Q w' s') : wpAny (model X.prog X.w) A (getItem (.ref a) (.ref b)) Q E s := by
  obtain ⟨h1, h2, xs, px, dd⟩ := dx_rd I h
  obtain ⟨u, hu2, ru⟩ := RelO.some_of (v := v) (o := (atKey xs (kyL k)).map (·.2)) (by rw [← hg]; exact px.val k)
  obtain ⟨p, hp, hp2⟩ := Option.map_eq_some_iff.mp hu2
  refine wpAny_getItem_heap (tupleKind_room_in1 hu) (key_is I hb) dd hp ?_
  rw [hp2]
  exact q u _ (I.tok _) ru
theorem dx_typeIs (I : Inv X pins σ H s) (h : DX X.prog X.w X.K H a es) : s.TypeIs (.ref a) "dict" ∧ ∀ b, Value.ref a = .ref b → ∃ ob, s.heap.get? b = some ob ∧ ob.dict = none := by
  obtain ⟨_, _, xs, _, dd⟩ := dx_rd I h
  refine ⟨dd.typeIs, fun b q => ?_⟩
  cases q
  obtain ⟨ob, _, _, h1, h2, _⟩ := dd
  exact ⟨ob, h1, h2.2.1⟩
end
/-! ### readings -/
def tXGet (P : Program) (w : World) (K : PySem.W.Frag) (td ty : TE) : TE := fun σ H Q => td σ H fun x H1 => ty σ H1 fun y H2 => ∃ (a b : Addr) (k : Int × Int) (es : List Ent) (v : V), x = .ref a ∧ y = .ref b ∧ DX P w K H2 a es ∧ SqT K H2 b [.int k.1, .int k.2] ∧ getX es k = some v ∧ Q v H2
def tXGet2 (P : Program) (w : World) (K : PySem.W.Frag) (td ty tx : TE) : TE := fun σ H Q => td σ H fun x H1 => ∃ (a : Addr) (es : List Ent), x = .ref a ∧ DX P w K H1 a es ∧ ty σ H1 fun y H2 => tx σ H2 fun z H3 => ∃ (b : Addr) (k : Int × Int) (es : List Ent), y = .ref b ∧ DX P w K H3 a es ∧ SqT K H3 b [.int k.1, .int k.2] ∧ Q ((getX es k).getD z) H3
def sXPut (P : Program) (w : World) (K : PySem.W.Frag) (td ty tv : TE) : TS := fun D σ H => tv σ H fun v H1 => td σ H1 fun x H2 => ty σ H2 fun y H3 => ∃ (a b : Addr) (k : Int × Int) (es : List Ent), x = .ref a ∧ y = .ref b ∧ DX P w K H3 a es ∧ SqT K H3 b [.int k.1, .int k.2] ∧ es.length < sizeLine ∧
  ∀ o, DX P w K (upd H3 a (exO a o)) a (putX es k b v) → D.nx σ (upd H3 a (exO a o))
section
variable {X : Cx} {o i e f value : Expr} {pos pos' apos cpos : Pos} {td ty tv tx : TE}
theorem pe_xget (hu : X.A.units + 1 < cLine) (ho : PE X o td) (hi : PE X i ty) (hs : NoSl i) : PE X (.Subscript o i pos) (tXGet X.prog X.w X.K td ty) := by
  refine ⟨fun pins s σ H Q I h => ?_⟩
  refine subD_of PySem.F.slot_dict_getitem.lookup hs (thn (ho.run pins s σ H _ I h) fun u s1 ⟨x, H1, I1, rx, q1⟩ => thn (hi.run pins s1 σ H1 _ I1 q1) fun iv s2 ⟨y, H2, I2, ry, a, b, k, es, v, ex, ey, hd, hb, hg, q2⟩ => ?_)
  subst ex ey
  obtain rfl : u = Value.ref a := rx
  obtain rfl : iv = Value.ref b := ry
  exact ⟨(dx_typeIs I2 hd).1, dx_getItem hu I2 hd hb hg fun w' s3 I3 rw' => ⟨v, H2, I3, rw', q2⟩⟩
theorem pe_xget2 (hu : X.A.units + 1 < cLine) (ho : PE X o td) (he : PE X e ty) (hf : PE X f tx) (m : M2 X o "get" apos e f cpos) : PE X (.Call (.Attribute o "get" apos) [e, f] [] cpos) (tXGet2 X.prog X.w X.K td ty tx) := by
  refine ⟨fun pins s σ H Q I h => ?_⟩
  refine wpAny_Call_method m.base m.few m.line PySem.F.plainAttrs_dict PySem.F.slot_dict_get PySem.F.type_dict_get (thn (ho.run pins s σ H _ I h) fun u s1 ⟨x, H1, I1, rx, a, es, ex, hd, q1⟩ => ?_)
  subst ex
  obtain rfl : u = Value.ref a := rx
  obtain ⟨t1, t2⟩ := dx_typeIs I1 hd
  refine ⟨t1, t2, ?_⟩
  rw [m.trees]
  refine Calls.callWith_builtin rfl (Calls.evalArgs_plain (Calls.spliced_cons (thn (he.run pins s1 σ H1 _ I1 q1) fun iv s2 ⟨y, H2, I2, ry, q2⟩ =>
    Calls.spliced_cons (thn (hf.run pins s2 σ H2 _ I2 q2) fun fv s3 ⟨z, H3, I3, rz, b, k, es', ey, hd3, hb, q3⟩ => Calls.spliced_nil ?_))))
  subst ey
  obtain rfl : iv = Value.ref b := ry
  exact dx_get2 hu I3 hd3 hb rz fun w' s4 I4 rw' => ⟨_, H3, I4, rw', q3⟩
theorem ps_xput (hu : X.A.units + 1 < cLine) (ho : PE X o td) (hi : PE X i ty) (hv : PE X value tv) (hs : swapsWith value (some (.Subscript o i pos')) pos.line X.env = pure false) :
    PS X (.Assign [.Subscript o i pos'] value pos) (sXPut X.prog X.w X.K td ty tv) := by
  refine ⟨fun pins s σ H D I h => ?_⟩
  refine wpAny_Assign_Subscript (thn (hv.run pins s σ H _ I h) fun r s1 ⟨v, H1, I1, rv, q1⟩ => thn (ho.run pins s1 σ H1 _ I1 q1) fun u s2 ⟨x, H2, I2, rx, q2⟩ => thn (hi.run pins s2 σ H2 _ I2 q2) fun iv s3 ⟨y, H3, I3, ry, a, b, k, es, ex, ey, hd, hb, hl, q3⟩ => ?_) hs
  subst ex ey
  obtain rfl : u = Value.ref a := rx
  obtain rfl : iv = Value.ref b := ry
  exact dx_set hu I3 hd hb rv hl fun o s4 hd4 I4 => ⟨σ, _, I4, q3 o hd4⟩
end
end Sw
/-! .. walked, listed, written. -/
namespace Sw
open PySem PySem.Spec PySem.Calls PyProof.Rows L2
section
variable {P : Program} {w : World} {K : PySem.W.Frag} {H : Hp} {a : Addr} {es : List Ent} {xs : List EntL}
theorem px_get (h : PX K H es xs) {i : Nat} {e : Ent} (he : es[i]? = some e) : ∃ x, xs[i]? = some x ∧ x.1 = kyL e.1 ∧ x.2.1 = e.2.1 ∧ SqT K H e.2.1 [.int e.1.1, .int e.1.2] ∧ RelV e.2.2 x.2.2 := paired_get h he
/-- the entries of the very object -/
def XAt (P : Program) (w : World) (K : PySem.W.Frag) (H : Hp) (a : Addr) (o : Obj) (es : List Ent) : Prop := ∃ xs, (a == sysModules) = false ∧ es.length ≤ sizeLine ∧ H a = some (exO a o) ∧ DXo P w o xs ∧ PX K H es xs
theorem DX.at (h : DX P w K H a es) : ∃ o, XAt P w K H a o es := let ⟨o, xs, r⟩ := h; ⟨o, xs, r⟩
theorem XAt.dx {o : Obj} (h : XAt P w K H a o es) : DX P w K H a es := ⟨o, h⟩
/-- the keys' tuples of the dict at a -/
def Itx (P : Program) (w : World) (K : PySem.W.Frag) (a : Addr) (o : Obj) (es : List Ent) : It :=
  ⟨fun i H => XAt P w K H a o es ∧ i < es.length, fun i H x H' => H' = H ∧ ∃ e, es[i]? = some e ∧ x = .ref e.2.1 ∧ SqT K H e.2.1 [.int e.1.1, .int e.1.2], fun i H => XAt P w K H a o es ∧ es.length ≤ i⟩
theorem walk_x {o : Obj} : Walk (Itx P w K a o es) es.length (fun H => XAt P w K H a o es) (fun i H x H' => H' = H ∧ ∃ e, es[i]? = some e ∧ x = .ref e.2.1 ∧ SqT K H e.2.1 [.int e.1.1, .int e.1.2]) :=
  ⟨fun _ _ hi q => ⟨q, hi⟩, fun _ q => ⟨q, Nat.le_refl _⟩, fun _ _ _ _ _ _ y => y⟩
end
section
variable {X : Cx} {pins : List (Addr × Obj)} {σ : L2.St} {H : Hp} {s : Shared} {a : Addr} {o : Obj} {es : List Ent}
theorem XAt.rd (I : Inv X pins σ H s) (h : XAt X.prog X.w X.K H a o es) : (a == sysModules) = false ∧ s.heap.get? a = some o ∧ o.ExactDict ∧ ∃ (en : Array DictEntry) (ep : Nat), o.data = .dict en ep ∧ en.size = es.length ∧ es.length ≤ sizeLine ∧
    ∀ (i : Nat) (e : Ent), es[i]? = some e → ∃ d : DictEntry, en[i]? = some d ∧ d.key = .ref e.2.1 ∧ SqT X.K H e.2.1 [.int e.1.1, .int e.1.2] := by
  obtain ⟨xs, h1, h2, h3, ⟨d1, ⟨en, ep, d2, d3⟩, d4⟩, h5⟩ := h
  obtain ⟨q, _, _⟩ := I.hok a _ h3
  have l1 : en.size = xs.length := size_of_entries d3
  have l2 : es.length = xs.length := Paired.length h5
  refine ⟨h1, q, d1, en, ep, d2, by omega, h2, fun i e he => ?_⟩
  obtain ⟨x, hx, e1, e2, e3, e4⟩ := px_get h5 he
  have z := entry_at d3 i
  rw [hx] at z
  exact ⟨_, z, by show Value.ref x.2.1 = _; rw [e2], e3⟩
theorem turn_x {P : Program} {w : World} {K : PySem.W.Frag} {tg : Expr} {en : Array DictEntry} {ep : Nat} (it : Addr) (hod : o.data = .dict en ep) : Turn P w K tg (Itx P w K a o es) [it] it (fun i h => h.IsKeyIter it a i es.length ep) where
  mem := List.mem_singleton.mpr rfl
  obj := fun i h st b hb => by
    rw [List.mem_singleton.mp hb]
    obtain ⟨oi, e, c, dd⟩ := st
    exact ⟨oi, e, fun v z => by rw [dd] at z; cases z⟩
  keep := fun i h h' st k => st.at fun oi e => k it (List.mem_singleton.mpr rfl) oi e
  item := by
    rintro X rfl rfl rfl hc i pins s σ H E I hf st ⟨hx, hi⟩
    obtain ⟨f0, f1, f2, f3, f4, f5⟩ := hf it (List.mem_singleton.mpr rfl)
    obtain ⟨_, ho, _, en', ep', hdt, hsz, _, ent⟩ := hx.rd I
    obtain ⟨rfl, rfl⟩ := dict_ep hod hdt
    obtain ⟨e, he⟩ : ∃ e, es[i]? = some e := ⟨es[i], List.getElem?_eq_getElem hi⟩
    obtain ⟨d, hd, hk, hs⟩ := ent i e he
    refine next_key_item st ho hdt hsz hd fun h' st' sb => ?_
    have I1 : Inv X pins σ H { s with heap := h' } := I.turned (t' := s.toks) (fun b ob hb e => (sb.2 b hb).trans e) f0 f1 f3 f4 f5
    obtain ⟨oi, e1, c, dd⟩ := id st'
    exact ⟨d.key, rfl, go_of (s := { s with heap := h' }) e1 c dd (by decide) ⟨.ref e.2.1, H, I1, hk, ⟨rfl, e, he, rfl, hs⟩, st', fun b hb => (hf b hb).1⟩⟩
  done := by
    rintro X rfl rfl rfl hc i pins s σ H E I hf st ⟨hx, hi⟩
    obtain ⟨f0, f1, f2, f3, f4, f5⟩ := hf it (List.mem_singleton.mpr rfl)
    obtain ⟨_, ho, _, en', ep', hdt, hsz, _, ent⟩ := hx.rd I
    obtain ⟨rfl, rfl⟩ := dict_ep hod hdt
    exact next_key_end (I.ok.hd hc) st ho hdt hsz hi fun h' eb => ⟨rfl, I.turned (t' := s.toks) (fun b ob hb e => eb b ob hb e) f0 f1 f3 f4 f5⟩
  self := fun A i s Q E st h => by
    refine wpAny_pyIter_slot st.typeIs F.slot_dict_keyiterator_iter (wpAny_call_entry F.slot_dict_keyiterator_iter st.typeIs F.entry_dict_keyiterator_iter ?_ (F.args_dict_keyiterator_iter_1 _))
    exact wpAny_pure ⟨_, rfl, "dict_keyiterator", _, st.typeIs, F.slot_dict_keyiterator_next.lookup, h⟩
def iXKeys (P : Program) (w : World) (K : PySem.W.Frag) (td : TE) : TI := fun σ H R => td σ H fun x H1 => ∃ (a : Addr) (o : Obj) (es : List Ent), x = .ref a ∧ XAt P w K H1 a o es ∧ R (Itx P w K a o es) H1
theorem pi_xkeys {tg e : Expr} {td : TE} (he : PE X e td) : PI X tg e (iXKeys X.prog X.w X.K td) := by
  refine ⟨fun pins s σ H R I h => thn (he.run pins s σ H _ I h) fun u s1 ⟨x, H1, I1, rx, a, o, es, ex, hx, q⟩ => ?_⟩
  subst ex
  obtain rfl : u = Value.ref a := rx
  obtain ⟨h1, ho, hc, en, ep, hdt, hsz, _, _⟩ := hx.rd I1
  refine iter_keys h1 ho hc hdt (pi_one (tk := s1.toks) I1 _ (turn_x _ hdt) ⟨_, Heap.get?_push_size _ rfl, rfl, ?_⟩ q)
  rw [hsz] <;> rfl
theorem px_nd {K : PySem.W.Frag} {xs : List EntL} (px : PX K H es xs) (nd : (xs.map (·.1)).Nodup) : (es.map (·.1)).Nodup := by
  induction px with
  | nil => exact List.nodup_nil
  | @cons p x ps xs hp t ih =>
    rw [List.map_cons, List.nodup_cons] at nd ⊢
    refine ⟨fun z => nd.1 ?_, ih nd.2⟩
    obtain ⟨q, hq, e⟩ := List.mem_map.mp z
    obtain ⟨i, hi⟩ := List.mem_iff_getElem?.mp hq
    obtain ⟨y, hy, e1, _⟩ := px_get t hi
    refine List.mem_map.mpr ⟨y, List.mem_of_getElem? hy, ?_⟩
    rw [e1, e, hp.1]
theorem px_ndA (I : Inv X pins σ H s) {xs : List EntL} (px : PX X.K H es xs) (nk : (es.map (·.1)).Nodup) : (es.map fun e => e.2.1).Nodup := by
  induction px with
  | nil => exact List.nodup_nil
  | @cons p x ps xs hp t ih =>
    rw [List.map_cons, List.nodup_cons] at nk ⊢
    refine ⟨fun z => nk.1 ?_, ih nk.2⟩
    obtain ⟨q, hq, e⟩ := List.mem_map.mp z
    obtain ⟨i, hi⟩ := List.mem_iff_getElem?.mp hq
    obtain ⟨y, hy, _, _, e3, _⟩ := px_get t hi
    have e4 := hp.2.2.1
    try dsimp only at e
    rw [e] at e3
    have e5 := I.tuple_inj e3 e4
    injection e5 with e5 e6
    injection e6 with e6 _
    injection e5 with e5
    injection e6 with e6
    exact List.mem_map.mpr ⟨q, hq, Prod.ext e5 e6⟩
theorem dx_nd {P : Program} {w : World} {K : PySem.W.Frag} (h : DX P w K H a es) : (es.map (·.1)).Nodup := by
  obtain ⟨o, xs, _, _, _, ⟨_, _, nd⟩, px⟩ := h
  exact px_nd px nd
theorem dx_ndA (I : Inv X pins σ H s) (h : DX X.prog X.w X.K H a es) : (es.map fun e => e.2.1).Nodup := by
  have nk := dx_nd h
  obtain ⟨o, xs, _, _, _, _, px⟩ := h
  exact px_ndA I px nk
theorem call_list_dX (hc : X.calm = true) : CallR X (.type "list") (fun xs H Q => ∃ (a : Addr) (es : List Ent), xs = [.ref a] ∧ DX X.prog X.w X.K H a es ∧ ∀ p, H p = none → (es.map fun e => e.2.1).Nodup → Q (.ref p) (upd H p (.lst (es.map fun e => V.ref e.2.1)))) := by
  intro pins s σ H xs us Q I r h
  obtain ⟨a, es, rfl, hd, q⟩ := h
  obtain ⟨u, rfl, rx⟩ := vals1 r
  cases rx
  obtain ⟨o, hx⟩ := hd.at
  obtain ⟨h1, ho, hcx, en, ep, hdt, hsz, hz, ent⟩ := hx.rd I
  refine PySem.W.kdl_call (kdl_raw h1 hcx hdt) (I.ok.hd hc) ho (by omega) fun h' tk acc' c' kp e it => ?_
  have ea : acc'.toList = (es.map fun e => e.2.1).map Value.ref := by
    refine List.ext_getElem? fun j => ?_
    rw [List.getElem?_map, List.getElem?_map]
    cases hj : es[j]? with
    | none =>
      have := List.getElem?_eq_none_iff.mp hj
      exact List.getElem?_eq_none (by rw [Array.length_toList, it.1]; omega)
    | some x =>
      obtain ⟨d, hd', hk, _⟩ := ent j x hj
      have hl : j < acc'.size := by
        rw [it.1, hsz]
        exact (List.getElem?_eq_some_iff.mp hj).1
      obtain ⟨d2, q1, q2⟩ := it.2 j acc'[j] (Array.getElem?_eq_getElem hl)
      rw [hd'] at q1
      cases q1
      rw [Array.getElem?_toList, Array.getElem?_eq_getElem hl, q2, hk]
      rfl
  have rv : Vals (es.map fun e => V.ref e.2.1) acc'.toList := by
    rw [ea]
    have := vals_refs (es.map fun e => e.2.1)
    rwa [List.map_map] at this
  refine ⟨.ref s.heap.objs.size, _, I.laid (t' := tk) (o := .lst (es.map fun e => V.ref e.2.1)) kp (Nat.le_refl _) ⟨by rw [List.length_map]; exact hz, acc'.toList, c', rv, by rw [Array.toArray_toList]; exact e⟩, rfl, q _ (I.hok.fresh (Nat.le_refl _)) (dx_ndA I hd)⟩
end
end Sw
/-! Dicts keyed by couples: written, and made by a comprehension. -/
namespace Sw
open PySem PySem.Spec PySem.Calls PyProof.Rows L2
def newD : Obj := { cls := .type "dict", data := .dict #[] }
section
variable {X : Cx} {pins : List (Addr × Obj)} {σ : L2.St} {H : Hp} {s : Shared}
theorem dx_new (I : Inv X pins σ H s) {D : Addr} (hD : s.heap.objs.size = D) : Inv X pins σ (upd H D (exO D newD)) { s with heap := s.heap.push newD } ∧ DX X.prog X.w X.K (upd H D (exO D newD)) D [] ∧ H D = none := by
  subst hD
  have g : (s.heap.push newD).get? s.heap.objs.size = some newD := Heap.get?_push_size _ rfl
  refine ⟨I.laid (t' := s.toks) (fun b o e => Heap.get?_push_of_some _ e) (Nat.le_refl _) ⟨g, ⟨_, g⟩, fun h1 h2 p st => st _ p⟩, ⟨newD, [], beq_eq_false_iff_ne.mpr (Ne.symm (Nat.ne_of_lt I.big)), Nat.zero_le _, upd_same, ⟨⟨rfl, rfl, rfl⟩, ⟨#[], 0, rfl, rfl⟩, List.nodup_nil⟩, .nil⟩, I.hok.fresh (Nat.le_refl _)⟩
end
/-- {k: v}, the key a couple -/
def tDispX (P : Program) (w : World) (K : PySem.W.Frag) (tk tv : TE) : TE := fun σ H Q => ∀ p, H p = none → tk σ (upd H p (exO p newD)) fun y H1 => tv σ H1 fun z H2 => ∃ (b : Addr) (k : Int × Int), y = .ref b ∧ SqT K H2 b [.int k.1, .int k.2] ∧ H2 p = some (exO p newD) ∧
  ∀ o, DX P w K (upd H2 p (exO p o)) p [(k, b, z)] → Q (.ref p) (upd H2 p (exO p o))
section
variable {X : Cx}
theorem pe_dispX {pos : Pos} {kx vx : Expr} {tk tv : TE} (hu : X.A.units < cLine) (hk : PE X kx tk) (hv : PE X vx tv) : PE X (.Dict [some kx] [vx] pos) (tDispX X.prog X.w X.K tk tv) := by
  refine ⟨fun pins s σ H Q I h => ?_⟩
  obtain ⟨I0, _, n0⟩ := dx_new I rfl
  rw [arm_eval_Dict, zip_pairTrees [some kx] [vx] X.env pos rfl rfl, dictDisplay_pairs (pairTrees [some kx] [vx] X.env pos) (fun z => nomatch z) (show 1 < 17 by decide)]
  refine wpAny_bind (wpAny_standAt (wpAny_bind (wpAny_subDictH (knd := kT X.prog X.w) (Q := fun d s' => wpAny (model X.prog X.w) X.A (pure (Value.ref d)) (EP X pins σ Q) X.xe s') hu (show 1 ≤ 15 by decide) ?_)))
  refine pairTrees_cons_walk (thn (hk.run pins _ σ _ _ I0 (h _ n0)) fun kv s1 ⟨y, H1, I1, ry, q1⟩ => thn (hv.run pins s1 σ H1 _ I1 q1) fun vv s2 ⟨z, H2, I2, rz, b, k, ey, hb, hp, q2⟩ => pairTrees_nil_walk ?_)
  subst ey
  obtain rfl : kv = Value.ref b := ry
  obtain ⟨gp, _, _⟩ := I2.hok _ _ hp
  refine ⟨[(kyL k, b, vv)], ⟨rfl, rfl, key_is I2 hb, trivial⟩, ⟨newD, #[], 0, gp, ⟨rfl, rfl, rfl⟩, rfl, rfl, fun x hx => absurd hx List.not_mem_nil, List.nodup_nil⟩, fun h' tk dd sb => wpAny_pure ?_⟩
  have e1 : storedAllH ([] : List EntL) [(kyL k, b, vv)] = [(kyL k, b, vv)] := rfl
  rw [e1] at dd
  obtain ⟨o, en, ep, d1, d2, d3, d4, _, d5⟩ := dd
  have px : PX X.K (upd H2 s.heap.objs.size (exO s.heap.objs.size o)) [(k, b, z)] [(kyL k, b, vv)] := .cons ⟨rfl, rfl, sqT_ext hp hb, rz⟩ .nil
  refine ⟨.ref s.heap.objs.size, _, ?_, rfl, q2 o ⟨o, _, beq_eq_false_iff_ne.mpr (Ne.symm (Nat.ne_of_lt I.big)), by show 1 ≤ sizeLine; decide, upd_same, ⟨d2, ⟨en, ep, d3, d4⟩, d5⟩, px⟩⟩
  exact d_write I2 (by rw [hp]; exact True.intro) sb ⟨o, d1⟩ ⟨d1, ⟨o, d1⟩, fun h1 h2 p st => st _ p⟩
end
/-! ### {k: v for x in xs}, the keys couples -/
def Block (X : Cx) (scope : Scope) (F : Cx → Prop) : Prop := ∀ (s : Shared) (H : Hp) (C : Addr) (cl : List (Str × Addr)) (fp : List Addr), F (X.blk s H scope (compEnvC scope cl C X.env) fp)
def tDcX (P : Program) (w : World) (K : PySem.W.Frag) (wi : TI) (g : TG) (tk tv : TE) (vs : List Nat) : TE := fun σ H Q => wi σ H fun J H1 => ∀ D, H1 D = none → DX P w K (upd H1 D (exO D newD)) D [] → ∃ W : Nat → Nat → Hp → Prop, (∃ m, W 0 m (upd H1 D (exO D newD))) ∧ ∀ i m H, W i m H →
  (J.stop i H ∧ Q (.ref D) H) ∨ (J.go i H ∧ ∃ Nx : Hp → Prop, (∀ H', Nx H' → ∃ m', m' < m ∧ W (i + 1) m' H') ∧ ∀ x H', J.yld i H x H' → g x (wipe σ vs) H' fun σ2 H2 => wipe σ2 vs = wipe σ vs ∧
    tk σ2 H2 fun y H4 => tv σ2 H4 fun z H5 => ∃ (b : Addr) (k : Int × Int) (es : List Ent), y = .ref b ∧ DX P w K H5 D es ∧ SqT K H5 b [.int k.1, .int k.2] ∧ es.length < sizeLine ∧ ∀ o, DX P w K (upd H5 D (exO D o)) D (putX es k b z) → Nx (upd H5 D (exO D o)))
section
variable {X : Cx}
theorem dcx_core {pins : List (Addr × Obj)} {s : Shared} {σ : L2.St} {H : Hp} {Q : VK} {kx vx tg iter : Expr} {scope : Scope} {own : List (Str × Nat)} {pos pos' : Pos} {wi : TI} {g : TG} {tk tv : TE} {use : Option (Value → Sem Unit)} {Qf : Value → Shared → Prop}
    (hu : X.A.units < cLine) (hc : X.calm = true) (hN : X.N.Nodup) (I : Inv X pins σ H s) (hi : PI X tg iter wi) (ok : BlkOk X.N X.env.scope scope own) (rg : Block X scope fun Y => PG Y tg g) (rk : Block X scope fun Y => PE Y kx tk) (rv : Block X scope fun Y => PE Y vx tv)
    (hs : ∀ x, foldedSetIterable iter X.env x = pure x) (h : tDcX X.prog X.w X.K wi g tk tv (own.map (·.2)) σ H Q)
    (back : ∀ D C s' m H', Inv X pins σ H' s' → Q (.ref D) H' → s'.heap.Ns C m → FpOk X pins H' C → compPost (model X.prog X.w) X.A X.xe use Qf (.ref D) C (.ok .next) s') :
    wpAny (model X.prog X.w) X.A (comprehension (.DictComp kx vx [⟨tg, iter, [], 0⟩] scope pos) scope X.env pos' newDict false (eval iter X.env) use) Qf X.xe s := by
  have free : ∀ y ∈ scope.names, y.2 = .free → ∃ c, X.env.cells.lookup y.1 = some c := fun y hy e => (ok.free y hy e).elim (fun k => I.ok.has _ (.inl k)) fun k => I.ok.has _ (.inr k)
  refine wpAny_comprehension_free (use := use) rfl hs (closure_ok free) ok.kind (fun y hy e => by rw [ok.uniq y hy, e]) (thn (hi.run pins s σ H _ I h) fun xv s1 hx => thn hx fun itv s2 h2 => ?_)
  obtain ⟨it, fp, tn, J, H2, rfl, I2, T, st2, f2, q⟩ := h2
  refine wpAny_newObj_type (newEnv_comp ?_)
  obtain ⟨D, hD⟩ : ∃ D, s2.heap.objs.size = D := ⟨_, rfl⟩
  rw [hD]
  obtain ⟨I3, d0, nD⟩ := dx_new I2 hD
  obtain ⟨W, ⟨m0, w0⟩, turn⟩ := q D nD d0
  have lt2 : ∀ b ∈ fp, b < s2.heap.objs.size := fun b hb => let ⟨_, e, _⟩ := T.obj _ _ st2 b hb; Heap.lt_size e
  have e3 : ∃ s3 : Shared, s3 = { s2 with heap := s2.heap.push newD } := ⟨_, rfl⟩
  obtain ⟨s3, e3⟩ := e3
  rw [← e3] at I3
  have h3 : s3.heap = s2.heap.push newD := by rw [e3]
  -- the dict's place is none of the iterator's
  have f3 : ∀ b ∈ fp, FpOk X pins (upd H2 D (exO D newD)) b ∧ b < s3.heap.objs.size := fun b hb => by
    have l := lt2 b hb
    refine ⟨⟨?_, (f2 b hb).2⟩, by rw [h3, Heap.size_push]; exact Nat.lt_succ_of_lt l⟩
    rw [upd_ne (show b ≠ D by rw [← hD]; exact Nat.ne_of_lt l)]
    exact (f2 b hb).1
  have n3 : ∀ b ∈ fp, (upd H2 D (exO D newD)) b = none := fun b hb => (f3 b hb).1.1
  have st3 : tn 0 s3.heap := T.keep _ _ _ st2 fun b _ o e => by
    rw [h3]
    exact Heap.get?_push_of_some _ e
  have I4 := block_start I3 ok hN f3
  have qg := rg s3 (upd H2 D (exO D newD)) s3.heap.objs.size (cellsFrom (s3.heap.objs.size + 1) scope.names (cloFrom X.env.cells scope.names [])) fp
  have qk := rk s3 (upd H2 D (exO D newD)) s3.heap.objs.size (cellsFrom (s3.heap.objs.size + 1) scope.names (cloFrom X.env.cells scope.names [])) fp
  have qv := rv s3 (upd H2 D (exO D newD)) s3.heap.objs.size (cellsFrom (s3.heap.objs.size + 1) scope.names (cloFrom X.env.cells scope.names [])) fp
  have goal : codeAny (model X.prog X.w) X.A (.compStart (.DictComp kx vx [⟨tg, iter, [], 0⟩] scope pos) 0 (.ref it) (.ref D) (compEnvC scope (cellsFrom (s3.heap.objs.size + 1) scope.names (cloFrom X.env.cells scope.names [])) s3.heap.objs.size X.env)) (compPost (model X.prog X.w) X.A X.xe use Qf (.ref D) s3.heap.objs.size) { s3 with heap := pushCells (s3.heap.push { cls := .type "dict", data := .dict #[] }) scope.names } := by
    have loc : (compEnvC scope (cellsFrom (s3.heap.objs.size + 1) scope.names (cloFrom X.env.cells scope.names [])) s3.heap.objs.size X.env).locals = s3.heap.objs.size := rfl
    generalize compEnvC scope (cellsFrom (s3.heap.objs.size + 1) scope.names (cloFrom X.env.cells scope.names [])) s3.heap.objs.size X.env = ce at I4 qg qk qv loc ⊢
    have st4 : tn 0 ({ s3 with heap := pushCells (s3.heap.push { cls := .type "dict", data := .dict #[] }) scope.names } : Shared).heap := T.keep _ _ _ st3 fun b _ o e => pushCells_keeps _ _ _ _ (Heap.get?_push_of_some _ e)
    generalize ({ s3 with heap := pushCells (s3.heap.push { cls := .type "dict", data := .dict #[] }) scope.names } : Shared) = s4 at I4 st4 ⊢
    generalize hH : upd H2 D (exO D newD) = HD at I3 I4 qg qk qv w0 f3 n3
    -- in the block the iterator's places are as they were
    have stat : ∀ {H' : Hp} {s' : Shared} {τ : L2.St}, Inv (X.blk s3 HD scope ce fp) [] τ H' s' → (∀ b ∈ fp, H' b = none) → ∀ b ∈ fp, FpOk (X.blk s3 HD scope ce fp) [] H' b := fun J hn b hb =>
      have e := J.ok.exf b hb
      ⟨hn b hb, e.1, J.ok.exfs b hb, .inl hb, e.2, fun p hp => absurd (show p ∈ ([] : List (Addr × Obj)) ++ [] from hp) List.not_mem_nil⟩
    have loop : codeAny (model X.prog X.w) X.A (.compLoop (.DictComp kx vx [⟨tg, iter, [], 0⟩] scope pos) 0 (.ref it) (.ref D) ce) (compPost (model X.prog X.w) X.A X.xe use Qf (.ref D) s3.heap.objs.size) s4 := by
      refine compLoop_anyD (fun n s' => ∃ i H', Inv (X.blk s3 HD scope ce fp) [] (wipe σ (own.map (·.2))) H' s' ∧ tn i s'.heap ∧ (∀ b ∈ fp, H' b = none) ∧ W i n H') (fun n s5 hI => ?_) m0 ⟨0, HD, I4, st4, n3, w0⟩
      obtain ⟨i, H5, I5, st5, n5, w5⟩ := hI
      rcases turn i n H5 w5 with ⟨stop, qq⟩ | ⟨go, Nx, hNx, step⟩
      · refine thnF (T.done (X.blk s3 HD scope ce fp) rfl rfl rfl hc i [] s5 _ H5 (fun _ _ => False) I5 (stat I5 n5) st5 stop) fun r s6 z => ?_
        obtain ⟨rfl, I6⟩ := z
        have fr : H5 s3.heap.objs.size = none := loc ▸ I6.free
        obtain ⟨m, ns, _⟩ := I6.loc
        have ns : s6.heap.Ns s3.heap.objs.size m := loc ▸ ns
        refine back D s3.heap.objs.size s6 m H5 (I3.call' (ch := fp) I6.os I6.base I6.hok I6.bare fun b hb => ?_) qq ns (I3.fpOk (Nat.le_refl _) fr)
        obtain ⟨⟨_, g1, g2, g3, g4, g5⟩, _⟩ := f3 b hb
        exact ⟨g3, g1, g4, g5⟩
      · refine thnF (T.item (X.blk s3 HD scope ce fp) rfl rfl rfl hc i [] s5 _ H5 (fun _ _ => False) I5 (stat I5 n5) st5 go) fun r s6 z => ?_
        obtain ⟨u, rfl, z⟩ := z
        refine thnF z fun _ s7 y => ?_
        obtain ⟨x, H7, I7, r7, y7, st7, n7⟩ := y
        refine thnF (qg.run _ s7 _ H7 x u _ (I7.pinned (stat I7 n7) (T.obj _ _ st7)) r7 (step x H7 y7)) fun _ s8 y => ?_
        obtain ⟨τ, H8, I8, hw8, q8⟩ := y
        rw [List.forIn_nil]
        refine wpAny_pure ?_
        rw [if_pos rfl]
        refine thnF (qk.run _ s8 τ H8 _ I8 q8) fun kv s9 y => ?_
        obtain ⟨yk, H9, I9, r9, q9⟩ := y
        refine thnF (qv.run _ s9 τ H9 _ I9 q9) fun vv s10 y => ?_
        obtain ⟨yv, H10, I10, r10, b, k, es, rfl, hD10, hb10, hz10, nx⟩ := y
        obtain rfl : kv = Value.ref b := r9
        refine dx_dset (X := X.blk s3 HD scope ce fp) hu I10 hD10 hb10 r10 hz10 fun o s11 d11 I11 => ?_
        obtain ⟨m', hm, w'⟩ := hNx _ (nx o d11)
        have pin : ∀ b ∈ fp, ∀ ob, s7.heap.get? b = some ob → s11.heap.get? b = some ob ∧ (upd H10 D (exO D o)) b = none := fun b hb ob e =>
          let z := I11.pin (b, ob) (List.mem_append_right _ (List.mem_append_right _ (mem_pinsAt hb e)))
          ⟨z.1, z.2.1⟩
        refine ⟨m', hm, i + 1, _, (I11.unpinned (pins := [])).weak (by rw [← hw8, wipe_length]) (fun j v e => ?_), T.keep _ _ _ st7 fun b hb ob e => (pin b hb ob e).1, fun b hb => ?_, w'⟩
        · rw [← hw8] at e
          exact (wipe_some e).1
        · obtain ⟨ob, e, _⟩ := T.obj _ _ st7 b hb
          exact (pin b hb ob e).2
    exact codeAny_compStart_dict loop (T.self X.A 0 _ _ _ st4 loop)
  rw [e3] at goal
  exact goal
/-- x = {k: v for ..} -/
theorem ps_setDcX {i : Nat} {y : Str} {py : Pos} {kx vx tg iter : Expr} {scope : Scope} {own : List (Str × Nat)} {pos spos : Pos} {wi : TI} {g : TG} {tk tv : TE} (hu : X.A.units < cLine) (hc : X.calm = true) (hN : X.N.Nodup) (hy : X.N[i]? = some y) (hyl : X.env.scope.names.lookup y = some .local)
    (hsw : swapsWith (.DictComp kx vx [⟨tg, iter, [], 0⟩] scope pos) (some (.Name y py)) spos.line X.env = pure true) (hi : PI X tg iter wi) (ok : BlkOk X.N X.env.scope scope own) (rg : Block X scope fun Y => PG Y tg g) (rk : Block X scope fun Y => PE Y kx tk) (rv : Block X scope fun Y => PE Y vx tv)
    (hs : ∀ x, foldedSetIterable iter X.env x = pure x := by intro _; rfl) : PS X (.Assign [.Name y py] (.DictComp kx vx [⟨tg, iter, [], 0⟩] scope pos) spos) (tAsg (tDcX X.prog X.w X.K wi g tk tv (own.map (·.2))) (gName i)) := by
  refine ⟨fun pins s σ H D I h => ?_⟩
  rw [exec_Assign_Name_used _ _ _ _ hsw]
  refine wpAny_bind (wpAny_standAt (wpAny_bind ?_))
  show wpAny _ X.A (do let _ ← comprehension (.DictComp kx vx [⟨tg, iter, [], 0⟩] scope pos) scope X.env (firstIterPos [⟨tg, iter, [], 0⟩] pos) newDict false (eval iter X.env) (some (assign (.Name y py) X.env))) _ _ s
  have h : tDcX X.prog X.w X.K wi g tk tv (own.map (·.2)) σ H (fun x H1 => gName i x σ H1 D.nx) := h
  refine wpAny_bind (thn (dcx_core (Qf := fun _ s' => SP X pins D .next s') hu hc hN I hi ok rg rk rv hs h fun L C s' m H' I' q hn f => ?_) fun _ s' hq => wpAny_pure (wpAny_pure hq))
  show wpAny _ _ (assign (.Name y py) X.env (.ref L)) _ _ _
  refine wpAny_assign_Name (store_ok2 (v := V.ref L) I' hN hy (.inl hyl) rfl (fun s2 I2 ⟨a, sb, ha⟩ => ?_) (.inr hyl))
  obtain ⟨f0, f1, f2, f3, f4, f5⟩ := f
  have haC : C ≠ a := by
    rcases ha with z | z
    · rw [z]; exact f1
    · exact fun e => f4 y a z e.symm
  refine ⟨m, hn.sameBut sb haC, fun h3 sb3 => ?_⟩
  exact ⟨_, H', I2.turned (t' := s2.toks) (fun b o hb e => (sb3.2 b hb).trans e) f0 f1 f3 f4 f5, q⟩
end
theorem dcx_it {P : Program} {w : World} {K : PySem.W.Frag} {J : It} {n : Nat} {G : Hp → Prop} {Y : Nat → Hp → V → Hp → Prop} (wk : Walk J n G Y) {g : TG} {tk tv : TE} {vs : List Nat} {σ : L2.St} {H1 : Hp} {D : Addr} {Qd : Hp → Prop} (Pv : Nat → Hp → Prop) (h0 : Pv 0 (upd H1 D (exO D newD))) (hG : ∀ i H, i ≤ n → Pv i H → G H)
    (hs : ∀ i x H H', i < n → Pv i H → Y i H x H' → g x (wipe σ vs) H' fun σ2 H2 => wipe σ2 vs = wipe σ vs ∧ tk σ2 H2 fun y H4 => tv σ2 H4 fun z H5 => ∃ (b : Addr) (k : Int × Int) (es : List Ent), y = .ref b ∧ DX P w K H5 D es ∧ SqT K H5 b [.int k.1, .int k.2] ∧ es.length < sizeLine ∧
      ∀ o, DX P w K (upd H5 D (exO D o)) D (putX es k b z) → Pv (i + 1) (upd H5 D (exO D o))) (hd : ∀ H, Pv n H → Qd H) :
    ∃ W : Nat → Nat → Hp → Prop, (∃ m, W 0 m (upd H1 D (exO D newD))) ∧ ∀ i m H, W i m H →
      (J.stop i H ∧ Qd H) ∨ (J.go i H ∧ ∃ Nx : Hp → Prop, (∀ H', Nx H' → ∃ m', m' < m ∧ W (i + 1) m' H') ∧ ∀ x H', J.yld i H x H' → g x (wipe σ vs) H' fun σ2 H2 => wipe σ2 vs = wipe σ vs ∧
        tk σ2 H2 fun y H4 => tv σ2 H4 fun z H5 => ∃ (b : Addr) (k : Int × Int) (es : List Ent), y = .ref b ∧ DX P w K H5 D es ∧ SqT K H5 b [.int k.1, .int k.2] ∧ es.length < sizeLine ∧ ∀ o, DX P w K (upd H5 D (exO D o)) D (putX es k b z) → Nx (upd H5 D (exO D o))) := by
  refine ⟨fun i m H => m = n - i ∧ i ≤ n ∧ Pv i H, ⟨n, by simp, Nat.zero_le _, h0⟩, ?_⟩
  rintro i m H ⟨rfl, hi, p⟩
  have q := hG i H hi p
  by_cases hlt : i < n
  · exact .inr ⟨wk.goes i H hlt q, Pv (i + 1), fun H' p' => ⟨n - (i + 1), by omega, rfl, hlt, p'⟩, fun x H' y => hs i x H H' hlt p (wk.yields i H x H' hlt q y)⟩
  · have e : i = n := by omega
    subst e
    exact .inl ⟨wk.stops H q, hd H p⟩
end Sw
/-! max(xs, default=d) of integers. -/
namespace Sw
open PySem PySem.Spec PySem.Calls PyProof.Rows L2
def maxDef (d : Int) : List Int → Int
  | [] => d
  | n :: ns => ns.foldl max n
theorem reads_ints {h : Heap} : ∀ {ns : List Int} {us : List Value}, Vals (ns.map V.int) us → ReadsAll h us (ns.map PyData.int) []
  | [], _, .nil => .nil
  | n :: ns, _, .cons r t => by
    obtain ⟨tk, rfl⟩ := r
    exact .cons (as := []) (.int n tk) (reads_ints t)
theorem depth_ints (ns : List Int) : PyData.depthAll (ns.map PyData.int) = 0 := by
  induction ns with
  | nil => rfl
  | cons n ns ih => simp [PyData.depthAll, PyData.depth, ih]
theorem foldl_max : ∀ (ns : List Int) (n : Int), n ≤ ns.foldl max n ∧ (∀ m ∈ ns, m ≤ ns.foldl max n) ∧ (ns.foldl max n = n ∨ ns.foldl max n ∈ ns)
  | [], n => ⟨Int.le_refl _, (fun _ h => nomatch h), .inl rfl⟩
  | k :: ns, n => by
    obtain ⟨h1, h2, h3⟩ := foldl_max ns (max n k)
    refine ⟨by rw [List.foldl_cons]; omega, fun m hm => ?_, ?_⟩
    · rw [List.foldl_cons]
      rcases List.mem_cons.mp hm with rfl | hm
      · omega
      · exact h2 m hm
    · rw [List.foldl_cons]
      rcases h3 with h | h
      · rw [h]
        by_cases q : n ≤ k
        · exact .inr (by rw [Int.max_eq_right q]; exact List.mem_cons_self)
        · exact .inl (Int.max_eq_left (by omega))
      · exact .inr (List.mem_cons_of_mem _ h)
theorem cr_maxDef {X : Cx} {k : Nat} (hc : X.calm = true) (hr : Room k X.A) : CallRK X (.builtin "max") [Str.ofString "default"] (fun vs zs H Q => ∃ (a : Addr) (ns : List Int) (d : Int), vs = [.ref a] ∧ zs = [.int d] ∧ SqL X.K H a (ns.map V.int) ∧ Q (.int (maxDef d ns)) H) := by
  intro pins s σ H vs zs us ws Q I r rz h
  obtain ⟨a, ns, d, rfl, rfl, hS, q⟩ := h
  obtain rfl := Vals.ref1 r
  obtain ⟨w1, rfl, ⟨td, rfl⟩⟩ := vals1 rz
  obtain ⟨its, rv, hl, hz⟩ := I.list hS
  have hh := hr.units
  show wpAny _ _ (call (.builtin "max") [.ref a] [(Str.ofString "default", .int d td)]) _ _ s
  refine PySem.W.max_list_default (I.ok.hd hc) hl.isList (xs := ns.map PyData.int) (by simpa using reads_ints rv) ⟨fun x hx y hy => ?_, fun x hx => ?_⟩ (by rw [depth_ints]; omega) (fun e h' tk kp => ?_) fun y ys i v h' tk bs e hv rd kp => ?_
  · obtain ⟨i, _, rfl⟩ := List.mem_map.mp hx
    obtain ⟨j, _, rfl⟩ := List.mem_map.mp hy
    simp [PySem.W.alike]
  · obtain ⟨i, _, rfl⟩ := List.mem_map.mp hx
    exact fun z => nomatch z
  · have e0 : ns = [] := List.map_eq_nil_iff.mp e
    subst e0
    exact ⟨.int d, H, I.kept kp, ⟨td, rfl⟩, q⟩
  · cases ns with
    | nil => cases e
    | cons n ns =>
      injection e with e1 e2
      subst e1 e2
      rw [PySem.W.maxD_ints] at rd
      cases rd with
      | int i t => exact ⟨.int (ns.foldl max n), H, I.kept kp, ⟨t, rfl⟩, q⟩
end Sw
/-! The end where lambdas are made: the defs' code objects and their tables. -/
namespace Sw
open PySem PySem.Spec PyProof.Rows L2 LamX
/-- what is known of a def that makes a lambda: its code object, the table there -/
structure Mkr (P : Program) (K : PySem.W.Frag) (p : Addr × Addr) : Prop where
  code : PySem.W.codeHdIn K p.1 p.2 = true
  nk : K.lookup p.2 = none
/-- a def by its body, its code object known -/
theorem Fun.okGC {P : Program} {w : World} {K : PySem.W.Frag} {mg : Str → Option Value} {base : Heap} {x qual : Str} {st : Stmt} {f c : Addr} {fd : FuncData} {N ps : List Str} {k : Nat} {sp : Sp} (F : Fun K x qual st f fd) (hfc : fd.code = .ref c) (S : FnScope N ps (defScope st)) (len : ∀ vs H Q E, sp vs H Q E → vs.length = ps.length)
    (hbody : ∀ (A : Around) (outer : List Env) (s : Shared) (H : Hp) (vs : List V) (Q : VK) (E : XK), Gd (A.deeper (envOfC qual (defScope st) s.heap.objs.size f (.ref c))) → Room k (A.deeper (envOfC qual (defScope st) s.heap.objs.size f (.ref c))) → sp vs H Q E →
      ∃ t, PSs (cxOf CX0 P w K mg base N qual (defScope st) f (.ref c) A outer s H E).nox (defBody st) t ∧ t { nx := fun _ H' => Q .non H', rt := Q } (start N vs) H) : FnG P w K mg base (k + 1) f fd ps sp := by
  obtain ⟨oc, od, kV, doc, pm, an, cdv, ct, osl, rfl, lk, hcd⟩ := F.ex
  have hfc : cdv = .ref c := hfc
  subst hfc
  refine ⟨len, ?_⟩
  intro A outer s H args us vs Q E g hr e0 hb r hs
  have hz := len _ _ _ _ hs
  have up : ∀ b o, base.get? b = some o → s.heap.get? b = some o := fun b o z => (e0.bs b o z).1
  refine codeAny_call_function hr.depth ((e0.mod.kin.keeps up) _ _ lk) rfl S.co S.gen rfl (PySem.W.codeRec_of (e0.mod.kin.keeps up) hcd) (hb _ _ _ _ (wpAny_newFunctionEnv_cells S.kind (fun y hy => ?_) fun env he s1 x1 => ?_))
  · rcases S.par y.1 (List.of_mem_zip (show (y.1, y.2) ∈ ps.zip us from hy)).1 with q | q
    · exact .inl q
    · exact .inr ⟨q, PySem.W.cellsFrom_some _ _ _ (.inl q)⟩
  · subst he
    obtain ⟨t, ht, hq⟩ := hbody A outer s H vs Q E (g.deeper _) (hr.deeper _) hs
    refine ⟨(e0.mod.nolimit.keeps up).keeps x1.toInCall.keep, codeAny_func (wpAny_mono (ht.nox.run [] s1 (start N vs) H _ (inv_start S hr.hd e0 hz r x1) hq) ?_ fun _ _ z => z)⟩
    intro fl s' z
    match fl, z with
    | .ret u, ⟨v, σ', H', J, rv, q⟩ => exact ⟨v, H', J.os, J.bare, J.base, J.hok, rv, q⟩
    | .next, ⟨σ', H', J, q⟩ => exact ⟨.non, H', J.os, J.bare, J.base, J.hok, rfl, q⟩
    | .brk, ⟨_, _, _, q⟩ => exact q.elim
    | .cont, ⟨_, _, _, q⟩ => exact q.elim
section
variable {P : Program} {w : World} {K : PySem.W.Frag} {mg mb : Str → Option Value} {k : Nat} {fa a : Addr} {fd : FuncData} {x : Str} {sp : Sp} {s₁ : Shared} {vs : List Value} {ns : List Int} {cs : List (Addr × Addr)}
/-- the script and the tables alone are known -/
def OnlyT (cs : List (Addr × Addr)) (H : Hp) : Prop := ∀ b, H b = none ∨ (∃ ob xs, H b = some (.frz ob (.lst xs))) ∨ (b ∈ cs.map (·.2) ∧ H b = some (.tbl #[]))
theorem lawFromT (H : Hp) (hO : OnlyT cs H) (hH : ∀ p ∈ cs, H p.2 = some (.tbl #[])) (KX : K.In s₁.heap) (hns : s₁.heap.Ns mainGlobals mg) (hb : s₁.heap.Ns builtinsNs mb) (hbb : ∀ y : Str, y ≠ "__name__" → mb y = bootBuiltins y) (hlim : s₁.heap.NoLimit) (hg : s₁.gens = #[])
    (hbm : ∃ (bm : Addr) (ob : Obj), mg "__builtins__" = some (.ref bm) ∧ bm ≠ builtinsNs ∧ s₁.heap.get? bm = some ob ∧ ob.cls = .type "module" ∧ ob.dict = some builtinsNs ∧ ob.data = .plain) (hC : ∀ p ∈ cs, PySem.W.codeHdIn K p.1 p.2 = true)
    (ok : HOk P w H s₁.heap) (nk : ∀ b o, K.lookup b = some o → H b = none) (hr : Room k callerA)
    (F : ∀ base : Heap, K.In base → base.Ns mainGlobals mg → (∀ p ∈ cs, TabB base mg p.1 p.2) → FnG P w K mg base k fa fd [x] sp) (hbind : ∀ (s : Shared) (u : Value), BindsTo s fd ⟨[u], []⟩ [(x, u)])
    (hs : sp [.ref a] H (fun v _ => v = .bl true) fun _ _ _ => False) :
    codeAny (model P w) callerA (.call (.ref fa) ⟨[.ref a], []⟩) (fun r s' => r = .ok (.ret (.bool true)) ∧ OldK s₁.heap s'.heap ∧ s'.os = s₁.os ∧ AllBare s'.gens) s₁ := by
  have kIn : K.In (hidT s₁.heap H) := fun b o z => hidT_get (KX b o z) (nk b o z)
  -- what is known is a list or a table
  have kinds : ∀ b u, H b = some u → ∃ o, s₁.heap.get? b = some o ∧ ((∃ ys n, o.data = .seq ys n) ∨ o.data = .fields #[]) := fun b u z => by
    rcases hO b with q | ⟨ob, xs, q⟩ | ⟨_, q⟩
    · rw [q] at z
      cases z
    · obtain ⟨e1, _, _, _, _, e2⟩ := ok b _ q
      exact ⟨_, e2, .inl ⟨_, _, rfl⟩⟩
    · have e1 : s₁.heap.get? b = some { cls := .none, data := .fields #[] } := ok b _ q
      exact ⟨_, e1, .inr rfl⟩
  have out : ∀ {b : Addr} {o : Obj}, s₁.heap.get? b = some o → (∀ ys n, o.data ≠ .seq ys n) → o.data ≠ .fields #[] → H b = none := fun {b o} e n1 n2 => by
    cases q : H b with
    | none => rfl
    | some u =>
      obtain ⟨o', e', r⟩ := kinds b u q
      rw [e] at e'
      cases e'
      rcases r with ⟨ys, n, r⟩ | r
      · exact absurd r (n1 ys n)
      · exact absurd r n2
  have nsIn : ∀ {b : Addr} {m : Str → Option Value}, s₁.heap.Ns b m → (hidT s₁.heap H).Ns b m := fun {b m} z => by
    obtain ⟨o, es, ep, z1, z2, z3⟩ := z
    exact ⟨o, es, ep, hidT_get z1 (out z1 (fun ys n q => by rw [z2] at q; cases q) (fun q => by rw [z2] at q; cases q)), z2, z3⟩
  have lim : (hidT s₁.heap H).NoLimit := by
    obtain ⟨mc, z1, z2⟩ := hlim
    exact ⟨mc, nsIn z1, z2⟩
  have tT : ∀ p ∈ cs, s₁.heap.get? p.2 = some { cls := .none, data := .fields #[] } := fun p hp => ok _ _ (hH p hp)
  have TB : ∀ p ∈ cs, TabB (hidT s₁.heap H) mg p.1 p.2 := fun p hp => by
    refine ⟨PySem.W.codeHd_of_K kIn (hC p hp), ?_, fun z => ?_⟩
    · obtain ⟨bm, ob, b1, b2, b3, b4, b5, b6⟩ := hbm
      refine ⟨bm, ob, b1, b2, fun q => ?_, fun q => ?_, hidT_get b3 (out b3 (fun ys n q => by rw [b6] at q; cases q) (fun q => by rw [b6] at q; cases q)), b4, b5, b6⟩
      · obtain ⟨o, es, ep, e, hd, _⟩ := hns
        rw [q, e] at b3
        cases b3
        rw [hd] at b6
        cases b6
      · rw [q, tT p hp] at b3
        cases b3
        cases b6
    · obtain ⟨o, es, ep, e, hd, _⟩ := hns
      rw [z, tT p hp] at e
      cases e
      cases hd
  have e0 : Env0 P w K mg (hidT s₁.heap H) callerA [] s₁ H :=
    { frames := rfl, mod := ⟨kIn, nsIn hns, ⟨mb, nsIn hb, hbb⟩, lim⟩, bs := fun _ _ z => of_hidT z, bsz := Nat.le_of_eq (hidT_size _ _), funs := trivial, frf := (fun b z => nomatch z), hok := ok, bare := .of_eq hg }
  refine codeAny_mono ((F _ kIn (nsIn hns) TB).go (us := [.ref a]) (vs := [.ref a]) gd_caller hr e0 (hbind s₁ (.ref a)) (.cons rfl .nil) hs) fun r s' z => ?_
  match r, z with
  | .ok (.ret u), z =>
    obtain ⟨v, H', zo, zb, un, ok', rv, q⟩ := z
    have q : v = .bl true := q
    subst q
    have eu : u = Value.bool true := rv
    subst eu
    have stays : ∀ b o, s₁.heap.get? b = some o → s'.heap.get? b = some o ∨ (∃ p ∈ cs, p.2 = b ∧ o = { cls := .none, data := .fields #[] } ∧ ∃ more : Array Value, s'.heap.get? b = some { cls := .none, data := .fields more }) := fun b o e => by
      rcases hO b with n | ⟨ob, xs, n⟩ | ⟨m, n⟩
      · exact .inl (un.keep b o e n (fun z => nomatch z) (fun z => nomatch z))
      · have e1 := (ok b _ n).1
        have e2 := (ok' b _ (un.frzs b ob _ n)).1
        have e3 : o = ob := Option.some.inj (e.symm.trans e1)
        rw [e3]
        exact .inl e2
      · obtain ⟨p, hp, rfl⟩ := List.mem_map.mp m
        obtain ⟨more, z⟩ := un.tbls p.2 #[] n
        have e1 := tT p hp
        rw [e] at e1
        exact .inr ⟨p, hp, rfl, Option.some.inj e1, _, ok' p.2 _ z⟩
    refine ⟨rfl, ⟨fun b o e => ?_, fun b o e => ?_⟩, zo, zb⟩
    · rcases stays b o e with h | ⟨p, hp, rfl, rfl, more, h⟩
      · exact .inl h
      · exact .inr (.inl ⟨((PySem.W.codeHd_of_K KX (hC p hp)).tab (tT p hp)).isCodeTable, rfl, #[], more, rfl, by rw [Array.empty_append]; exact h⟩)
    · rcases stays b o e with h | ⟨p, hp, rfl, rfl, more, h⟩
      · exact ⟨_, h⟩
      · exact ⟨_, h⟩
theorem lawGT (KX : K.In s₁.heap) (hns : s₁.heap.Ns mainGlobals mg) (hb : s₁.heap.Ns builtinsNs mb) (hbb : ∀ y : Str, y ≠ "__name__" → mb y = bootBuiltins y) (hlim : s₁.heap.NoLimit) (hg : s₁.gens = #[])
    (hbm : ∃ (bm : Addr) (ob : Obj), mg "__builtins__" = some (.ref bm) ∧ bm ≠ builtinsNs ∧ s₁.heap.get? bm = some ob ∧ ob.cls = .type "module" ∧ ob.dict = some builtinsNs ∧ ob.data = .plain) (hC : ∀ p ∈ cs, PySem.W.codeHdIn K p.1 p.2 = true) (hN : ∀ p ∈ cs, K.lookup p.2 = none)
    (hT : ∀ p ∈ cs, s₁.heap.get? p.2 = some { cls := .none, data := .fields #[] })
    (ha : s₁.heap.get? a = some { cls := .type "list", data := .seq vs.toArray }) (hi : IntsAre vs ns) (hl : ns.length ≤ sizeLine) (hr : Room k callerA)
    (F : ∀ base : Heap, K.In base → base.Ns mainGlobals mg → (∀ p ∈ cs, TabB base mg p.1 p.2) → FnG P w K mg base k fa fd [x] sp) (hbind : ∀ (s : Shared) (u : Value), BindsTo s fd ⟨[u], []⟩ [(x, u)])
    (hsp : ∀ H : Hp, (∀ p ∈ cs, H p.2 = some (.tbl #[])) → SqL K H a (ns.map V.int) → sp [.ref a] H (fun v _ => v = .bl true) fun _ _ _ => False) :
    codeAny (model P w) callerA (.call (.ref fa) ⟨[.ref a], []⟩) (fun r s' => r = .ok (.ret (.bool true)) ∧ OldK s₁.heap s'.heap ∧ s'.os = s₁.os ∧ AllBare s'.gens) s₁ := by
  have rv := vals_ints hi
  have hln := hi.length
  have aT : a ∉ cs.map (·.2) := fun z => by
    obtain ⟨p, hp, e⟩ := List.mem_map.mp z
    have q := hT p hp
    rw [e, ha] at q
    have z' : Data.seq vs.toArray _ = Data.fields #[] := congrArg Obj.data (Option.some.inj q)
    cases z'
  have mT : ∀ p ∈ cs, p.2 ∈ cs.map (·.2) := fun p hp => List.mem_map.mpr ⟨p, hp, rfl⟩
  have tb : ∀ b ∈ cs.map (·.2), s₁.heap.get? b = some { cls := .none, data := .fields #[] } ∧ K.lookup b = none := fun b z => by
    obtain ⟨p, hp, rfl⟩ := List.mem_map.mp z
    exact ⟨hT p hp, hN p hp⟩
  rcases hk : K.lookup a with _ | o
  · -- the script's list and the tables
    have v0 : ∀ b, b = a → (if b = a then some (HO.frz { cls := .type "list", data := .seq vs.toArray } (.lst (ns.map V.int))) else if b ∈ cs.map (·.2) then some (HO.tbl #[]) else none) = some (HO.frz { cls := .type "list", data := .seq vs.toArray } (.lst (ns.map V.int))) := fun b e => if_pos e
    have v1 : ∀ b, b ∈ cs.map (·.2) → (if b = a then some (HO.frz { cls := .type "list", data := .seq vs.toArray } (.lst (ns.map V.int))) else if b ∈ cs.map (·.2) then some (HO.tbl #[]) else none) = some (HO.tbl #[]) := fun b e => by
      rw [if_neg (fun z => aT (by rw [← z]; exact e)), if_pos e]
    have v2 : ∀ b, b ≠ a → b ∉ cs.map (·.2) → (if b = a then some (HO.frz { cls := .type "list", data := .seq vs.toArray } (.lst (ns.map V.int))) else if b ∈ cs.map (·.2) then some (HO.tbl #[]) else none) = none := fun b e1 e2 => by
      rw [if_neg e1, if_neg e2]
    refine lawFromT (cs := cs) (fun b => if b = a then some (.frz { cls := .type "list", data := .seq vs.toArray } (.lst (ns.map V.int))) else if b ∈ cs.map (·.2) then some (.tbl #[]) else none) (fun b => ?_) (fun p hp => v1 _ (mT p hp)) KX hns hb hbb hlim hg hbm hC (fun b u z => ?_) (fun b o z => ?_) hr F hbind
      (hsp _ (fun p hp => v1 _ (mT p hp)) (.inl (.inr ⟨_, v0 a rfl⟩)))
    · by_cases e : b = a
      · exact .inr (.inl ⟨_, _, v0 b e⟩)
      · by_cases e2 : b ∈ cs.map (·.2)
        · exact .inr (.inr ⟨e2, v1 b e2⟩)
        · exact .inl (v2 b e e2)
    · by_cases e : b = a
      · have z := (v0 b e).symm.trans z
        cases z
        rw [e]
        exact ⟨ha, by rw [List.length_map]; exact hl, vs, _, rv, ha⟩
      · by_cases e2 : b ∈ cs.map (·.2)
        · have z := (v1 b e2).symm.trans z
          cases z
          exact (tb b e2).1
        · have z := (v2 b e e2).symm.trans z
          cases z
    · refine v2 b (fun e => ?_) fun e2 => ?_
      · rw [e, hk] at z
        cases z
      · rw [(tb b e2).2] at z
        cases z
  · have z := KX a o hk
    rw [ha] at z
    cases z
    have v1 : ∀ b, b ∈ cs.map (·.2) → (if b ∈ cs.map (·.2) then some (HO.tbl #[]) else none) = some (HO.tbl #[]) := fun b e => if_pos e
    have v2 : ∀ b, b ∉ cs.map (·.2) → (if b ∈ cs.map (·.2) then some (HO.tbl #[]) else none) = none := fun b e => if_neg e
    refine lawFromT (cs := cs) (fun b => if b ∈ cs.map (·.2) then some (.tbl #[]) else none) (fun b => ?_) (fun p hp => v1 _ (mT p hp)) KX hns hb hbb hlim hg hbm hC (fun b u z => ?_) (fun b o z => ?_) hr F hbind
      (hsp _ (fun p hp => v1 _ (mT p hp)) (.inr ⟨_, vs.toArray, _, hk, rfl, rfl, rfl, by rw [List.size_toArray, hln]; exact hl, by simpa using rv⟩))
    · by_cases e2 : b ∈ cs.map (·.2)
      · exact .inr (.inr ⟨e2, v1 b e2⟩)
      · exact .inl (v2 b e2)
    · by_cases e2 : b ∈ cs.map (·.2)
      · have z := (v1 b e2).symm.trans z
        cases z
        exact (tb b e2).1
      · have z := (v2 b e2).symm.trans z
        cases z
    · refine v2 b fun e2 => ?_
      rw [(tb b e2).2] at z
      cases z
end
/-- the end of a law whose defs make lambdas -/
theorem walkGT {l : PySem.W.OpenLaw} {n k : Nat} {q : Program} {loose : List Str} {XP : (Str → Option Value) → Heap → Prop} {YP : World → Heap → Prop} {d : DefRec} {K : Params → PySem.W.Frag} {sp : World → List (Addr × Addr) → Sp} {x : Str}
    (hn : l.most = some n) (hn2 : n ≤ sizeLine) (hdf : d.params.defaults = []) (hr : Room k callerA) (hY : ∀ (w : World) (h : Heap), YP w h → (K w.params).In h)
    (F : ∀ (w : World) (mg : Str → Option Value) (fa : Addr) (h : Heap), YP w h → (K w.params).In h → h.Ns mainGlobals mg → mg d.name = some (.ref fa) →
      (∀ (x : Str) (d : DefRec) (c P : Addr), (recsOf q).find? (fun e => e.name == x) = some d → PySem.W.tabIn (K w.params) x = some (c, P) → h.get? P = some { cls := .none, data := .fields #[] }) →
      ∃ (fd : FuncData) (cs : List (Addr × Addr)), (∀ p ∈ cs, PySem.W.codeHdIn (K w.params) p.1 p.2 = true) ∧ (∀ p ∈ cs, (K w.params).lookup p.2 = none) ∧ (∀ p ∈ cs, h.get? p.2 = some { cls := .none, data := .fields #[] }) ∧ (∀ (s : Shared) (u : Value), BindsTo s fd ⟨[u], []⟩ [(x, u)]) ∧
        (∀ (H : Hp) (a : Addr) (ns : List Int), ns.length ≤ n → (∀ z ∈ ns, Builtin.Int.intBits z ≤ 1048576) → (∀ p ∈ cs, H p.2 = some (.tbl #[])) → SqL (K w.params) H a (ns.map V.int) → sp w cs [.ref a] H (fun v _ => v = .bl true) fun _ _ _ => False) ∧
        ∀ base : Heap, (K w.params).In base → base.Ns mainGlobals mg → (∀ p ∈ cs, TabB base mg p.1 p.2) → FnG l.prog w (K w.params) mg base k fa fd [x] (sp w cs)) :
    PySem.W.WalkO q loose XP YP l.row.toRowW d [] (fun f vs => PySem.call f vs) :=
  Att.attach_callB hn hdf fun w s₀ s₁ mg mb fa o pm cd doc a vs ns G Y ho hd hcd hmg hobj hints hlen hbits hg => by
    obtain ⟨fd, cs, hC, hN, hT, hb, hsp, hF⟩ := F w mg fa _ Y (hY w _ Y) G.T.g hmg fun x d c P h1 h2 => (PySem.W.tab_of G.T (hY w _ Y) h1 h2).2
    exact lawGT (hY w _ Y) G.T.g G.T.b G.T.builtins G.T.nolimit hg G.T.bmain hC hN hT hobj hints (Nat.le_trans hlen hn2) hr hF hb fun H hH hS => hsp H a ns hlen hbits hH hS
end Sw
/-! The mathematics of curves: corners and a last slope. -/
namespace MC
abbrev Pt := Rat × Rat
def stp (p q : Pt) : Rat := (q.2 - p.2) / (q.1 - p.1)
def ev (s : Rat) : List Pt → Rat → Rat
  | [], _ => 0
  | [p], x => p.2 + s * (x - p.1)
  | p :: q :: r, x => if x < q.1 then p.2 + stp p q * (x - p.1) else ev s (q :: r) x
def Asc : List Pt → Prop
  | [] => True
  | [_] => True
  | p :: q :: r => p.1 < q.1 ∧ p.2 ≤ q.2 ∧ Asc (q :: r)
structure Cv where
  pts : List Pt
  slope : Rat
structure Cv.Ok (c : Cv) : Prop where
  asc : Asc c.pts
  hd : ∃ r, c.pts = (0, 0) :: r
  s : 0 ≤ c.slope
def Cv.ev (c : Cv) (x : Rat) : Rat := MC.ev c.slope c.pts x
theorem div_nn {a b : Rat} (h : 0 ≤ a) (k : 0 < b) : 0 ≤ a / b := by
  have h1 : a / b * b = a := by grind
  rcases Rat.le_total (a := 0) (b := a / b) with z | z
  · exact z
  · have := Rat.mul_le_mul_of_nonneg_right z (show 0 ≤ b by grind)
    have e : a = 0 := by grind
    rw [e]
    grind
theorem div_pos' {a b : Rat} (h : 0 < a) (k : 0 < b) : 0 < a / b := by
  have h1 := div_nn (show 0 ≤ a by grind) k
  have h2 : a / b ≠ 0 := fun z => by
    have : a / b * b = a := by grind
    rw [z] at this
    grind
  grind
theorem mul_nn {a b : Rat} (h : 0 ≤ a) (k : 0 ≤ b) : 0 ≤ a * b := Rat.mul_nonneg h k
theorem mul_mono {a b c : Rat} (h : a ≤ b) (k : 0 ≤ c) : c * a ≤ c * b := by
  have := mul_nn k (show 0 ≤ b - a by grind)
  grind
theorem mul_smono {a b c : Rat} (h : a < b) (k : 0 < c) : c * a < c * b := by
  have := Rat.mul_pos k (show 0 < b - a by grind)
  grind
theorem stp_nn {p q : Pt} (h : p.1 < q.1) (k : p.2 ≤ q.2) : 0 ≤ stp p q := div_nn (by grind) (by grind)
theorem stp_mul {p q : Pt} (h : p.1 < q.1) : stp p q * (q.1 - p.1) = q.2 - p.2 := by
  unfold stp
  have : q.1 - p.1 ≠ 0 := by grind
  grind
/-- the rise behind the i-th corner -/
def rise (s : Rat) (ps : List Pt) (i : Nat) : Rat := match ps[i]?, ps[i + 1]? with
  | some p, some q => stp p q
  | _, _ => s
theorem rise_cons {s : Rat} {p : Pt} {ps : List Pt} {i : Nat} : rise s (p :: ps) (i + 1) = rise s ps i := rfl
theorem ev_at {s : Rat} : ∀ {ps : List Pt} {i : Nat} {p : Pt} {x : Rat}, Asc ps → ps[i]? = some p → p.1 ≤ x → (∀ q, ps[i + 1]? = some q → x < q.1) → ev s ps x = p.2 + rise s ps i * (x - p.1)
  | [a], 0, p, x, _, h, _, _ => by
    cases h
    rfl
  | a :: b :: r, 0, p, x, hA, h, h1, h2 => by
    cases h
    have := h2 b rfl
    show (if x < b.1 then _ else _) = _
    rw [if_pos this]
    rfl
  | a :: b :: r, i + 1, p, x, hA, h, h1, h2 => by
    have h : (b :: r)[i]? = some p := h
    have hb : b.1 ≤ x := by
      have key : ∀ {ps : List Pt} {a : Pt} {i : Nat} {p : Pt}, Asc (a :: ps) → (a :: ps)[i]? = some p → a.1 ≤ p.1 := by
        intro ps
        induction ps with
        | nil =>
          intro a i p _ h
          cases i with
          | zero => cases h; grind
          | succ i => simp at h
        | cons c ps ih =>
          intro a i p hA h
          cases i with
          | zero => cases h; grind
          | succ i =>
            have := ih hA.2.2 h
            have := hA.1
            grind
      have := key hA.2.2 h
      grind
    show (if x < b.1 then _ else _) = _
    rw [if_neg (by grind)]
    exact ev_at hA.2.2 h h1 h2
theorem asc_le {ps : List Pt} : ∀ {a : Pt} {i : Nat} {p : Pt}, Asc (a :: ps) → (a :: ps)[i]? = some p → a.1 ≤ p.1 ∧ a.2 ≤ p.2 ∧ (0 < i → a.1 < p.1) := by
  induction ps with
  | nil =>
    intro a i p _ h
    cases i with
    | zero => cases h; grind
    | succ i => simp at h
  | cons c ps ih =>
    intro a i p hA h
    cases i with
    | zero => cases h; grind
    | succ i =>
      have := ih hA.2.2 h
      have := hA.1
      have := hA.2.1
      grind
theorem asc_lt : ∀ {ps : List Pt} {i j : Nat} {p q : Pt}, Asc ps → ps[i]? = some p → ps[j]? = some q → i < j → p.1 < q.1 ∧ p.2 ≤ q.2
  | [], i, j, p, q, _, h, _, _ => by simp at h
  | a :: ps, 0, j, p, q, hA, h, k, l => by
    cases h
    have := asc_le hA k
    exact ⟨this.2.2 l, this.2.1⟩
  | a :: ps, i + 1, j + 1, p, q, hA, h, k, l => by
    have hA' : Asc ps := by
      cases ps with
      | nil => exact True.intro
      | cons b r => exact hA.2.2
    exact asc_lt hA' h k (by omega)
/-- the last of these corners -/
theorem ev_ge {s : Rat} : ∀ {ps : List Pt} {p : Pt} {x : Rat}, Asc (p :: ps) → 0 ≤ s → p.1 ≤ x → p.2 ≤ ev s (p :: ps) x
  | [], p, x, _, hs, hx => by
    show p.2 ≤ p.2 + s * (x - p.1)
    have := mul_nn hs (show 0 ≤ x - p.1 by grind)
    grind
  | q :: r, p, x, hA, hs, hx => by
    show p.2 ≤ if x < q.1 then _ else _
    split
    · have := mul_nn (stp_nn hA.1 hA.2.1) (show 0 ≤ x - p.1 by grind)
      grind
    · have := ev_ge hA.2.2 hs (show q.1 ≤ x by grind)
      have := hA.2.1
      grind
theorem ev_mono {s : Rat} : ∀ {ps : List Pt} {p : Pt} {x y : Rat}, Asc (p :: ps) → 0 ≤ s → p.1 ≤ x → x ≤ y → ev s (p :: ps) x ≤ ev s (p :: ps) y
  | [], p, x, y, _, hs, hx, hy => by
    show p.2 + s * (x - p.1) ≤ p.2 + s * (y - p.1)
    have := mul_mono (show x - p.1 ≤ y - p.1 by grind) hs
    grind
  | q :: r, p, x, y, hA, hs, hx, hy => by
    have st := stp_nn hA.1 hA.2.1
    have sm := stp_mul hA.1
    show (if x < q.1 then _ else _) ≤ if y < q.1 then _ else _
    by_cases h1 : x < q.1
    · rw [if_pos h1]
      by_cases h2 : y < q.1
      · rw [if_pos h2]
        have := mul_mono (show x - p.1 ≤ y - p.1 by grind) st
        grind
      · rw [if_neg h2]
        have h3 := ev_ge hA.2.2 hs (show q.1 ≤ y by grind)
        have := mul_mono (show x - p.1 ≤ q.1 - p.1 by grind) st
        grind
    · rw [if_neg h1, if_neg (by grind)]
      exact ev_mono hA.2.2 hs (by grind) hy
theorem Cv.Ok.ev0 {c : Cv} (h : c.Ok) : c.ev 0 = 0 := by
  obtain ⟨r, e⟩ := h.hd
  have hA := h.asc
  unfold Cv.ev
  rw [e] at hA ⊢
  cases r with
  | nil =>
    show 0 + c.slope * (0 - 0) = 0
    grind
  | cons q r =>
    show (if (0 : Rat) < q.1 then _ else _) = _
    rw [if_pos hA.1]
    show 0 + _ * (0 - 0) = 0
    grind
theorem Cv.Ok.mono {c : Cv} (h : c.Ok) {x y : Rat} (hx : 0 ≤ x) (hy : x ≤ y) : c.ev x ≤ c.ev y := by
  obtain ⟨r, e⟩ := h.hd
  have hA := h.asc
  unfold Cv.ev
  rw [e] at hA ⊢
  exact ev_mono hA h.s hx hy
/-! ### by bends -/
def ramp (x l : Rat) : Rat := if l ≤ x then x - l else 0
def bends (s : Rat) : Rat → List Pt → List (Rat × Rat)
  | _, [] => []
  | ρ, [p] => [(p.1, s - ρ)]
  | ρ, p :: q :: r => (p.1, stp p q - ρ) :: bends s (stp p q) (q :: r)
def sumR : List (Rat × Rat) → Rat → Rat
  | [], _ => 0
  | e :: r, x => e.2 * ramp x e.1 + sumR r x
theorem sumR_app (as bs : List (Rat × Rat)) (x : Rat) : sumR (as ++ bs) x = sumR as x + sumR bs x := by
  induction as with
  | nil => show _ = 0 + _; grind
  | cons a as ih =>
    show a.2 * ramp x a.1 + sumR (as ++ bs) x = a.2 * ramp x a.1 + sumR as x + _
    rw [ih]
    grind
theorem sumR_zero {x : Rat} : ∀ {L : List (Rat × Rat)}, (∀ e ∈ L, x ≤ e.1) → sumR L x = 0
  | [], _ => rfl
  | e :: r, h => by
    have h1 := h e List.mem_cons_self
    show e.2 * ramp x e.1 + sumR r x = 0
    rw [sumR_zero fun z hz => h z (List.mem_cons_of_mem _ hz)]
    unfold ramp
    split
    · have : x - e.1 = 0 := by grind
      rw [this]
      grind
    · grind
theorem bends_lv {s : Rat} : ∀ {ps : List Pt} {ρ : Rat}, (bends s ρ ps).map (·.1) = ps.map (·.1)
  | [], _ => rfl
  | [p], _ => rfl
  | p :: q :: r, ρ => by
    show p.1 :: (bends s (stp p q) (q :: r)).map (·.1) = p.1 :: _
    rw [bends_lv]
theorem asc_tail {p : Pt} {ps : List Pt} (h : Asc (p :: ps)) : Asc ps := by
  cases ps with
  | nil => exact True.intro
  | cons b r => exact h.2.2
theorem asc_mem {ps : List Pt} {p q : Pt} (h : Asc (p :: ps)) (hq : q ∈ ps) : p.1 < q.1 ∧ p.2 ≤ q.2 := by
  obtain ⟨i, hi⟩ := List.mem_iff_getElem?.mp hq
  exact asc_lt (i := 0) (j := i + 1) h rfl hi (by omega)
theorem ev_bends {s : Rat} : ∀ {ps : List Pt} {p : Pt} {ρ x : Rat}, Asc (p :: ps) → p.1 ≤ x → ev s (p :: ps) x = p.2 + ρ * (x - p.1) + sumR (bends s ρ (p :: ps)) x
  | [], p, ρ, x, _, hx => by
    show p.2 + s * (x - p.1) = p.2 + ρ * (x - p.1) + ((s - ρ) * ramp x p.1 + 0)
    unfold ramp
    rw [if_pos hx]
    grind
  | q :: r, p, ρ, x, hA, hx => by
    show (if x < q.1 then _ else _) = p.2 + ρ * (x - p.1) + ((stp p q - ρ) * ramp x p.1 + sumR (bends s (stp p q) (q :: r)) x)
    have e1 : ramp x p.1 = x - p.1 := if_pos hx
    rw [e1]
    by_cases h1 : x < q.1
    · rw [if_pos h1, sumR_zero (L := bends s (stp p q) (q :: r)) fun e he => ?_]
      · grind
      · have hm : e.1 ∈ (bends s (stp p q) (q :: r)).map (·.1) := List.mem_map.mpr ⟨e, he, rfl⟩
        rw [bends_lv] at hm
        obtain ⟨z, hz, ez⟩ := List.mem_map.mp hm
        rcases List.mem_cons.mp hz with rfl | hz
        · grind
        · have := (asc_mem hA.2.2 hz).1
          grind
    · rw [if_neg h1, ev_bends (ρ := stp p q) hA.2.2 (by grind)]
      have sm := stp_mul hA.1
      grind
theorem Cv.Ok.sum {c : Cv} (h : c.Ok) {x : Rat} (hx : 0 ≤ x) : c.ev x = sumR (bends c.slope 0 c.pts) x := by
  obtain ⟨r, e⟩ := h.hd
  have hA := h.asc
  unfold Cv.ev
  rw [e] at hA ⊢
  rw [ev_bends (ρ := 0) hA hx]
  show 0 + 0 * (x - 0) + _ = _
  grind
/-- between two levels without a bend between -/
theorem sumR_aff {lo hi x : Rat} (h1 : lo ≤ x) (h2 : x ≤ hi) (h3 : lo < hi) : ∀ {L : List (Rat × Rat)}, (∀ e ∈ L, e.1 ≤ lo ∨ hi ≤ e.1) → sumR L x * (hi - lo) = sumR L lo * (hi - x) + sumR L hi * (x - lo)
  | [], _ => by
    show 0 * _ = 0 * _ + 0 * _
    grind
  | e :: r, h => by
    have ih := sumR_aff h1 h2 h3 fun z hz => h z (List.mem_cons_of_mem e hz)
    have he := h e List.mem_cons_self
    show (e.2 * ramp x e.1 + sumR r x) * (hi - lo) = (e.2 * ramp lo e.1 + sumR r lo) * (hi - x) + (e.2 * ramp hi e.1 + sumR r hi) * (x - lo)
    have key : ramp x e.1 * (hi - lo) = ramp lo e.1 * (hi - x) + ramp hi e.1 * (x - lo) := by
      unfold ramp
      rcases he with he | he
      · rw [if_pos (show e.1 ≤ x by grind), if_pos he, if_pos (show e.1 ≤ hi by grind)]
        grind
      · by_cases q : hi ≤ x
        · have : x = hi := by grind
          subst this
          grind
        · rw [if_neg (show ¬ e.1 ≤ x by grind), if_neg (show ¬ e.1 ≤ lo by grind)]
          by_cases q2 : e.1 ≤ hi
          · rw [if_pos q2]
            have : hi - e.1 = 0 := by grind
            rw [this]
            grind
          · rw [if_neg q2]
            grind
    grind
theorem sumR_far {lo x : Rat} (h1 : lo ≤ x) : ∀ {L : List (Rat × Rat)}, (∀ e ∈ L, e.1 ≤ lo) → sumR L x = sumR L lo + (sumR L (lo + 1) - sumR L lo) * (x - lo)
  | [], _ => by
    show 0 = 0 + (0 - 0) * _
    grind
  | e :: r, h => by
    have ih := sumR_far h1 fun z hz => h z (List.mem_cons_of_mem e hz)
    have he := h e List.mem_cons_self
    show e.2 * ramp x e.1 + sumR r x = e.2 * ramp lo e.1 + sumR r lo + (e.2 * ramp (lo + 1) e.1 + sumR r (lo + 1) - (e.2 * ramp lo e.1 + sumR r lo)) * (x - lo)
    unfold ramp
    rw [if_pos (show e.1 ≤ x by grind), if_pos he, if_pos (show e.1 ≤ lo + 1 by grind)]
    grind
end MC
/-! Sums of curves, the least level of a pay. -/
namespace MC
/-- the least level at which S comes to A, none if it never does -/
def Lst (S : Rat → Rat) (A : Rat) : Option Rat → Prop
  | some x => 0 ≤ x ∧ S x = A ∧ ∀ y, 0 ≤ y → y < x → S y < A
  | none => ∀ y, 0 ≤ y → S y < A
theorem Lst.uniq {S : Rat → Rat} {A : Rat} : ∀ {o o' : Option Rat}, Lst S A o → Lst S A o' → o = o'
  | none, none, _, _ => rfl
  | some x, none, h, k => by
    have := k x h.1
    have := h.2.1
    grind
  | none, some x, k, h => by
    have := k x h.1
    have := h.2.1
    grind
  | some x, some y, h, k => by
    by_cases e : x = y
    · rw [e]
    · by_cases l : x < y
      · have := k.2.2 x h.1 l
        have := h.2.1
        grind
      · have := h.2.2 y k.1 (by grind)
        have := k.2.1
        grind
theorem Lst.congr {S S' : Rat → Rat} {A : Rat} (e : ∀ x, 0 ≤ x → S x = S' x) : ∀ {o : Option Rat}, Lst S A o → Lst S' A o
  | none, h => fun y hy => by rw [← e y hy]; exact h y hy
  | some x, h => ⟨h.1, by rw [← e x h.1]; exact h.2.1, fun y hy hx => by rw [← e y hy]; exact h.2.2 y hy hx⟩
theorem Cv.Ok.pay {c : Cv} (h : c.Ok) {i : Nat} {p : Pt} (hi : c.pts[i]? = some p) : 0 ≤ p.1 ∧ 0 ≤ p.2 ∧ c.ev p.1 = p.2 := by
  obtain ⟨r, e⟩ := h.hd
  have hA := h.asc
  have h0 := asc_le (a := (0, 0)) (ps := r) (i := i) (p := p) (by rw [← e]; exact hA) (by rw [← e]; exact hi)
  refine ⟨h0.1, h0.2.1, ?_⟩
  unfold Cv.ev
  rw [ev_at hA hi (by grind) fun q hq => (asc_lt hA hi hq (Nat.lt_succ_self i)).1]
  grind
theorem Cv.Ok.at {c : Cv} (h : c.Ok) {i : Nat} {p : Pt} {x : Rat} (hi : c.pts[i]? = some p) (h1 : p.1 ≤ x) (h2 : ∀ q, c.pts[i + 1]? = some q → x < q.1) : c.ev x = p.2 + rise c.slope c.pts i * (x - p.1) := ev_at h.asc hi h1 h2
theorem rise_nn {c : Cv} (h : c.Ok) (i : Nat) : 0 ≤ rise c.slope c.pts i := by
  unfold rise
  split
  · rename_i p q h1 h2
    have := asc_lt h.asc h1 h2 (Nat.lt_succ_self i)
    exact stp_nn this.1 this.2
  · exact h.s
theorem rise_last {c : Cv} {i : Nat} (h : c.pts[i + 1]? = none) : rise c.slope c.pts i = c.slope := by
  unfold rise
  rw [h]
  split
  · rename_i e
    cases e
  · rfl
theorem rise_in {c : Cv} {i : Nat} {p q : Pt} (h1 : c.pts[i]? = some p) (h2 : c.pts[i + 1]? = some q) : rise c.slope c.pts i = stp p q := by
  unfold rise
  rw [h1, h2]
theorem level_for_lst {c : Cv} (h : c.Ok) {A : Rat} {i : Nat} {p : Pt} (hi : c.pts[i]? = some p) (h1 : p.2 < A) (h2 : ∀ q, c.pts[i + 1]? = some q → A ≤ q.2) :
    Lst c.ev A (if rise c.slope c.pts i = 0 then none else some (p.1 + (A - p.2) / rise c.slope c.pts i)) := by
  obtain ⟨p0, p1, pe⟩ := h.pay hi
  have rn := rise_nn h i
  by_cases hr : rise c.slope c.pts i = 0
  · rw [if_pos hr]
    cases hq : c.pts[i + 1]? with
    | some q =>
      have e := rise_in hi hq
      have a := asc_lt h.asc hi hq (Nat.lt_succ_self i)
      have sm := stp_mul (p := p) (q := q) a.1
      have := h2 q hq
      rw [hr] at e
      rw [← e] at sm
      grind
    | none =>
      intro y hy
      by_cases l : y ≤ p.1
      · have := h.mono hy l
        grind
      · have := h.at hi (show p.1 ≤ y by grind) (fun q hq2 => by rw [hq] at hq2; cases hq2)
        rw [hr] at this
        grind
  · rw [if_neg hr]
    generalize hR : rise c.slope c.pts i = R at *
    have rp : 0 < R := by grind
    have xd : (A - p.2) / R * R = A - p.2 := by grind
    have xp := div_pos' (show 0 < A - p.2 by grind) rp
    generalize (A - p.2) / R = d at *
    refine ⟨by grind, ?_, fun y hy hyx => ?_⟩
    · by_cases l : ∀ q, c.pts[i + 1]? = some q → p.1 + d < q.1
      · have := h.at hi (show p.1 ≤ p.1 + d by grind) l
        rw [hR] at this
        grind
      · obtain ⟨q, hq⟩ := Classical.not_forall.mp l
        have hq1 := (Classical.not_imp.mp hq).1
        have hq2 := (Classical.not_imp.mp hq).2
        have e := rise_in hi hq1
        have a := asc_lt h.asc hi hq1 (Nat.lt_succ_self i)
        have sm := stp_mul (p := p) (q := q) a.1
        have hA := h2 q hq1
        rw [hR] at e
        rw [← e] at sm
        obtain ⟨_, _, qe⟩ := h.pay hq1
        have l2 : d ≤ q.1 - p.1 := by
          by_cases z : d ≤ q.1 - p.1
          · exact z
          · have := mul_smono (show q.1 - p.1 < d by grind) rp
            grind
        have e3 : p.1 + d = q.1 := by grind
        rw [e3, qe]
        have : d = q.1 - p.1 := by grind
        grind
    · by_cases l : y ≤ p.1
      · have := h.mono hy l
        grind
      · have lq : ∀ q, c.pts[i + 1]? = some q → y < q.1 := fun q hq1 => by
          have e := rise_in hi hq1
          have a := asc_lt h.asc hi hq1 (Nat.lt_succ_self i)
          have sm := stp_mul (p := p) (q := q) a.1
          have hA := h2 q hq1
          rw [hR] at e
          rw [← e] at sm
          by_cases z : d ≤ q.1 - p.1
          · grind
          · have := mul_smono (show q.1 - p.1 < d by grind) rp
            grind
        have := h.at hi (show p.1 ≤ y by grind) lq
        rw [hR] at this
        have := mul_smono (show y - p.1 < d by grind) rp
        grind
/-! the law's way -/
theorem lst_between {S : Rat → Rat} {lo hi A : Rat} (mono : ∀ x y, 0 ≤ x → x ≤ y → S x ≤ S y) (h0 : 0 ≤ lo) (hl : lo < hi) (aff : ∀ x, lo ≤ x → x ≤ hi → S x * (hi - lo) = S lo * (hi - x) + S hi * (x - lo)) (h1 : S lo < A) (h2 : A ≤ S hi) :
    Lst S A (some (lo + (A - S lo) / (S hi - S lo) * (hi - lo))) := by
  have dp : 0 < S hi - S lo := by grind
  have e1 : (A - S lo) / (S hi - S lo) * (S hi - S lo) = A - S lo := by grind
  have p1 := div_pos' (show 0 < A - S lo by grind) dp
  have p2 : (A - S lo) / (S hi - S lo) ≤ 1 := by
    by_cases z : (A - S lo) / (S hi - S lo) ≤ 1
    · exact z
    · have := mul_smono (show 1 < (A - S lo) / (S hi - S lo) by grind) dp
      grind
  generalize (A - S lo) / (S hi - S lo) = t at *
  have w : 0 < hi - lo := by grind
  have k1 := mul_mono p2 (show 0 ≤ hi - lo by grind)
  have k0 := Rat.mul_pos p1 w
  refine ⟨by grind, ?_, fun y hy hyx => ?_⟩
  · have a := aff (lo + t * (hi - lo)) (by grind) (by grind)
    have e2 : S (lo + t * (hi - lo)) * (hi - lo) = A * (hi - lo) := by grind
    grind
  · by_cases l : y ≤ lo
    · have := mono y lo hy l
      grind
    · have a := aff y (by grind) (by grind)
      have e2 : S y * (hi - lo) < A * (hi - lo) := by
        have m := mul_smono (show y - lo < t * (hi - lo) by grind) dp
        have e5 : (S hi - S lo) * (t * (hi - lo)) = (A - S lo) * (hi - lo) := by
          rw [← e1]
          grind
        rw [e5] at m
        clear mono aff
        grind
      by_cases z : S y < A
      · exact z
      · have := mul_mono (show A ≤ S y by grind) (show 0 ≤ hi - lo by grind)
        grind
theorem lst_far {S : Rat → Rat} {lo A : Rat} (mono : ∀ x y, 0 ≤ x → x ≤ y → S x ≤ S y) (h0 : 0 ≤ lo) (aff : ∀ x, lo ≤ x → S x = S lo + (S (lo + 1) - S lo) * (x - lo)) (h1 : S lo < A) (h2 : S lo < S (lo + 1)) :
    Lst S A (some (lo + (A - S lo) / (S (lo + 1) - S lo) * (lo + 1 - lo))) := by
  have dp : 0 < S (lo + 1) - S lo := by grind
  have e1 : (A - S lo) / (S (lo + 1) - S lo) * (S (lo + 1) - S lo) = A - S lo := by grind
  have p1 := div_pos' (show 0 < A - S lo by grind) dp
  generalize (A - S lo) / (S (lo + 1) - S lo) = t at *
  have e3 : lo + t * (lo + 1 - lo) = lo + t := by grind
  rw [e3]
  refine ⟨by grind, ?_, fun y hy hyx => ?_⟩
  · have a := aff (lo + t) (by grind)
    grind
  · by_cases l : y ≤ lo
    · have := mono y lo hy l
      grind
    · have a := aff y (by grind)
      have := mul_smono (show y - lo < t by grind) dp
      grind
theorem lst_flat {S : Rat → Rat} {lo A : Rat} (mono : ∀ x y, 0 ≤ x → x ≤ y → S x ≤ S y) (h0 : 0 ≤ lo) (aff : ∀ x, lo ≤ x → S x = S lo + (S (lo + 1) - S lo) * (x - lo)) (h1 : S lo < A) (h2 : ¬ S lo < S (lo + 1)) : Lst S A none := fun y hy => by
  have m := mono lo (lo + 1) h0 (by grind)
  by_cases l : y ≤ lo
  · have := mono y lo hy l
    grind
  · have a := aff y (by grind)
    have e : S (lo + 1) - S lo = 0 := by grind
    rw [e] at a
    grind
/-! sums by bends -/
theorem ev_snoc {s s' : Rat} : ∀ {cs : List Pt} {l x : Rat}, cs ≠ [] → (∀ p ∈ cs, p.1 < l) → ev s' (cs ++ [(l, ev s cs l)]) x = if x < l then ev s cs x else ev s cs l + s' * (x - l)
  | [], _, _, h, _ => absurd rfl h
  | [p], l, x, _, h => by
    have hp := h p List.mem_cons_self
    show (if x < l then p.2 + stp p (l, p.2 + s * (l - p.1)) * (x - p.1) else (p.2 + s * (l - p.1)) + s' * (x - l)) = _
    have e : stp p (l, p.2 + s * (l - p.1)) = s := by
      unfold stp
      show (p.2 + s * (l - p.1) - p.2) / (l - p.1) = s
      have : l - p.1 ≠ 0 := by grind
      grind
    rw [e]
    rfl
  | p :: q :: r, l, x, _, h => by
    have hq := h q (List.mem_cons_of_mem _ List.mem_cons_self)
    have e : ev s (p :: q :: r) l = ev s (q :: r) l := if_neg (by grind)
    rw [e]
    show (if x < q.1 then _ else ev s' ((q :: r) ++ [(l, ev s (q :: r) l)]) x) = if x < l then (if x < q.1 then _ else ev s (q :: r) x) else _
    rw [ev_snoc (cs := q :: r) (List.cons_ne_nil _ _) fun z hz => h z (List.mem_cons_of_mem _ hz)]
    by_cases h1 : x < q.1
    · rw [if_pos h1, if_pos (by grind), if_pos h1]
    · rw [if_neg h1, if_neg h1]
structure Ac where
  cs : List Pt
  last : Rat
  pay : Rat
  rise : Rat
def Ac.step (β : Rat → Rat) (t : Ac) (l : Rat) : Ac := ⟨if l = 0 ∨ β l ≠ 0 then t.cs ++ [(l, t.pay + t.rise * (l - t.last))] else t.cs, l, t.pay + t.rise * (l - t.last), t.rise + β l⟩
def Ac.zero : Ac := ⟨[], 0, 0, 0⟩
def GG (β : Rat → Rat) (M : List Rat) (x : Rat) : Rat := sumR (M.map fun l => (l, β l)) x
theorem GG_snoc (β : Rat → Rat) (M : List Rat) (l x : Rat) : GG β (M ++ [l]) x = GG β M x + β l * ramp x l := by
  unfold GG
  rw [List.map_append, sumR_app]
  show _ + (β l * ramp x l + 0) = _
  grind
structure Ac.Inv (β : Rat → Rat) (t : Ac) (M : List Rat) : Prop where
  le : ∀ l ∈ M, l ≤ t.last
  nn : 0 ≤ t.last
  ray : ∀ x, t.last ≤ x → GG β M x = t.pay + t.rise * (x - t.last)
  mem : ∀ p ∈ t.cs, p.1 ∈ M ∧ p.2 = GG β M p.1
  asc : t.cs.Pairwise fun p q => p.1 < q.1
  hd : ∃ r, t.cs = (0, 0) :: r
  ev : ∀ x, 0 ≤ x → MC.ev t.rise t.cs x = GG β M x
theorem Ac.first (β : Rat → Rat) : (Ac.zero.step β 0).Inv β [0] := by
  have e : (Ac.zero.step β 0) = ⟨[(0, 0)], 0, 0, β 0⟩ := by
    unfold Ac.step Ac.zero
    rw [if_pos (.inl rfl)]
    have e1 : (0 : Rat) + 0 * (0 - 0) = 0 := by grind
    have e2 : (0 : Rat) + β 0 = β 0 := by grind
    dsimp only
    rw [e1, e2]
    rfl
  have g : ∀ x, 0 ≤ x → GG β [0] x = β 0 * x := fun x hx => by
    show β 0 * ramp x 0 + 0 = _
    unfold ramp
    rw [if_pos hx]
    grind
  rw [e]
  refine ⟨fun l hl => ?_, by grind, fun x hx => ?_, fun p hp => ?_, List.pairwise_singleton _ _, ⟨[], rfl⟩, fun x hx => ?_⟩
  · rw [List.mem_singleton.mp hl]
    grind
  · rw [g x hx]
    show _ = 0 + β 0 * (x - 0)
    grind
  · rw [List.mem_singleton.mp hp]
    refine ⟨List.mem_singleton.mpr rfl, ?_⟩
    rw [g 0 (by grind)]
    show (0 : Rat) = _
    grind
  · rw [g x hx]
    show 0 + β 0 * (x - 0) = _
    grind
theorem Ac.next {β : Rat → Rat} {t : Ac} {M : List Rat} (h : t.Inv β M) {l : Rat} (hl : t.last < l) : (t.step β l).Inv β (M ++ [l]) := by
  obtain ⟨r, hcs⟩ := h.hd
  have hpos : 0 < l := by have := h.nn; grind
  have hne : t.cs ≠ [] := by rw [hcs]; exact fun z => nomatch z
  have lt : ∀ p ∈ t.cs, p.1 < l := fun p hp => by
    have := h.le _ (h.mem p hp).1
    grind
  have gl : GG β M l = t.pay + t.rise * (l - t.last) := h.ray l (by grind)
  have el : MC.ev t.rise t.cs l = GG β M l := h.ev l (by grind)
  have low : ∀ x, x < l → GG β (M ++ [l]) x = GG β M x := fun x hx => by
    rw [GG_snoc]
    unfold ramp
    rw [if_neg (by grind)]
    grind
  have atl : GG β (M ++ [l]) l = GG β M l := by
    rw [GG_snoc]
    unfold ramp
    rw [if_pos (by grind)]
    grind
  have high : ∀ x, l ≤ x → GG β (M ++ [l]) x = t.pay + t.rise * (l - t.last) + (t.rise + β l) * (x - l) := fun x hx => by
    rw [GG_snoc, h.ray x (by grind)]
    unfold ramp
    rw [if_pos hx]
    grind
  unfold Ac.step
  refine ⟨fun z hz => ?_, by show 0 ≤ l; grind, high, ?_, ?_, ?_, ?_⟩
  · rcases List.mem_append.mp hz with q | q
    · have := h.le z q
      show z ≤ l
      grind
    · rw [List.mem_singleton.mp q]
      show l ≤ l
      grind
  · intro p hp
    have old : p ∈ t.cs → p.1 ∈ M ++ [l] ∧ p.2 = GG β (M ++ [l]) p.1 := fun q => by
      obtain ⟨a, b⟩ := h.mem p q
      refine ⟨List.mem_append_left _ a, ?_⟩
      rw [low _ (lt p q)]
      exact b
    dsimp only at hp
    split at hp
    · rcases List.mem_append.mp hp with q | q
      · exact old q
      · rw [List.mem_singleton.mp q]
        refine ⟨List.mem_append_right _ (List.mem_singleton.mpr rfl), ?_⟩
        show _ = GG β (M ++ [l]) l
        rw [atl, gl]
    · exact old hp
  · dsimp only
    split
    · refine List.pairwise_append.mpr ⟨h.asc, List.pairwise_singleton _ _, fun a ha b hb => ?_⟩
      rw [List.mem_singleton.mp hb]
      exact lt a ha
    · exact h.asc
  · dsimp only
    split
    · exact ⟨r ++ [(l, _)], by rw [hcs]; rfl⟩
    · exact ⟨r, hcs⟩
  · intro x hx
    dsimp only
    split
    · rw [← gl, ← el, ev_snoc hne lt]
      by_cases q : x < l
      · rw [if_pos q, low x q, h.ev x hx]
      · rw [if_neg q, high x (by grind), el, gl]
    · rename_i z
      have b0 : β l = 0 := by
        cases Classical.em (β l = 0) with
        | inl w => exact w
        | inr w => exact absurd (.inr w) z
      rw [GG_snoc, b0, ← h.ev x hx]
      have e : t.rise + 0 = t.rise := by grind
      rw [e]
      grind
theorem Ac.all {β : Rat → Rat} : ∀ {L : List Rat} {t : Ac} {M : List Rat}, t.Inv β M → (∀ l ∈ L, t.last < l) → L.Pairwise (· < ·) → (L.foldl (Ac.step β) t).Inv β (M ++ L)
  | [], t, M, h, _, _ => by
    rw [List.append_nil]
    exact h
  | l :: L, t, M, h, hl, hp => by
    have hp' := List.pairwise_cons.mp hp
    have h1 := Ac.next h (hl l List.mem_cons_self)
    have := Ac.all (L := L) h1 (fun z hz => hp'.1 z hz) hp'.2
    rw [List.append_assoc] at this
    exact this
theorem asc_of {S : Rat → Rat} (mono : ∀ x y, 0 ≤ x → x ≤ y → S x ≤ S y) : ∀ {cs : List Pt}, (∀ p ∈ cs, 0 ≤ p.1 ∧ p.2 = S p.1) → (cs.Pairwise fun p q => p.1 < q.1) → Asc cs
  | [], _, _ => True.intro
  | [_], _, _ => True.intro
  | p :: q :: r, h, hp => by
    obtain ⟨h1, h2⟩ := List.pairwise_cons.mp hp
    have a := h1 q List.mem_cons_self
    have b := h p List.mem_cons_self
    have c := h q (List.mem_cons_of_mem _ List.mem_cons_self)
    refine ⟨a, ?_, asc_of mono (fun z hz => h z (List.mem_cons_of_mem _ hz)) h2⟩
    rw [b.2, c.2]
    exact mono _ _ b.1 (by grind)
/-- the sum's own curve -/
theorem Ac.curve {β : Rat → Rat} {t : Ac} {M : List Rat} (h : t.Inv β M) {S : Rat → Rat} (mono : ∀ x y, 0 ≤ x → x ≤ y → S x ≤ S y) (hS : ∀ x, 0 ≤ x → GG β M x = S x) (hM : ∀ l ∈ M, 0 ≤ l) : Cv.Ok ⟨t.cs, t.rise⟩ ∧ ∀ x, 0 ≤ x → Cv.ev ⟨t.cs, t.rise⟩ x = S x := by
  refine ⟨⟨asc_of mono (fun p hp => ?_) h.asc, h.hd, ?_⟩, fun x hx => ?_⟩
  · obtain ⟨a, b⟩ := h.mem p hp
    have := hM _ a
    exact ⟨this, by rw [b, hS _ this]⟩
  · have n := h.nn
    have a := h.ray t.last (by grind)
    have b := h.ray (t.last + 1) (by grind)
    have c := mono t.last (t.last + 1) n (by grind)
    rw [hS _ n] at a
    rw [hS _ (by grind)] at b
    show 0 ≤ t.rise
    grind
  · show MC.ev t.rise t.cs x = _
    rw [h.ev x hx, hS x hx]
end MC
namespace K33
open PySem PySem.Spec PyProof.Rows L2 Sw
def topS (i : Nat) : Stmt := PySem.Challenge.pw_soldwhole_k33_level_papers_of_any_value.main.body.getD i (.Pass ⟨0, 0, 0, 0⟩)
/-- the module's own names -/
structure Tx (mg : Str → Option Value) : Prop where
  gcd : mg "gcd" = some (.builtin "math.gcd")
/-- a drawn FRACTION above 0, its lower number small -/
def NumQ (n m : Int) : Prop := 1 ≤ n ∧ n ≤ 1000000000000 ∧ 1 ≤ m ∧ (1407000 : Int) % m = 0 ∧ gI n m = 1
def NumE (d : PyData) : Prop := ∃ n m, d = .tuple [.int n, .int m] ∧ NumQ n m
def spNumE (K : PySem.W.Frag) : Sp := fun vs H Q E => ∃ most : Int, 0 < most ∧ most ≤ 100000000 ∧ spG K [.int most] NumE vs H Q E
theorem numE {n m : Int} (h : NumQ n m) : NumE (.tuple [.int n, .int m]) := ⟨n, m, rfl, h⟩
theorem NumE.not {H : Hp} {v : V} {d : PyData} (h : NumE d) : Own H v d := by
  obtain ⟨n, m, rfl, _⟩ := h
  exact own_not fun _ z => nomatch z
def isInt (d : PyData) : Bool := isT "int" d && !isT "bool" d
def isFrac : PyData → Bool
  | .tuple [.int n, .int d] => decide (1 ≤ d) && decide (gI n d = 1)
  | _ => false
def isAmt : PyData → Bool
  | .tuple [.int n, .int d] => isFrac (.tuple [.int n, .int d]) && decide (0 ≤ n)
  | _ => false
def isAb : PyData → Bool
  | .tuple [.int n, .int d] => isFrac (.tuple [.int n, .int d]) && decide (0 < n)
  | _ => false
theorem isFrac_eq (n d : Int) : isFrac (.tuple [.int n, .int d]) = (decide (1 ≤ d) && decide (gI n d = 1)) := rfl
theorem isAmt_eq (n d : Int) : isAmt (.tuple [.int n, .int d]) = (isFrac (.tuple [.int n, .int d]) && decide (0 ≤ n)) := rfl
theorem isAb_eq (n d : Int) : isAb (.tuple [.int n, .int d]) = (isFrac (.tuple [.int n, .int d]) && decide (0 < n)) := rfl
def spP (K : PySem.W.Frag) (p : PyData → Bool) : Sp := fun vs H Q _ => ∃ (v : V) (mu : Addr → Prop) (d : PyData), vs = [v] ∧ Dt K mu H v d ∧ Ok d ∧ ∀ H', Same H H' → Q (.bl (p d)) H'
theorem spP_len {K : PySem.W.Frag} {p : PyData → Bool} {x : Str} : ∀ vs H Q E, spP K p vs H Q E → vs.length = [x].length := fun vs H Q E h => by
  obtain ⟨v, mu, d, rfl, _⟩ := h
  rfl
section
variable {P : Program} {w : World} {K : PySem.W.Frag} {mg : Str → Option Value} {base : Heap}
/-- the common divisor of two integers' sizes -/
def spCommon : Sp := fun vs H Q _ => ∃ a b : Int, vs = [.int a, .int b] ∧ Q (.int (gI a b)) H
abbrev s_law_common : Stmt := topS 46
theorem sc__law_common : FnScope ["one", "other"] ["one", "other"] (defScope s_law_common) := ⟨rfl, rfl, rfl, by decide +kernel, rfl, by decide +kernel, by decide +kernel⟩
theorem ok__law_common {f : Addr} {fd : FuncData} (F : Fun K "_law_common" "_law_common" s_law_common f fd) (B : Bt mg) : FnG P w K mg base 1 f fd ["one", "other"] spCommon := by
  refine Fun.okG F sc__law_common (fun vs H Q E h => ?_) (fun cdv A outer s H vs Q E hg hr h => ?_)
  · obtain ⟨a, b, rfl, _⟩ := h
    rfl
  obtain ⟨a, b, rfl, k⟩ := h
  refine ⟨_, (pss_cons (ps_par (i := 0) (j := 1) rfl sc__law_common.nd rfl rfl (by decide) rfl rfl (pa_cons (pe_callB call_abs (by rfl) B.abs bb_abs (pa_cons (pv 0) pa_nil)) (pa_cons (pe_callB call_abs (by rfl) B.abs bb_abs (pa_cons (pv 1) pa_nil)) pa_nil)) (by rfl))
    (pss_cons (ps_while PassesOwn.never (pt_cmpR op_gt (pv 1) pe_int (nomark _))
      (pss_one (ps_par (i := 0) (j := 1) rfl sc__law_common.nd rfl rfl (by decide) rfl rfl (pa_cons (pv 1) (pa_cons (pe_op op_mod (pe_callTy call_int1 (by rfl) B.int bb_int (pa_cons (pv 0) pa_nil)) (pv 1)) pa_nil)) (by rfl))))
    (pss_one (ps_ret (pv 0))))), ?_⟩
  have ab : ∀ i : Int, (if i < 0 then -i else i) = (i.natAbs : Int) := fun i => by split <;> omega
  refine ⟨_, rfl, a, rfl, _, rfl, b, rfl, _, _, rfl, ?_⟩
  rw [ab a, ab b]
  refine while_by (fun σ H1 => ∃ x y : Nat, σ = [some (.int x), some (.int y)] ∧ Nat.gcd x y = Nat.gcd a.natAbs b.natAbs ∧ H1 = H) (fun σ _ => match σ with | [_, some (.int j)] => j.toNat | _ => 0) ⟨a.natAbs, b.natAbs, rfl, rfl, rfl⟩ ?_ ?_
  · rintro σ H1 ⟨x, y, rfl, e, rfl⟩
    refine ⟨_, rfl, _, _, rfl, rfl, _, rfl, iteP (fun h => ?_) fun h => ?_⟩
    · refine ⟨_, rfl, _, rfl, .inl ⟨_, rfl, _, rfl, _, _, rfl, rfl, h, _, _, rfl, ?_⟩⟩
      refine ⟨⟨y, x % y, ?_, (gcd_step x y).trans e, rfl⟩, ?_⟩
      · show [some (V.int (y : Int)), some (V.int ((x : Int) % (y : Int)))] = _
        rw [← Int.natCast_emod]
      · show ((x : Int) % (y : Int)).toNat < ((y : Nat) : Int).toNat
        have := Int.emod_lt_of_pos (x : Int) h
        have := Int.emod_nonneg (x : Int) (show (y : Int) ≠ 0 by omega)
        omega
    · have hy : y = 0 := by omega
      subst hy
      rw [Nat.gcd_zero_right] at e
      rw [e] 
      exact ⟨_, rfl, k⟩
  · rintro σ H1 R R' hh ⟨v, e1, i, j, e2, e3, c, e4, q⟩
    exact ⟨v, e1, i, j, e2, e3, c, e4, hh _ _ q⟩
abbrev s_law_take : Stmt := topS 41
theorem sc__law_take : FnScope ["bag", "many", "cell", "stirred", "value", "begin", "second"] ["bag", "many"] (defScope s_law_take) := ⟨rfl, rfl, rfl, by decide +kernel, rfl, by decide +kernel, by decide +kernel⟩
theorem ok__law_take {f : Addr} {fd : FuncData} (F : Fun K "_law_take" "_law_take" s_law_take f fd) (B : Bt mg) : FnG P w K mg base 1 f fd ["bag", "many"] spTake := by
  refine Fun.okG F sc__law_take (fun vs H Q E h => ?_) (fun cdv A outer s H vs Q E hg hr h => ?_)
  · obtain ⟨b, m, rfl, _⟩ := h
    rfl
  obtain ⟨b, many, rfl, hb, hm0, hm1, k⟩ := h
  refine ⟨_, (C8.pss_cut (ps_if (pt_cmpR op_eq (pe_ix ix_list (pv 0) pe_int (fun _ _ => rfl)) pe_int (nomark _))
      (pss_cons (ps_set (i := 2) sc__law_take.nd rfl (Or.inl rfl) (pe_ix ix_list (pe_op op_cat (pe_slice sl_list (pe_ix ix_list (pv 0) pe_int (fun _ _ => rfl)) (po_some (pe_ix ix_list (pv 0) pe_int (fun _ _ => rfl))) po_none) (pe_lst (pa_cons pe_int pa_nil))) pe_int (fun _ _ => rfl)))
      (pss_cons (ps_augS (pv 0) pe_int get_list pe_int ip_add set_list)
      (C8.pss_cut (ps_if (pt_cmpR op_ge (pv 2) (pe_op op_pow pe_int pe_int) (nomark _))
        (pss_one (ps_asg (pv 2) (pg_sub (pv 0) pe_int set_list)))
        pss_nil)
      (pss_cons (ps_set (i := 3) sc__law_take.nd rfl (Or.inl rfl) (pe_op op_add (pe_op op_add (pe_op op_mul (pe_ix ix_list (pv 0) pe_int (fun _ _ => rfl)) pe_int) (pe_op op_mod (pe_callTy call_int1 (by rfl) B.int bb_int (pa_cons (pv 2) pa_nil)) pe_int)) (pe_op op_mul pe_int (pe_ix ix_list (pv 0) pe_int (fun _ _ => rfl)))))
      (pss_one (ps_asg (pe_op op_mod (pe_callTy call_int1 (by rfl) B.int bb_int (pa_cons (pv 3) pa_nil)) pe_int) (pg_sub (pv 0) pe_int set_list)))))))
      pss_nil)
    (pss_cons (ps_if (pt_cmpR op_gt (pe_ix ix_list (pv 0) pe_int (fun _ _ => rfl)) pe_int (nomark _))
      (pss_cons (ps_set (i := 4) sc__law_take.nd rfl (Or.inl rfl) (pe_op op_mod (pe_callTy call_int1 (by rfl) B.int bb_int (pa_cons (pe_ix ix_list (pv 0) pe_int (fun _ _ => rfl)) pa_nil)) (pv 1)))
      (pss_cons (ps_asg (pe_op op_fdiv (pe_callTy call_int1 (by rfl) B.int bb_int (pa_cons (pe_ix ix_list (pv 0) pe_int (fun _ _ => rfl)) pa_nil)) (pv 1)) (pg_sub (pv 0) pe_int set_list))
      (pss_one (ps_ret (pv 4)))))
      pss_nil)
    (pss_cons (ps_set (i := 5) sc__law_take.nd rfl (Or.inl rfl) (pe_op op_mod (pe_callTy call_int1 (by rfl) B.int bb_int (pa_cons (pe_op op_mul (pe_op op_add (pe_ix ix_list (pv 0) pe_int (fun _ _ => rfl)) pe_int) pe_int) pa_nil)) pe_int))
    (pss_cons (ps_set (i := 6) sc__law_take.nd rfl (Or.inl rfl) (pe_op op_mod (pe_callTy call_int1 (by rfl) B.int bb_int (pa_cons (pe_op op_mul (pe_op op_mod (pe_callTy call_int1 (by rfl) B.int bb_int (pa_cons (pe_op op_mul (pv 5) (pv 5)) pa_nil)) pe_int) pe_int) pa_nil)) pe_int))
    (pss_one (ps_ret (pe_op op_mod (pe_callTy call_int1 (by rfl) B.int bb_int (pa_cons (pe_op op_fdiv (pv 6) pe_int) pa_nil)) (pv 1)))))))), ?_⟩
  obtain ⟨x, y, z, l, cs, h1, h2, hlb, hx, hy0, hy1, hz, hcl, hc⟩ := hb
  refine ⟨fun σ H' => ∃ v2 v3, σ = [some (.ref b), some (.int many), v2, v3, none, none, none] ∧ Rel b H H', ?_, ?_⟩
  · refine ⟨_, rfl, b, _, 0, .int x, rfl, rfl, .of h1, atI_nat (j := 0) rfl, rfl, _, rfl, iteEq (fun e => ?_) fun e => ?_⟩
    · -- cell = (bag[3][bag[2]:] + [0])[0]
      refine ⟨_, rfl, b, _, 3, .ref l, rfl, rfl, .of h1, atI_nat (j := 3) rfl, _, rfl, b, _, 2, .int z, rfl, rfl, .of h1, atI_nat (j := 2) rfl, z, rfl, l, _, rfl, .of h2, fun p1 n1 => ?_⟩
      refine ⟨by show 1 ≤ sizeLine; decide, fun p2 n2 => ?_⟩
      have s1 := same_upd (o := .lst (cutV (cs.map V.int) (some z) none)) n1
      have s2 := same_upd (o := .lst [.int 0]) n2
      have hle : (cutV (cs.map V.int) (some z) none).length ≤ 63 := Nat.le_trans (cut_len _ _ _) (by rw [List.length_map]; exact hcl)
      refine ⟨p1, p2, _, _, rfl, rfl, s2 _ _ upd_same, upd_same, Nat.le_of_lt (small1000 (by show _ + 1 ≤ 1000; omega)), fun p3 n3 => ?_⟩
      have s3 := same_upd (o := .lst (cutV (cs.map V.int) (some z) none ++ [.int 0])) n3
      obtain ⟨c, hc0, hcv⟩ := head_cell hc (some z) none
      refine ⟨p3, _, 0, .int c, rfl, rfl, .of upd_same, atI_nat (j := 0) hcv, ?_⟩
      have s13 := (s1.trans s2).trans s3
      clear s1 s2 s3 n1 n2 n3 hle hcv
      revert s13
      generalize upd (upd (upd H p1 (.lst (cutV (cs.map V.int) (some z) none))) p2 (.lst [.int 0])) p3 (.lst (cutV (cs.map V.int) (some z) none ++ [.int 0])) = H3
      intro s13
      have g1 := s13 _ _ h1
      have g2 := s13 _ _ h2
      -- bag[2] += 1
      refine ⟨_, rfl, b, _, 2, .int z, rfl, rfl, .of g1, rfl, z, 1, rfl, rfl, b, _, 2, 2, rfl, rfl, g1, rfl, ?_⟩
      have r1 : Rel b H (upd H3 b (.lst [.int x, .int y, .int (z + 1), .ref l])) := ⟨fun a o n e => by rw [upd_ne n]; exact s13 a o e, fun k z => by rw [z.eq h1]; exact ⟨_, _, _, upd_same⟩, x, y, z + 1, l, cs, upd_same, by rw [upd_ne hlb]; exact g2, hlb, hx, hy0, hy1, by omega, hcl, hc⟩
      -- if cell >= 10 ** 18: bag[0] = cell
      refine ⟨fun σ H' => ∃ x', σ = [some (.ref b), some (.int many), some (.int c), none, none, none, none] ∧ Rel b H H' ∧ H' b = some (.lst [.int x', .int y, .int (z + 1), .ref l]) ∧ 0 ≤ x', ?_, ?_⟩
      · refine ⟨_, rfl, _, _, rfl, rfl, ⟨by decide, by decide, by decide⟩, _, _, rfl, rfl, _, rfl, iteP (fun h => ?_) fun h => ?_⟩
        · refine ⟨_, rfl, _, rfl, b, _, 0, 0, rfl, rfl, upd_same, rfl, c, rfl, ⟨fun a o n e => by rw [upd_ne n]; exact r1.keep a o n e, fun k z => by rw [z.eq h1]; exact ⟨_, _, _, upd_same⟩, c, y, z + 1, l, cs, upd_same, by rw [upd_ne hlb, upd_ne hlb]; exact g2, hlb, hc0, hy0, hy1, by omega, hcl, hc⟩, upd_same, hc0⟩
        · exact ⟨x, rfl, r1, upd_same, hx⟩
      · rintro σ H' ⟨x', rfl, R, hB, hx'⟩
        have e1 : l ≠ b := hlb
        have g3 : H' l = some (.lst (cs.map V.int)) := R.keep _ _ hlb h2
        refine ⟨_, rfl, b, _, 1, .int y, rfl, rfl, .of hB, atI_nat (j := 1) rfl, _, _, rfl, rfl, .inl ⟨by omega, by omega⟩, _, rfl, .inl ⟨_, rfl, _, _, rfl, rfl, (by show (0 : Int) < _; decide), _, _, rfl, rfl, _, rfl, b, _, 2, .int (z + 1), rfl, rfl, .of hB, atI_nat (j := 2) rfl, _, _, rfl, rfl, .inl ⟨by decide, by decide⟩, _, _, rfl, rfl, ?_⟩⟩
        refine ⟨_, rfl, .inl ⟨_, rfl, _, _, rfl, rfl, (by show (0 : Int) < _; decide), _, rfl, b, _, 1, 1, rfl, rfl, hB, rfl, _, _, rfl, ?_⟩⟩
        exact ⟨fun a o n e => by rw [upd_ne n]; exact R.keep a o n e, fun k z => by rw [z.eq h1]; exact ⟨_, _, _, upd_same⟩, x', _, z + 1, l, cs, upd_same, by rw [upd_ne hlb]; exact g3, hlb, hx', Int.emod_nonneg _ (by decide), Int.emod_lt_of_pos _ (by decide), by omega, hcl, hc⟩
    · exact ⟨_, _, rfl, .refl ⟨x, y, z, l, cs, h1, h2, hlb, hx, hy0, hy1, hz, hcl, hc⟩⟩
  · rintro σ H' ⟨v2, v3, rfl, R⟩
    obtain ⟨x, y, z, l, cs, h1, h2, hlb, hx, hy0, hy1, hz, hcl, hc⟩ := id R.bag
    refine ⟨_, rfl, b, _, 0, .int x, rfl, rfl, .of h1, atI_nat (j := 0) rfl, _, _, rfl, rfl, _, rfl, iteP (fun h => ?_) fun h => ?_⟩
    · refine ⟨_, rfl, b, _, 0, .int x, rfl, rfl, .of h1, atI_nat (j := 0) rfl, .inl ⟨_, rfl, _, rfl, _, _, rfl, rfl, hm0, ?_⟩⟩
      refine ⟨_, rfl, b, _, 0, .int x, rfl, rfl, .of h1, atI_nat (j := 0) rfl, .inl ⟨_, rfl, _, rfl, _, _, rfl, rfl, ⟨hm0, hm1⟩, _, rfl, b, _, 0, 0, rfl, rfl, h1, rfl, ?_⟩⟩
      refine ⟨_, rfl, k _ _ (Int.emod_nonneg _ (by omega)) (Int.emod_lt_of_pos _ hm0) ⟨fun a o n e => by rw [upd_ne n]; exact R.keep a o n e, fun k z => by rw [(R.cell k z).eq h1]; exact ⟨_, _, _, upd_same⟩, _, y, z, l, cs, upd_same, by rw [upd_ne hlb]; exact h2, hlb, Int.ediv_nonneg hx (by omega), hy0, hy1, hz, hcl, hc⟩⟩
    · have f1 := Int.emod_nonneg ((y + 1) * 39373) (show (1000000007 : Int) ≠ 0 by decide)
      have f2 := Int.emod_lt_of_pos ((y + 1) * 39373) (show (0 : Int) < 1000000007 by decide)
      refine ⟨_, rfl, b, _, 1, .int y, rfl, rfl, .of h1, atI_nat (j := 1) rfl, _, _, rfl, rfl, _, _, rfl, rfl, .inl ⟨by omega, by omega⟩, .inl ⟨_, rfl, _, _, rfl, rfl, (by show (0 : Int) < _; decide), ?_⟩⟩
      refine ⟨_, rfl, _, rfl, _, _, rfl, rfl, .inl ⟨by omega, by omega⟩, .inl ⟨_, rfl, _, _, rfl, rfl, (by show (0 : Int) < _; decide), _, _, rfl, rfl, .inr ⟨by decide, by decide⟩, .inl ⟨_, rfl, _, _, rfl, rfl, (by show (0 : Int) < _; decide), ?_⟩⟩⟩
      refine ⟨_, rfl, _, _, rfl, rfl, ⟨by decide, by decide⟩, .inl ⟨_, rfl, _, rfl, _, _, rfl, rfl, hm0, k _ _ (Int.emod_nonneg _ (by omega)) (Int.emod_lt_of_pos _ hm0) R⟩⟩
abbrev s_law_some : Stmt := topS 42
theorem sc__law_some : FnScope ["bag", "things"] ["bag", "things"] (defScope s_law_some) := ⟨rfl, rfl, rfl, by decide +kernel, rfl, by decide +kernel, by decide +kernel⟩
theorem ok__law_some {f : Addr} {fd : FuncData} (F : Fun K "_law_some" "_law_some" s_law_some f fd) (B : Bt mg) (c__law_take : CalG P w K mg base 1 "_law_take" spTake) : FnG P w K mg base 2 f fd ["bag", "things"] spSome := by
  refine Fun.okG F sc__law_some (fun vs H Q E h => ?_) (fun cdv A outer s H vs Q E hg hr h => ?_)
  · obtain ⟨b, t, xs, rfl, _⟩ := h
    rfl
  obtain ⟨b, t, xs, rfl, hb, ht, h1, h2, h3, k⟩ := h
  refine ⟨_, (pss_one (ps_ret (pe_ix ix_list (pv 1) (pc c__law_take hg hr (by decide) (by rfl) (pa_cons (pv 0) (pa_cons (pe_callB call_lenA (by rfl) B.len boot_len (pa_cons (pv 1) pa_nil)) pa_nil))) (fun _ _ => rfl)))), ?_⟩
  refine ⟨_, rfl, _, rfl, _, rfl, _, xs.length, rfl, .inl ⟨xs, .of h1, rfl⟩, b, _, rfl, hb, by omega, by omega, fun v H' v0 v1 R => ?_⟩
  obtain ⟨i, rfl⟩ : ∃ i : Nat, v = (i : Int) := ⟨v.toNat, by omega⟩
  have hi : i < xs.length := by omega
  exact ⟨t, xs, i, xs[i], rfl, rfl, .of (R.keep _ _ ht h1), atI_nat (List.getElem?_eq_getElem hi), k i _ H' (List.getElem?_eq_getElem hi) R⟩
/-- the FRACTION n / d -/
def spRed : Sp := fun vs H Q _ => ∃ n d : Int, vs = [.int n, .int d] ∧ d ≠ 0 ∧ d.natAbs < 2 ^ 8000 ∧ ∀ p, H p = none → Q (.ref p) (upd H p (.tup [.int (redI n d).1, .int (redI n d).2]))
abbrev s_law_reduced : Stmt := topS 47
theorem sc__law_reduced : FnScope ["n", "d", "shared"] ["n", "d"] (defScope s_law_reduced) := ⟨rfl, rfl, rfl, by decide +kernel, rfl, by decide +kernel, by decide +kernel⟩
theorem ok__law_reduced {f : Addr} {fd : FuncData} (F : Fun K "_law_reduced" "_law_reduced" s_law_reduced f fd) (B : Bt mg) (c__law_common : CalG P w K mg base 1 "_law_common" spCommon) : FnG P w K mg base 2 f fd ["n", "d"] spRed := by
  refine Fun.okG F sc__law_reduced (fun vs H Q E h => ?_) (fun cdv A outer s H vs Q E hg hr h => ?_)
  · obtain ⟨n, d, rfl, _⟩ := h
    rfl
  obtain ⟨n, d, rfl, h0, h1, k⟩ := h
  refine ⟨_, (pss_cons (ps_set (i := 2) sc__law_reduced.nd rfl (Or.inl rfl) (pe_callB (call_max2 rfl) (by rfl) B.max bb_max (pa_cons pe_int (pa_cons (pc c__law_common hg hr (by decide) (by rfl) (pa_cons (pv 0) (pa_cons (pv 1) pa_nil))) pa_nil))))
    (pss_cons (ps_if (pt_cmpR op_lt (pv 1) pe_int (nomark _))
      (pss_one (ps_ret (pe_tup (pa_cons (pe_op op_fdivW (pe_un un_neg (pv 0)) (pv 2)) (pa_cons (pe_op op_fdivW (pe_un un_neg (pv 1)) (pv 2)) pa_nil)))))
      pss_nil)
    (pss_one (ps_ret (pe_tup (pa_cons (pe_op op_fdivW (pv 0) (pv 2)) (pa_cons (pe_op op_fdivW (pv 1) (pv 2)) pa_nil))))))), ?_⟩
  have hw : CDivW 0 (sh n d) := wide_div (sh_pos n d) (Nat.lt_of_le_of_lt (sh_le h0) h1) (by decide) (by decide)
  have e1 : (if gI n d > 1 then gI n d else 1) = sh n d := rfl
  refine ⟨_, rfl, _, rfl, n, d, rfl, _, _, rfl, ?_⟩
  rw [e1]
  refine ⟨_, rfl, _, _, rfl, rfl, _, rfl, iteP (fun h => ?_) fun h => ?_⟩
  · have e2 : redI n d = ((-n) / sh n d, (-d) / sh n d) := if_pos h
    rw [e2] at k
    refine ⟨_, rfl, _, rfl, _, rfl, _, _, rfl, rfl, hw, _, rfl, _, rfl, _, rfl, _, _, rfl, rfl, hw, by show 2 ≤ sizeLine; decide, fun p np => k p np⟩
  · have e2 : redI n d = (n / sh n d, d / sh n d) := if_neg h
    rw [e2] at k
    refine ⟨_, rfl, _, rfl, _, _, rfl, rfl, hw, _, rfl, _, rfl, _, _, rfl, rfl, hw, by show 2 ≤ sizeLine; decide, fun p np => k p np⟩
theorem red_div {n j q : Int} (hj : 0 < j) (h : q % j = 0) : q % (redI n j).2 = 0 := by
  obtain ⟨f, e⟩ := redI_fr (x := n) (y := j) (by omega)
  have h1 : (redI n j).2 ∣ j := by
    have e2 : redI n j = (n / sh n j, j / sh n j) := if_neg (by omega)
    rw [e2]
    have hs : sh n j ∣ j := by
      rw [sh_eq (by omega)]
      unfold gI
      exact Int.dvd_natAbs.mp (Int.natCast_dvd_natCast.mpr (Nat.gcd_dvd_right n.natAbs j.natAbs))
    obtain ⟨c, hc⟩ := hs
    have hp := sh_pos n j
    refine ⟨sh n j, ?_⟩
    show j = j / sh n j * sh n j
    rw [Int.ediv_mul_cancel ⟨c, hc⟩]
  exact Int.emod_eq_zero_of_dvd (Int.dvd_trans h1 (Int.dvd_of_emod_eq_zero h))
abbrev s_law_number : Stmt := topS 55
theorem sc__law_number : FnScope ["bag", "most", "way"] ["bag", "most"] (defScope s_law_number) := ⟨rfl, rfl, rfl, by decide +kernel, rfl, by decide +kernel, by decide +kernel⟩
theorem ok__law_number {f : Addr} {fd : FuncData} (F : Fun K "_law_number" "_law_number" s_law_number f fd) (B : Bt mg) (c__law_take : CalG P w K mg base 1 "_law_take" spTake) (c__law_some : CalG P w K mg base 2 "_law_some" spSome) (c__law_reduced : CalG P w K mg base 2 "_law_reduced" spRed) :
    FnG P w K mg base 3 f fd ["bag", "most"] (spNumE K) := by
  refine Fun.okG F sc__law_number (fun vs H Q E h => ?_) (fun cdv A outer s H vs Q E hg hr h => ?_)
  · obtain ⟨most, _, _, b, mu, rfl, _⟩ := h
    rfl
  obtain ⟨most, hm0, hm1, b, mu, rfl, hmu, hb, hM, k⟩ := h
  refine ⟨_, (pss_cons (ps_set (i := 2) sc__law_number.nd rfl (Or.inl rfl) (pc c__law_take hg hr (by decide) (by rfl) (pa_cons (pv 0) (pa_cons pe_int pa_nil))))
    (pss_cons (ps_if (pt_cmpR op_eq (pv 2) pe_int (nomark _))
      (pss_one (ps_ret (pc c__law_reduced hg hr (by decide) (by rfl) (pa_cons (pe_op op_add pe_int (pc c__law_take hg hr (by decide) (by rfl) (pa_cons (pv 0) (pa_cons (pe_op op_mul pe_int (pv 1)) pa_nil)))) (pa_cons (pc c__law_some hg hr (by decide) (by rfl) (pa_cons (pv 0) (pa_cons (pe_lst (pa_cons pe_int (pa_cons pe_int (pa_cons pe_int pa_nil)))) pa_nil))) pa_nil)))))
      pss_nil)
    (pss_cons (ps_if (pt_cmpR op_eq (pv 2) pe_int (nomark _))
      (pss_one (ps_ret (pc c__law_some hg hr (by decide) (by rfl) (pa_cons (pv 0) (pa_cons (pe_lst (pa_cons (pe_tup (pa_cons pe_int (pa_cons pe_int pa_nil))) (pa_cons (pe_tup (pa_cons pe_int (pa_cons pe_int pa_nil))) (pa_cons (pe_tup (pa_cons pe_int (pa_cons pe_int pa_nil))) (pa_cons (pe_tup (pa_cons pe_int (pa_cons pe_int pa_nil))) (pa_cons (pe_tup (pa_cons pe_int (pa_cons pe_int pa_nil))) pa_nil)))))) pa_nil)))))
      pss_nil)
    (pss_one (ps_ret (pe_tup (pa_cons (pe_op op_add pe_int (pc c__law_take hg hr (by decide) (by rfl) (pa_cons (pv 0) (pa_cons (pv 1) pa_nil)))) (pa_cons pe_int pa_nil)))))))), ?_⟩
  -- way = _law_take(bag, 12)
  refine ⟨_, rfl, b, _, rfl, hb, by decide, by decide, fun way H1 w0 w1 R1 => ?_⟩
  have M1 := hM.rel R1
  refine ⟨_, rfl, rfl, _, rfl, iteEq (fun e => ?_) fun e => ?_⟩
  · -- _law_reduced(1 + _law_take(bag, 3 * most), _law_some(bag, [2, 3, 7]))
    refine ⟨_, rfl, _, rfl, _, _, rfl, rfl, .inl ⟨by decide, by decide⟩, b, _, rfl, R1.bag, by omega, by omega, fun t H2 t0 t1 R2 => ⟨_, _, rfl, rfl, ?_⟩⟩
    have M2 := M1.rel R2
    refine gv_some (K := K) (mu := mu) (D := fun d => ∃ j : Int, d = .int j ∧ 2 ≤ j ∧ j ≤ 7 ∧ (1407000 : Int) % j = 0) (n := 3) hmu rfl (gvA_cons hmu (ge_int.gv ⟨2, rfl, by decide, by decide, by decide⟩) (gvA_cons hmu (ge_int.gv ⟨3, rfl, by decide, by decide, by decide⟩) (gvA_cons hmu (ge_int.gv ⟨7, rfl, by decide, by decide, by decide⟩) gvA_nil))) (by decide) (by decide) H2 (.refl R2.bag) M2 _ fun v H3 d hd R3 hv _ => ?_
    obtain ⟨j, rfl, j0, j1, jd⟩ := hd
    cases hv
    have hp : (7 : Nat) < 2 ^ 8000 := by decide +kernel
    refine ⟨_, _, rfl, by omega, Nat.lt_of_le_of_lt (show j.natAbs ≤ 7 by omega) hp, fun p np => ?_⟩
    have R := (R1.trans R2).trans R3
    obtain ⟨q1, q2, q3, q4, q5⟩ := redI_pos (show 0 < 1 + t by omega) (show 0 < j by omega)
    exact k (.ref p) _ _ ⟨_, _, rfl, q1, by omega, q3, red_div (show 0 < j by omega) jd, q5⟩ (R.same (same_upd np)) (.tup (.inl upd_same) (.cons (.int _) (.cons (.int _) .nil))) (own_not fun _ z => nomatch z)
  · refine ⟨_, rfl, rfl, _, rfl, iteEq (fun e1 => ?_) fun e1 => ?_⟩
    · have g : ∀ {σ : L2.St} {H0 : Hp} {n m : Int}, NumQ n m → Gv K b mu σ H0 (tTup (tCons (tC (.int n)) (tCons (tC (.int m)) tNil))) NumE := fun {σ H0 n m} h => (ge_tup hmu (geA_cons hmu ge_int (geA_cons hmu ge_int geA_nil)) (show 2 ≤ 1000 by decide)).gv (numE h)
      refine gv_some (K := K) (mu := mu) (D := NumE) (n := 5) hmu rfl (gvA_cons hmu (g ⟨by decide, by decide, by decide, by decide, by decide⟩) (gvA_cons hmu (g ⟨by decide, by decide, by decide, by decide, by decide⟩) (gvA_cons hmu (g ⟨by decide, by decide, by decide, by decide, by decide⟩) (gvA_cons hmu (g ⟨by decide, by decide, by decide, by decide, by decide⟩) (gvA_cons hmu (g ⟨by decide, by decide, by decide, by decide, by decide⟩) gvA_nil))))) (by decide) (by decide) H1 (.refl R1.bag) M1 _ fun v H3 d hd R3 hv _ => ?_
      exact k v H3 d hd (R1.trans R3) hv hd.not
    · refine ⟨_, rfl, _, rfl, b, _, rfl, R1.bag, by omega, by omega, fun t H2 t0 t1 R2 => ⟨_, _, rfl, rfl, by show 2 ≤ sizeLine; decide, fun p np => ?_⟩⟩
      refine k (.ref p) _ _ ⟨_, _, rfl, by omega, by omega, by decide, by decide, ?_⟩ ((R1.trans R2).same (same_upd np)) (.tup (.inl upd_same) (.cons (.int _) (.cons (.int _) .nil))) (own_not fun _ z => nomatch z)
      unfold gI
      simp
/-- a thing that is the same as itself by == -/
def Selfs (K : PySem.W.Frag) (H : Hp) (x y : V) : Prop := ∃ n, n ≤ 60 ∧ EqR K H (EqV K H n) x y
def spAlike (K : PySem.W.Frag) : Sp := fun vs H Q _ => ∃ (x y : V) (mu : Addr → Prop) (d : PyData), vs = [x, y] ∧ Dt K mu H x d ∧ Dt K mu H y d ∧ Ok d ∧ (d.hasDict = false ∨ (mu sysModules ∧ Selfs K H x y)) ∧ Q (.bl true) H
abbrev s_law_alike : Stmt := topS 44
theorem sc__law_alike : FnScope ["found", "due"] ["found", "due"] (defScope s_law_alike) := ⟨rfl, rfl, rfl, by decide +kernel, rfl, by decide +kernel, by decide +kernel⟩
theorem ok__law_alike {f : Addr} {fd : FuncData} (F : Fun K "_law_alike" "_law_alike" s_law_alike f fd) (B : Bt mg) : FnG P w K mg base 1 f fd ["found", "due"] (spAlike K) := by
  refine Fun.okG F sc__law_alike (fun vs H Q E h => ?_) (fun cdv A outer s H vs Q E hg hr h => ?_)
  · obtain ⟨x, y, mu, d, rfl, _⟩ := h
    rfl
  obtain ⟨x, y, mu, d, rfl, hx, hy, ho, hn, k⟩ := h
  have hu := Room.u64 hr
  refine ⟨_, (pss_one (ps_ret (pe_and (pe_cmpR (op_eqA hu) (pv 0) (pv 1) (nomark _)) (pe_one (pe_cmpR op_eq (pe_callB (call_repr hg hu) (by rfl) B.repr bb_repr (pa_cons (pv 0) pa_nil)) (pe_callB (call_repr hg hu) (by rfl) B.repr bb_repr (pa_cons (pv 1) pa_nil)) (nomark _)))))), ?_⟩
  have key : ∀ Q' : VK, Q' (.bl true) H → rEqA K x y H Q' := fun Q' q => by
    rcases hn with n | ⟨_, n, h1, h2⟩
    · refine .inl ⟨mu, d, d, hx, hy, ho.shaped n, ho.shaped n, ?_⟩
      rw [eqv_same (ok_lay d ho.ok n)]
      exact q
    · exact .inr (.inl ⟨n, h1, h2, q⟩)
  have hm : d.hasDict = false ∨ mu sysModules := hn.imp id And.left
  refine ⟨_, rfl, _, rfl, key _ ?_⟩
  refine ⟨_, rfl, iteT ⟨_, rfl, ?_⟩⟩
  refine ⟨x, mu, d, rfl, hx, ho.show, hm, by have := ho.dp; omega, ho.fits, ?_⟩
  refine ⟨_, rfl, ?_⟩
  refine ⟨y, mu, d, rfl, hy, ho.show, hm, by have := ho.dp; omega, ho.fits, ?_⟩
  have e : decide (V.str d.shown = V.str d.shown) = true := decide_eq_true rfl
  first
    | (show Q (.bl (decide (V.str d.shown = V.str d.shown))) H; rw [e]; exact k)
    | (refine ⟨rfl, ?_⟩; rw [e]; exact k)
    | (refine ⟨rfl, rfl, ?_⟩; rw [e]; exact k)
def spBag (K : PySem.W.Frag) : Sp := fun vs H Q _ => ∃ (a : Addr) (ns : List Int), vs = [.ref a] ∧ SqL K H a (ns.map V.int) ∧ ns.length ≤ 63 ∧ ∀ b H', Same H H' → H b = none → BagAt H' b → Q (.ref b) H'
abbrev s_law_bag : Stmt := topS 40
theorem sc__law_bag : FnScope ["script", "cell"] ["script"] (defScope s_law_bag) := ⟨rfl, rfl, rfl, by decide +kernel, rfl, by decide +kernel, by decide +kernel⟩
theorem ok__law_bag {f : Addr} {fd : FuncData} (F : Fun K "_law_bag" "_law_bag" s_law_bag f fd) (B : Bt mg) : FnG P w K mg base 1 f fd ["script"] (spBag K) := by
  refine Fun.okG F sc__law_bag (fun vs H Q E h => ?_) (fun cdv A outer s H vs Q E hg hr h => ?_)
  · obtain ⟨a, ns, rfl, _⟩ := h
    rfl
  obtain ⟨a, ns, rfl, hS, hl, k⟩ := h
  refine ⟨_, (pss_one (ps_ret (pe_lst (pa_cons pe_int (pa_cons pe_int (pa_cons pe_int (pa_cons (pe_lc (own := [("cell", 1)]) rfl sc__law_bag.nd (pi_list (pe_slice sl_list (pv 0) po_none (po_some pe_int))) (blkOk_by (own := [("cell", 1)]) (N := ["script", "cell"]) (sc := (defScope s_law_bag)) (by decide +kernel)) (fun _ _ _ _ _ => (pg_name (i := 1) sc__law_bag.nd rfl (Or.inl rfl))) (fun _ _ _ _ _ => pts_nil) (fun _ _ _ _ _ => (pe_callB call_abs (by rfl) B.abs bb_abs (pa_cons (pv 1) pa_nil)))) pa_nil))))))), ?_⟩
  refine ⟨_, rfl, 63, rfl, a, _, rfl, hS, fun p np => ?_⟩
  have sp := same_upd (o := .lst (cutV (ns.map V.int) none (some 63))) np
  obtain ⟨ms, em, hms⟩ : ∃ ms : List Int, cutV (ns.map V.int) none (some 63) = ms.map V.int ∧ ms.length ≤ 63 := by
    refine ⟨(ns.drop (HT.sIx ns.length 0 none)).take (HT.sIx ns.length ns.length (some 63) - HT.sIx ns.length 0 none), ?_, ?_⟩
    · unfold cutV
      rw [List.map_take, List.map_drop, List.length_map]
    · rw [List.length_take, List.length_drop]
      omega
  rw [em] at sp ⊢
  refine ⟨p, rfl, ⟨_, .inl (.inl upd_same)⟩, fun D nD => ?_⟩
  have sD := same_upd (o := .lst []) nD
  have nDp : p ≠ D := fun z => by
    rw [← z, upd_same] at nD
    cases nD
  refine lc_it (walk_list (xs := ms.map V.int) (a := p)) (fun i H' => Same H H' ∧ H' p = some (.lst (ms.map V.int)) ∧ H' D = some (.lst (((ms.take i).map fun c => if c < 0 then -c else c).map V.int))) ⟨sp.trans sD, sD _ _ upd_same, by rw [upd_same]; rfl⟩ (fun i H' _ h => .inl (.inl h.2.1)) (fun i x H2 H3 hi h y => ?_) fun H2 h => ?_
  · obtain ⟨h1, h2, h3⟩ := h
    obtain ⟨rfl, hx⟩ := y
    rw [List.getElem?_map] at hx
    have hi' : i < ms.length := by simpa using hi
    rw [List.getElem?_eq_getElem hi'] at hx
    cases hx
    refine ⟨rfl, _, rfl, _, rfl, _, h3, Nat.lt_of_le_of_lt (by rw [List.length_map, List.length_map, List.length_take]; exact Nat.min_le_left _ _) (small1000 (show i ≤ 1000 by omega)), fun q o e => ?_, ?_, ?_⟩
    · have nq : q ≠ D := fun z => by
        have e2 := sp _ _ e
        rw [z, nD] at e2
        cases e2
      rw [upd_ne nq]
      exact h1 q o e
    · rw [upd_ne nDp]
      exact h2
    · rw [upd_same, List.take_add_one, List.getElem?_eq_getElem hi', List.map_append, List.map_append]
      rfl
  · obtain ⟨h1, h2, h3⟩ := h
    rw [show List.take (ms.map V.int).length ms = ms from List.take_of_length_le (by rw [List.length_map]; exact Nat.le_refl _)] at h3
    refine ⟨by show 4 ≤ sizeLine; decide, fun b nb => ?_⟩
    have s3 := same_upd (o := .lst [.int 0, .int 1234567891, .int 0, .ref D]) nb
    have nbD : D ≠ b := fun z => by
      rw [z, nb] at h3
      cases h3
    have hb0 : H b = none := by
      cases e : H b with
      | none => rfl
      | some o =>
        rw [h1 _ _ e] at nb
        cases nb
    refine k b _ (h1.trans s3) hb0 ⟨0, 1234567891, 0, D, ms.map fun c => if c < 0 then -c else c, upd_same, s3 _ _ h3, nbD, by decide, by decide, by decide, by decide, by rw [List.length_map]; exact hms, fun c hc => ?_⟩
    obtain ⟨z, _, rfl⟩ := List.mem_map.mp hc
    split <;> omega
end
end K33
namespace K33
open PySem PySem.Spec PyProof.Rows L2 Sw
/-- not too great -/
def Bg (n : Int) : Prop := n.natAbs < 2 ^ 3000
theorem Bg.w {n : Int} (h : Bg n) : n.natAbs < 2 ^ 8000 := Nat.lt_of_lt_of_le h (Nat.pow_le_pow_right (by decide) (by decide))
theorem Bg.div {n c : Int} (h : Bg n) : Bg (n / c) := Nat.lt_of_le_of_lt div_le h
theorem Bg.gcd {n c : Int} (h : Bg c) (h0 : c ≠ 0) : Bg (gI n c) := Nat.lt_of_le_of_lt (gI_le h0) h
theorem Bg.neg {n : Int} (h : Bg n) : Bg (-n) := by
  unfold Bg
  rw [Int.natAbs_neg]
  exact h
section
variable {P : Program} {w : World} {K : PySem.W.Frag} {mg : Str → Option Value} {base : Heap}
/-- two FRACTIONS -/
def spTwo (K : PySem.W.Frag) (r : Int → Int → Int → Int → Int × Int) : Sp := fun vs H Q _ => ∃ (x y : V) (n d m e : Int), vs = [x, y] ∧ Cpl K H x n d ∧ Cpl K H y m e ∧ Fr n d ∧ Fr m e ∧ Bg n ∧ Bg d ∧ Bg m ∧ Bg e ∧ Res Q H (r n d m e)
def addF (n d m e : Int) : Int × Int := redI (n * e + m * d) (d * e)
def subF (n d m e : Int) : Int × Int := redI (n * e - m * d) (d * e)
def mulF (n d m e : Int) : Int × Int := redI (n * m) (d * e)
abbrev sadded : Stmt := topS 5
theorem sc_added : FnScope ["one", "other", "n", "d", "m", "e", "common", "part", "left"] ["one", "other"] (defScope sadded) := ⟨rfl, rfl, rfl, by decide +kernel, rfl, by decide +kernel, by decide +kernel⟩
theorem ok_added {f : Addr} {fd : FuncData} (F : Fun K "added" "added" sadded f fd) (B : Bt mg) (T : Tx mg) : FnG P w K mg base 1 f fd ["one", "other"] (spTwo K addF) := by
  refine Fun.okG F sc_added (fun vs H Q E h => ?_) (fun cdv A outer s H vs Q E hg hr h => ?_)
  · obtain ⟨x, y, _, _, _, _, rfl, _⟩ := h
    rfl
  obtain ⟨x, y, n, d, m, e, rfl, ⟨a, rfl, ha⟩, ⟨b, rfl, hb⟩, f1, f2, bn, bd, bm, be, k⟩ := h
  refine ⟨_, (pss_cons (ps_asg (pe_tup (pa_cons (pv 0) (pa_cons (pv 1) pa_nil))) (pg_tup (n := 2) rfl (pgs_cons (pg_tup (n := 2) rfl (pgs_cons (pg_name (i := 2) sc_added.nd rfl (Or.inl rfl)) (pgs_cons (pg_name (i := 3) sc_added.nd rfl (Or.inl rfl)) pgs_nil))) (pgs_cons (pg_tup (n := 2) rfl (pgs_cons (pg_name (i := 4) sc_added.nd rfl (Or.inl rfl)) (pgs_cons (pg_name (i := 5) sc_added.nd rfl (Or.inl rfl)) pgs_nil))) pgs_nil))))
    (pss_cons (ps_set (i := 6) sc_added.nd rfl (Or.inl rfl) (pe_callBfun cr_gcd (by rfl) T.gcd (pa_cons (pv 3) (pa_cons (pv 5) pa_nil))))
    (pss_cons (ps_set (i := 7) sc_added.nd rfl (Or.inl rfl) (pe_op op_add (pe_op op_mulW (pv 2) (pe_op op_fdivW (pv 5) (pv 6))) (pe_op op_mulW (pv 4) (pe_op op_fdivW (pv 3) (pv 6)))))
    (pss_cons (ps_set (i := 8) sc_added.nd rfl (Or.inl rfl) (pe_callBfun cr_gcd (by rfl) T.gcd (pa_cons (pv 7) (pa_cons (pv 6) pa_nil))))
    (pss_one (ps_ret (pe_tup (pa_cons (pe_op op_fdivW (pv 7) (pv 8)) (pa_cons (pe_op op_mulW (pe_op op_fdivW (pv 3) (pv 6)) (pe_op op_fdivW (pv 5) (pv 8))) pa_nil))))))))), ?_⟩
  refine ⟨_, rfl, _, rfl, by show 2 ≤ sizeLine; decide, fun p np => ?_⟩
  have s1 := same_upd (o := .tup [.ref a, .ref b]) np
  refine ⟨p, _, rfl, .inl (.inl upd_same), rfl, _, _, rfl, a, _, rfl, s1.seqT ha, rfl, _, _, rfl, _, _, rfl, rfl, _, _, rfl, b, _, rfl, s1.seqT hb, rfl, _, _, rfl, _, _, rfl, rfl, rfl, ?_⟩
  have he : e ≠ 0 := by have := f2.pos; omega
  have gp := gI_pos (a := d) he
  have bg := be.gcd (n := d) he
  have k' := k.now s1 (add_red f1 f2)
  refine ⟨_, rfl, _, rfl, d, e, rfl, ?_⟩
  have hl := gI_pos (a := n * (e / gI d e) + m * (d / gI d e)) (b := gI d e) (by omega)
  have bl := bg.gcd (n := n * (e / gI d e) + m * (d / gI d e)) (by omega)
  refine ⟨_, rfl, _, rfl, _, rfl, _, _, rfl, rfl, divW gp bg.w, _, _, rfl, rfl, mulW bn.w be.div.w, _, rfl, _, rfl, _, rfl, _, _, rfl, rfl, divW gp bg.w, _, _, rfl, rfl, mulW bm.w bd.div.w, _, _, rfl, rfl, ?_⟩
  refine ⟨_, rfl, _, rfl, _, _, rfl, ?_⟩
  refine ⟨_, rfl, _, rfl, _, _, rfl, rfl, divW hl bl.w, _, rfl, _, rfl, _, _, rfl, rfl, divW gp bg.w, _, rfl, _, rfl, _, _, rfl, rfl, divW hl bl.w, _, _, rfl, rfl, mulW bd.div.w be.div.w, by show 2 ≤ sizeLine; decide, k'⟩
theorem Bg.mul {n m : Int} (h : Bg n) (k : Bg m) : (n * m).natAbs < 2 ^ 6000 := natAbs_lt_mul h k
theorem w6 {n : Int} (h : n.natAbs < 2 ^ 6000) : n.natAbs < 2 ^ 8000 := Nat.lt_of_lt_of_le h (Nat.pow_le_pow_right (by decide) (by decide))
def divF (n d m e : Int) : Int × Int := redI (n * e) (d * m)
def cmpF (n d m e : Int) : Int := if n * e < m * d then -1 else if n * e > m * d then 1 else 0
theorem subF_add (n d m e : Int) : addF n d (-m) e = subF n d m e := by
  unfold addF subF
  rw [Int.neg_mul, ← Int.sub_eq_add_neg]
theorem spTwo_len {K : PySem.W.Frag} {r : Int → Int → Int → Int → Int × Int} {a b : Str} : ∀ vs H Q E, spTwo K r vs H Q E → vs.length = [a, b].length := fun vs H Q E h => by
  obtain ⟨x, y, _, _, _, _, rfl, _⟩ := h
  rfl
abbrev slessened : Stmt := topS 6
theorem sc_lessened : FnScope ["one", "other"] ["one", "other"] (defScope slessened) := ⟨rfl, rfl, rfl, by decide +kernel, rfl, by decide +kernel, by decide +kernel⟩
theorem ok_lessened {f : Addr} {fd : FuncData} (F : Fun K "lessened" "lessened" slessened f fd) (B : Bt mg) (c_added : CalG P w K mg base 1 "added" (spTwo K addF)) : FnG P w K mg base 2 f fd ["one", "other"] (spTwo K subF) := by
  refine Fun.okG F sc_lessened spTwo_len (fun cdv A outer s H vs Q E hg hr h => ?_)
  obtain ⟨x, y, n, d, m, e, rfl, hx, ⟨b, rfl, hb⟩, f1, f2, bn, bd, bm, be, k⟩ := h
  refine ⟨_, (pss_one (ps_ret (pc c_added hg hr (by decide) (by rfl) (pa_cons (pv 0) (pa_cons (pe_tup (pa_cons (pe_un un_neg (pe_ix ix_tup (pv 1) pe_int (fun _ _ => rfl))) (pa_cons (pe_ix ix_tup (pv 1) pe_int (fun _ _ => rfl)) pa_nil))) pa_nil))))), ?_⟩
  refine ⟨_, rfl, _, rfl, b, _, 0, _, rfl, rfl, hb, atI_nat (j := 0) rfl, _, rfl, _, rfl, b, _, 1, _, rfl, rfl, hb, atI_nat (j := 1) rfl, by show 2 ≤ sizeLine; decide, fun p np => ?_⟩
  have s1 := same_upd (o := .tup [.int (-m), .int e]) np
  refine ⟨x, .ref p, n, d, -m, e, rfl, hx.same s1, .mk upd_same, f1, f2.neg, bn, bd, bm.neg, be, ?_⟩
  rw [subF_add]
  exact fun q H' s hq he => k q H' (s1.trans s) (by
    cases z : H q with
    | none => rfl
    | some o =>
      rw [s1 _ _ z] at hq
      cases hq) he
abbrev stimes : Stmt := topS 7
theorem sc_times : FnScope ["one", "other", "n", "d", "m", "e", "left", "right"] ["one", "other"] (defScope stimes) := ⟨rfl, rfl, rfl, by decide +kernel, rfl, by decide +kernel, by decide +kernel⟩
theorem ok_times {f : Addr} {fd : FuncData} (F : Fun K "times" "times" stimes f fd) (B : Bt mg) (T : Tx mg) : FnG P w K mg base 1 f fd ["one", "other"] (spTwo K mulF) := by
  refine Fun.okG F sc_times spTwo_len (fun cdv A outer s H vs Q E hg hr h => ?_)
  obtain ⟨x, y, n, d, m, e, rfl, ⟨a, rfl, ha⟩, ⟨b, rfl, hb⟩, f1, f2, bn, bd, bm, be, k⟩ := h
  refine ⟨_, (pss_cons (ps_asg (pe_tup (pa_cons (pv 0) (pa_cons (pv 1) pa_nil))) (pg_tup (n := 2) rfl (pgs_cons (pg_tup (n := 2) rfl (pgs_cons (pg_name (i := 2) sc_times.nd rfl (Or.inl rfl)) (pgs_cons (pg_name (i := 3) sc_times.nd rfl (Or.inl rfl)) pgs_nil))) (pgs_cons (pg_tup (n := 2) rfl (pgs_cons (pg_name (i := 4) sc_times.nd rfl (Or.inl rfl)) (pgs_cons (pg_name (i := 5) sc_times.nd rfl (Or.inl rfl)) pgs_nil))) pgs_nil))))
    (pss_cons (ps_par (i := 6) (j := 7) rfl sc_times.nd rfl rfl (by decide) rfl rfl (pa_cons (pe_callBfun cr_gcd (by rfl) T.gcd (pa_cons (pv 2) (pa_cons (pv 5) pa_nil))) (pa_cons (pe_callBfun cr_gcd (by rfl) T.gcd (pa_cons (pv 4) (pa_cons (pv 3) pa_nil))) pa_nil)) (by rfl))
    (pss_one (ps_ret (pe_tup (pa_cons (pe_op op_mulW (pe_op op_fdivW (pv 2) (pv 6)) (pe_op op_fdivW (pv 4) (pv 7))) (pa_cons (pe_op op_mulW (pe_op op_fdivW (pv 3) (pv 7)) (pe_op op_fdivW (pv 5) (pv 6))) pa_nil))))))), ?_⟩
  refine ⟨_, rfl, _, rfl, by show 2 ≤ sizeLine; decide, fun p np => ?_⟩
  have s1 := same_upd (o := .tup [.ref a, .ref b]) np
  refine ⟨p, _, rfl, .inl (.inl upd_same), rfl, _, _, rfl, a, _, rfl, s1.seqT ha, rfl, _, _, rfl, _, _, rfl, rfl, _, _, rfl, b, _, rfl, s1.seqT hb, rfl, _, _, rfl, _, _, rfl, rfl, rfl, ?_⟩
  have he : e ≠ 0 := by have := f2.pos; omega
  have hd : d ≠ 0 := by have := f1.pos; omega
  have g1 := gI_pos (a := n) he
  have g2 := gI_pos (a := m) hd
  have b1 := be.gcd (n := n) he
  have b2 := bd.gcd (n := m) hd
  have k' := k.now s1 (mul_red f1 f2)
  refine ⟨_, rfl, _, rfl, n, e, rfl, _, rfl, _, rfl, m, d, rfl, _, _, rfl, ?_⟩
  refine ⟨_, rfl, _, rfl, _, _, rfl, rfl, divW g1 b1.w, _, rfl, _, rfl, _, _, rfl, rfl, divW g2 b2.w, _, _, rfl, rfl, mulW bn.div.w bm.div.w, ?_⟩
  exact ⟨_, rfl, _, rfl, _, _, rfl, rfl, divW g2 b2.w, _, rfl, _, rfl, _, _, rfl, rfl, divW g1 b1.w, _, _, rfl, rfl, mulW bd.div.w be.div.w, by show 2 ≤ sizeLine; decide, k'⟩
/-- .. the second not 0 -/
def spDiv (K : PySem.W.Frag) : Sp := fun vs H Q _ => ∃ (x y : V) (n d m e : Int), vs = [x, y] ∧ Cpl K H x n d ∧ Cpl K H y m e ∧ Fr n d ∧ Fr m e ∧ Bg n ∧ Bg d ∧ Bg m ∧ Bg e ∧ m ≠ 0 ∧ Res Q H (divF n d m e)
theorem spDiv_len {K : PySem.W.Frag} {a b : Str} : ∀ vs H Q E, spDiv K vs H Q E → vs.length = [a, b].length := fun vs H Q E h => by
  obtain ⟨x, y, _, _, _, _, rfl, _⟩ := h
  rfl
abbrev sover : Stmt := topS 8
theorem sc_over : FnScope ["one", "other", "n", "d"] ["one", "other"] (defScope sover) := ⟨rfl, rfl, rfl, by decide +kernel, rfl, by decide +kernel, by decide +kernel⟩
theorem ok_over {f : Addr} {fd : FuncData} (F : Fun K "over" "over" sover f fd) (B : Bt mg) (c_times : CalG P w K mg base 1 "times" (spTwo K mulF)) : FnG P w K mg base 2 f fd ["one", "other"] (spDiv K) := by
  refine Fun.okG F sc_over spDiv_len (fun cdv A outer s H vs Q E hg hr h => ?_)
  obtain ⟨x, y, n, d, m, e, rfl, hx, ⟨b, rfl, hb⟩, f1, f2, bn, bd, bm, be, hm, k⟩ := h
  refine ⟨_, (pss_cons (ps_asg (pv 1) (pg_tup (n := 2) rfl (pgs_cons (pg_name (i := 2) sc_over.nd rfl (Or.inl rfl)) (pgs_cons (pg_name (i := 3) sc_over.nd rfl (Or.inl rfl)) pgs_nil))))
    (pss_one (ps_ret (pc c_times hg hr (by decide) (by rfl) (pa_cons (pv 0) (pa_cons (pe_ifExp (pt_cmpR op_gt (pv 2) pe_int (nomark _)) (pe_tup (pa_cons (pv 3) (pa_cons (pv 2) pa_nil))) (pe_tup (pa_cons (pe_un un_neg (pv 3)) (pa_cons (pe_un un_neg (pv 2)) pa_nil)))) pa_nil)))))), ?_⟩
  refine ⟨_, rfl, b, _, rfl, hb, rfl, _, _, rfl, _, _, rfl, rfl, ?_⟩
  have res : ∀ {H1 : Hp} {r : Int × Int}, Same H H1 → r = divF n d m e → Res Q H1 r := fun {H1 r} s1 er q H' s hq he => by
    subst er
    exact k q H' (s1.trans s) (by
      cases z : H q with
      | none => rfl
      | some o =>
        rw [s1 _ _ z] at hq
        cases hq) he
  refine ⟨_, rfl, _, rfl, _, _, rfl, rfl, _, rfl, iteP (fun h => ?_) fun h => ?_⟩
  · refine ⟨_, rfl, _, rfl, by show 2 ≤ sizeLine; decide, fun p np => ?_⟩
    have s1 := same_upd (o := .tup [.int e, .int m]) np
    exact ⟨x, .ref p, n, d, e, m, rfl, hx.same s1, .mk upd_same, f1, f2.flip (by omega), bn, bd, be, bm, res s1 rfl⟩
  · refine ⟨_, rfl, _, rfl, _, rfl, _, rfl, by show 2 ≤ sizeLine; decide, fun p np => ?_⟩
    have s1 := same_upd (o := .tup [.int (-e), .int (-m)]) np
    refine ⟨x, .ref p, n, d, -e, -m, rfl, hx.same s1, .mk upd_same, f1, f2.flipN (by omega), bn, bd, be.neg, bm.neg, res s1 ?_⟩
    unfold mulF divF
    rw [Int.mul_neg, Int.mul_neg, redI_neg (Int.mul_ne_zero (by have := f1.pos; omega) hm)]
/-- so many bits are cut off -/
def cutB (d : Int) : Nat := PySem.Builtin.Int.intBits d - 128
def roughF (n d m e : Int) : Int :=
  if (n / 2 ^ cutB d + 1) * (e / 2 ^ cutB e + 1) < m / 2 ^ cutB e * (d / 2 ^ cutB d) then -1
  else if n / 2 ^ cutB d * (e / 2 ^ cutB e) > (m / 2 ^ cutB e + 1) * (d / 2 ^ cutB d + 1) then 1 else 0
theorem rough1 {n d m e N D M E X Y : Int} (hX : 0 < X) (hY : 0 < Y) (n1 : n < (N + 1) * X) (e1 : e < (E + 1) * Y) (n0 : 0 < n) (e0 : 0 < e) (m1 : M * Y ≤ m) (d1 : D * X ≤ d) (M0 : 0 ≤ M) (D0 : 0 ≤ D) (h : (N + 1) * (E + 1) < M * D) : n * e < m * d := by
  have a : n * e < ((N + 1) * X) * ((E + 1) * Y) := Int.mul_lt_mul n1 (Int.le_of_lt e1) e0 (by omega)
  have my : 0 ≤ M * Y := Int.mul_nonneg M0 (Int.le_of_lt hY)
  have b : (M * Y) * (D * X) ≤ m * d := Int.mul_le_mul m1 d1 (Int.mul_nonneg D0 (Int.le_of_lt hX)) (by omega)
  have c : ((N + 1) * (E + 1)) * (X * Y) ≤ (M * D) * (X * Y) := Int.mul_le_mul_of_nonneg_right (Int.le_of_lt h) (Int.mul_nonneg (Int.le_of_lt hX) (Int.le_of_lt hY))
  have q1 : ((N + 1) * X) * ((E + 1) * Y) = ((N + 1) * (E + 1)) * (X * Y) := by grind
  have q2 : (M * Y) * (D * X) = (M * D) * (X * Y) := by grind
  rw [q1] at a
  rw [q2] at b
  exact Int.lt_of_lt_of_le a (Int.le_trans c b)
theorem two_pos (k : Nat) : (0 : Int) < 2 ^ k := Int.pow_pos (by decide)
theorem rough_ok {n d m e : Int} (n0 : 0 < n) (d0 : 0 < d) (m0 : 0 < m) (e0 : 0 < e) (h : roughF n d m e ≠ 0) : roughF n d m e = cmpF n d m e := by
  have hX := two_pos (cutB d)
  have hY := two_pos (cutB e)
  have up : ∀ (a : Int) {x : Int}, 0 < x → a < (a / x + 1) * x := fun a x hx => Int.lt_ediv_add_one_mul_self a hx
  have lo : ∀ (a : Int) {x : Int}, 0 < x → a / x * x ≤ a := fun a x hx => Int.ediv_mul_le a (by omega)
  have nn : ∀ {a x : Int}, 0 < a → 0 < x → 0 ≤ a / x := fun ha hx => Int.ediv_nonneg (Int.le_of_lt ha) (Int.le_of_lt hx)
  unfold roughF at h ⊢
  unfold cmpF
  by_cases h1 : (n / 2 ^ cutB d + 1) * (e / 2 ^ cutB e + 1) < m / 2 ^ cutB e * (d / 2 ^ cutB d)
  · rw [if_pos h1, if_pos (rough1 hX hY (up n hX) (up e hY) n0 e0 (lo m hY) (lo d hX) (nn m0 hY) (nn d0 hX) h1)]
  · rw [if_neg h1] at h ⊢
    by_cases h2 : n / 2 ^ cutB d * (e / 2 ^ cutB e) > (m / 2 ^ cutB e + 1) * (d / 2 ^ cutB d + 1)
    · rw [if_pos h2]
      have l := rough1 (n := m) (d := e) (m := n) (e := d) hY hX (up m hY) (up d hX) m0 d0 (lo n hX) (lo e hY) (nn n0 hX) (nn e0 hY) h2
      rw [if_neg (by omega), if_pos l]
    · rw [if_neg h2] at h
      exact absurd rfl h
def spFirst (K : PySem.W.Frag) : Sp := fun vs H Q _ => ∃ (x : V) (n d : Int), vs = [x] ∧ Cpl K H x n d ∧ Res Q H (n / 2 ^ cutB d, d / 2 ^ cutB d)
abbrev sfirst_bits : Stmt := topS 11
theorem sc_first_bits : FnScope ["one", "n", "d", "cut"] ["one"] (defScope sfirst_bits) := ⟨rfl, rfl, rfl, by decide +kernel, rfl, by decide +kernel, by decide +kernel⟩
theorem ok_first_bits {f : Addr} {fd : FuncData} (F : Fun K "first_bits" "first_bits" sfirst_bits f fd) (B : Bt mg) (TR : ∃ u, mg "ROUGH_BITS" = some u ∧ RelV (.int 128) u) : FnG P w K mg base 1 f fd ["one"] (spFirst K) := by
  refine Fun.okG F sc_first_bits (fun vs H Q E h => ?_) (fun cdv A outer s H vs Q E hg hr h => ?_)
  · obtain ⟨x, _, _, rfl, _⟩ := h
    rfl
  obtain ⟨x, n, d, rfl, ⟨a, rfl, ha⟩, k⟩ := h
  refine ⟨_, (pss_cons (ps_asg (pv 0) (pg_tup (n := 2) rfl (pgs_cons (pg_name (i := 1) sc_first_bits.nd rfl (Or.inl rfl)) (pgs_cons (pg_name (i := 2) sc_first_bits.nd rfl (Or.inl rfl)) pgs_nil))))
    (pss_cons (ps_set (i := 3) sc_first_bits.nd rfl (Or.inl rfl) (pe_callB (call_max2 rfl) (by rfl) B.max bb_max (pa_cons pe_int (pa_cons (pe_op op_sub (pe_bits (pv 2)) (C8.pe_gc rfl TR)) pa_nil))))
    (pss_one (ps_ret (pe_tup (pa_cons (pe_op op_shrN (pv 1) (pv 3)) (pa_cons (pe_op op_shrN (pv 2) (pv 3)) pa_nil))))))), ?_⟩
  refine ⟨_, rfl, a, _, rfl, ha, rfl, _, _, rfl, _, _, rfl, rfl, ?_⟩
  refine ⟨_, rfl, _, rfl, _, _, rfl, rfl, _, _, rfl, ?_⟩
  have e : (if ((PySem.Builtin.Int.intBits d : Nat) : Int) - 128 > 0 then ((PySem.Builtin.Int.intBits d : Nat) : Int) - 128 else 0) = ((cutB d : Nat) : Int) := by
    unfold cutB
    split <;> omega
  rw [e]
  exact ⟨_, rfl, _, rfl, _, _, rfl, rfl, _, rfl, _, rfl, _, _, rfl, rfl, by show 2 ≤ sizeLine; decide, k.now (.refl H) rfl⟩
theorem bg_cut {n : Int} {k : Nat} (h : Bg n) : (n / 2 ^ k).natAbs < 2 ^ 8000 ∧ (n / 2 ^ k + 1).natAbs < 2 ^ 8000 := by
  have h1 : (n / 2 ^ k).natAbs < 2 ^ 3000 := Nat.lt_of_le_of_lt div_le h
  have h2 : (n / 2 ^ k + 1).natAbs ≤ (n / 2 ^ k).natAbs + 1 := by omega
  have h3 : (2 : Nat) ^ 3000 < 2 ^ 8000 := Nat.pow_lt_pow_right (by decide) (by decide)
  generalize (2 : Nat) ^ 3000 = X at *
  generalize (2 : Nat) ^ 8000 = Y at *
  omega
def spRough (K : PySem.W.Frag) : Sp := fun vs H Q _ => ∃ (x y : V) (n d m e : Int), vs = [x, y] ∧ Cpl K H x n d ∧ Cpl K H y m e ∧ Bg n ∧ Bg d ∧ Bg m ∧ Bg e ∧ ∀ H', Same H H' → Q (.int (roughF n d m e)) H'
abbrev scompared_roughly : Stmt := topS 10
theorem sc_compared_roughly : FnScope ["one", "other", "n", "d", "m", "e"] ["one", "other"] (defScope scompared_roughly) := ⟨rfl, rfl, rfl, by decide +kernel, rfl, by decide +kernel, by decide +kernel⟩
theorem ok_compared_roughly {f : Addr} {fd : FuncData} (F : Fun K "compared_roughly" "compared_roughly" scompared_roughly f fd) (B : Bt mg) (c_first_bits : CalG P w K mg base 1 "first_bits" (spFirst K)) : FnG P w K mg base 2 f fd ["one", "other"] (spRough K) := by
  refine Fun.okG F sc_compared_roughly (fun vs H Q E h => ?_) (fun cdv A outer s H vs Q E hg hr h => ?_)
  · obtain ⟨x, y, _, _, _, _, rfl, _⟩ := h
    rfl
  obtain ⟨x, y, n, d, m, e, rfl, hx, hy, bn, bd, bm, be, k⟩ := h
  refine ⟨_, (pss_cons (ps_asg (pe_tup (pa_cons (pc c_first_bits hg hr (by decide) (by rfl) (pa_cons (pv 0) pa_nil)) (pa_cons (pc c_first_bits hg hr (by decide) (by rfl) (pa_cons (pv 1) pa_nil)) pa_nil))) (pg_tup (n := 2) rfl (pgs_cons (pg_tup (n := 2) rfl (pgs_cons (pg_name (i := 2) sc_compared_roughly.nd rfl (Or.inl rfl)) (pgs_cons (pg_name (i := 3) sc_compared_roughly.nd rfl (Or.inl rfl)) pgs_nil))) (pgs_cons (pg_tup (n := 2) rfl (pgs_cons (pg_name (i := 4) sc_compared_roughly.nd rfl (Or.inl rfl)) (pgs_cons (pg_name (i := 5) sc_compared_roughly.nd rfl (Or.inl rfl)) pgs_nil))) pgs_nil))))
    (pss_cons (ps_if (pt_cmpR op_lt (pe_op op_mulW (pe_op op_add (pv 2) pe_int) (pe_op op_add (pv 5) pe_int)) (pe_op op_mulW (pv 4) (pv 3)) (nomark _))
      (pss_one (ps_ret (pe_un un_neg pe_int)))
      pss_nil)
    (pss_one (ps_ret (pe_ifExp (pt_cmpR op_gt (pe_op op_mulW (pv 2) (pv 5)) (pe_op op_mulW (pe_op op_add (pv 4) pe_int) (pe_op op_add (pv 3) pe_int)) (nomark _)) pe_int pe_int))))), ?_⟩
  refine ⟨_, rfl, x, n, d, rfl, hx, fun a H1 s1 _ h1 => ⟨_, rfl, y, m, e, rfl, hy.same s1, fun b H2 s2 _ h2 => ?_⟩⟩
  refine ⟨by show 2 ≤ sizeLine; decide, fun p np => ?_⟩
  have s3 := same_upd (o := .tup [.ref a, .ref b]) np
  have h1' := s3 _ _ (s2 _ _ h1)
  have h2' := s3 _ _ h2
  have k := k _ ((s1.trans s2).trans s3)
  refine ⟨p, _, rfl, .inl (.inl upd_same), rfl, _, _, rfl, a, _, rfl, .inl (.inl h1'), rfl, _, _, rfl, _, _, rfl, rfl, _, _, rfl, b, _, rfl, .inl (.inl h2'), rfl, _, _, rfl, _, _, rfl, rfl, rfl, ?_⟩
  obtain ⟨n1, n2⟩ := bg_cut (k := cutB d) bn
  obtain ⟨d1, d2⟩ := bg_cut (k := cutB d) bd
  obtain ⟨m1, m2⟩ := bg_cut (k := cutB e) bm
  obtain ⟨e1, e2⟩ := bg_cut (k := cutB e) be
  unfold roughF at k
  refine ⟨_, rfl, _, _, rfl, rfl, _, rfl, _, _, rfl, rfl, _, _, rfl, rfl, mulW n2 e2, _, rfl, _, rfl, _, _, rfl, rfl, mulW m1 d1, _, _, rfl, rfl, _, rfl, iteP (fun h => ?_) fun h => ?_⟩
  · rw [if_pos h] at k
    exact ⟨_, rfl, k⟩
  · rw [if_neg h] at k
    refine ⟨_, rfl, _, rfl, _, _, rfl, rfl, mulW n1 e1, _, rfl, _, _, rfl, rfl, _, rfl, _, _, rfl, rfl, _, _, rfl, rfl, mulW m2 d2, _, _, rfl, rfl, _, rfl, iteP (fun h2 => ?_) fun h2 => ?_⟩
    · rw [if_pos h2] at k
      exact k
    · rw [if_neg h2] at k
      exact k
def spCmp (K : PySem.W.Frag) : Sp := fun vs H Q _ => ∃ (x y : V) (n d m e : Int), vs = [x, y] ∧ Cpl K H x n d ∧ Cpl K H y m e ∧ Bg n ∧ Bg d ∧ Bg m ∧ Bg e ∧ 0 < d ∧ 0 < e ∧ ∀ H', Same H H' → Q (.int (cmpF n d m e)) H'
abbrev scompared : Stmt := topS 9
theorem sc_compared : FnScope ["one", "other", "n", "d", "m", "e", "rough", "left", "right"] ["one", "other"] (defScope scompared) := ⟨rfl, rfl, rfl, by decide +kernel, rfl, by decide +kernel, by decide +kernel⟩
theorem ok_compared {f : Addr} {fd : FuncData} (F : Fun K "compared" "compared" scompared f fd) (B : Bt mg) (TB : ∃ u, mg "GREAT_BITS" = some u ∧ RelV (.int 1500) u) (c_compared_roughly : CalG P w K mg base 2 "compared_roughly" (spRough K)) : FnG P w K mg base 3 f fd ["one", "other"] (spCmp K) := by
  refine Fun.okG F sc_compared (fun vs H Q E h => ?_) (fun cdv A outer s H vs Q E hg hr h => ?_)
  · obtain ⟨x, y, _, _, _, _, rfl, _⟩ := h
    rfl
  obtain ⟨x, y, n, d, m, e, rfl, ⟨a, rfl, ha⟩, ⟨b, rfl, hb⟩, bn, bd, bm, be, d0, e0, k⟩ := h
  refine ⟨_, (pss_cons (ps_asg (pe_tup (pa_cons (pv 0) (pa_cons (pv 1) pa_nil))) (pg_tup (n := 2) rfl (pgs_cons (pg_tup (n := 2) rfl (pgs_cons (pg_name (i := 2) sc_compared.nd rfl (Or.inl rfl)) (pgs_cons (pg_name (i := 3) sc_compared.nd rfl (Or.inl rfl)) pgs_nil))) (pgs_cons (pg_tup (n := 2) rfl (pgs_cons (pg_name (i := 4) sc_compared.nd rfl (Or.inl rfl)) (pgs_cons (pg_name (i := 5) sc_compared.nd rfl (Or.inl rfl)) pgs_nil))) pgs_nil))))
    (C8.pss_cut (ps_if (PW.pt (pw_and (pt_cmpR op_gt (pe_bits (pe_callB (call_max2 rfl) (by rfl) B.max bb_max (pa_cons (pv 3) (pa_cons (pv 5) pa_nil)))) (C8.pe_gc rfl TB) (nomark _)) (pw_and (pt_cmpR op_gt (pv 2) pe_int (nomark _)) (pw_and1 (pt_cmpR op_gt (pv 4) pe_int (nomark _))))))
      (pss_cons (ps_set (i := 6) sc_compared.nd rfl (Or.inl rfl) (pc c_compared_roughly hg hr (by decide) (by rfl) (pa_cons (pv 0) (pa_cons (pv 1) pa_nil))))
      (pss_one (ps_if (pt_cmpR op_ne (pv 6) pe_int (nomark _))
        (pss_one (ps_ret (pv 6)))
        pss_nil)))
      pss_nil)
    (pss_cons (ps_set (i := 7) sc_compared.nd rfl (Or.inl rfl) (pe_op op_mulW (pv 2) (pv 5)))
    (pss_cons (ps_set (i := 8) sc_compared.nd rfl (Or.inl rfl) (pe_op op_mulW (pv 4) (pv 3)))
    (pss_cons (ps_if (pt_cmpR op_lt (pv 7) (pv 8) (nomark _))
      (pss_one (ps_ret (pe_un un_neg pe_int)))
      pss_nil)
    (pss_one (ps_ret (pe_ifExp (pt_cmpR op_gt (pv 7) (pv 8) (nomark _)) pe_int pe_int)))))))), ?_⟩
  refine ⟨_, rfl, _, rfl, by show 2 ≤ sizeLine; decide, fun p np => ?_⟩
  have s1 := same_upd (o := .tup [.ref a, .ref b]) np
  refine ⟨p, _, rfl, .inl (.inl upd_same), rfl, _, _, rfl, a, _, rfl, s1.seqT ha, rfl, _, _, rfl, _, _, rfl, rfl, _, _, rfl, b, _, rfl, s1.seqT hb, rfl, _, _, rfl, _, _, rfl, rfl, rfl, ?_⟩
  have ha1 := s1.seqT ha
  have hb1 := s1.seqT hb
  revert s1 ha1 hb1
  generalize upd H p (.tup [.ref a, .ref b]) = H1
  intro s1 ha1 hb1
  refine ⟨fun σ H' => Same H H' ∧ ∃ o, σ = [some (.ref a), some (.ref b), some (.int n), some (.int d), some (.int m), some (.int e), o, none, none], ?_, ?_⟩
  · refine ⟨_, rfl, _, rfl, _, _, rfl, _, rfl, _, _, rfl, rfl, _, rfl, iteP (fun _ => ?_) fun _ => ⟨s1, _, rfl⟩⟩
    refine ⟨_, rfl, _, _, rfl, rfl, _, rfl, iteP (fun hn => ?_) fun _ => ⟨s1, _, rfl⟩⟩
    refine ⟨_, rfl, _, _, rfl, rfl, _, rfl, iteP (fun hm => ?_) fun _ => ⟨s1, _, rfl⟩⟩
    refine ⟨_, rfl, _, rfl, .ref a, .ref b, n, d, m, e, rfl, ⟨a, rfl, ha1⟩, ⟨b, rfl, hb1⟩, bn, bd, bm, be, fun H2 s2 => ?_⟩
    refine ⟨_, rfl, rfl, _, rfl, iteNe (fun h => ?_) fun h => ?_⟩
    · refine ⟨_, rfl, ?_⟩
      have e := rough_ok hn d0 hm e0 (fun z => h (by rw [z]))
      rw [e]
      exact k _ (s1.trans s2)
    · exact ⟨s1.trans s2, _, rfl⟩
  · rintro σ H' ⟨s2, o, rfl⟩
    refine ⟨_, rfl, _, rfl, _, _, rfl, rfl, mulW bn.w be.w, ?_⟩
    refine ⟨_, rfl, _, rfl, _, _, rfl, rfl, mulW bm.w bd.w, ?_⟩
    have k := k _ s2
    unfold cmpF at k
    refine ⟨_, rfl, _, rfl, _, _, rfl, rfl, _, rfl, iteP (fun h => ?_) fun h => ?_⟩
    · rw [if_pos h] at k
      exact ⟨_, rfl, k⟩
    · rw [if_neg h] at k
      refine ⟨_, rfl, _, rfl, _, _, rfl, rfl, _, rfl, iteP (fun h2 => ?_) fun h2 => ?_⟩
      · rw [if_pos h2] at k
        exact k
      · rw [if_neg h2] at k
        exact k
theorem den_ok {d e : Int} (f1 : 0 < d) (f2 : 0 < e) (bd : Bg d) (be : Bg e) : d * e ≠ 0 ∧ (d * e).natAbs < 2 ^ 8000 := ⟨Int.mul_ne_zero (by omega) (by omega), w6 (bd.mul be)⟩
theorem res_p {Q : VK} {H H1 : Hp} {r : Int × Int} (k : Res Q H r) (s : Same H H1) : ∀ p, H1 p = none → Q (.ref p) (upd H1 p (.tup [.int r.1, .int r.2])) := k.now s rfl
abbrev s_law_added : Stmt := topS 48
theorem sc__law_added : FnScope ["one", "other"] ["one", "other"] (defScope s_law_added) := ⟨rfl, rfl, rfl, by decide +kernel, rfl, by decide +kernel, by decide +kernel⟩
theorem ok__law_added {f : Addr} {fd : FuncData} (F : Fun K "_law_added" "_law_added" s_law_added f fd) (B : Bt mg) (c__law_reduced : CalG P w K mg base 2 "_law_reduced" spRed) : FnG P w K mg base 3 f fd ["one", "other"] (spTwo K addF) := by
  refine Fun.okG F sc__law_added spTwo_len (fun cdv A outer s H vs Q E hg hr h => ?_)
  obtain ⟨x, y, n, d, m, e, rfl, ⟨a, rfl, ha⟩, ⟨b, rfl, hb⟩, f1, f2, bn, bd, bm, be, k⟩ := h
  refine ⟨_, (pss_one (ps_ret (pc c__law_reduced hg hr (by decide) (by rfl) (pa_cons (pe_op op_add (pe_op op_mulW (pe_ix ix_tup (pv 0) pe_int (fun _ _ => rfl)) (pe_ix ix_tup (pv 1) pe_int (fun _ _ => rfl))) (pe_op op_mulW (pe_ix ix_tup (pv 1) pe_int (fun _ _ => rfl)) (pe_ix ix_tup (pv 0) pe_int (fun _ _ => rfl)))) (pa_cons (pe_op op_mulW (pe_ix ix_tup (pv 0) pe_int (fun _ _ => rfl)) (pe_ix ix_tup (pv 1) pe_int (fun _ _ => rfl))) pa_nil))))), ?_⟩
  refine ⟨_, rfl, a, _, 0, _, rfl, rfl, ha, atI_nat (j := 0) rfl, _, rfl, b, _, 1, _, rfl, rfl, hb, atI_nat (j := 1) rfl, _, _, rfl, rfl, mulW bn.w be.w, ?_⟩
  refine ⟨_, rfl, b, _, 0, _, rfl, rfl, hb, atI_nat (j := 0) rfl, _, rfl, a, _, 1, _, rfl, rfl, ha, atI_nat (j := 1) rfl, _, _, rfl, rfl, mulW bm.w bd.w, _, _, rfl, rfl, ?_⟩
  refine ⟨_, rfl, a, _, 1, _, rfl, rfl, ha, atI_nat (j := 1) rfl, _, rfl, b, _, 1, _, rfl, rfl, hb, atI_nat (j := 1) rfl, _, _, rfl, rfl, mulW bd.w be.w, ?_⟩
  obtain ⟨z1, z2⟩ := den_ok f1.pos f2.pos bd be
  exact ⟨_, _, rfl, z1, z2, res_p k (.refl H)⟩
abbrev s_law_lessened : Stmt := topS 49
theorem sc__law_lessened : FnScope ["one", "other"] ["one", "other"] (defScope s_law_lessened) := ⟨rfl, rfl, rfl, by decide +kernel, rfl, by decide +kernel, by decide +kernel⟩
theorem ok__law_lessened {f : Addr} {fd : FuncData} (F : Fun K "_law_lessened" "_law_lessened" s_law_lessened f fd) (B : Bt mg) (c__law_reduced : CalG P w K mg base 2 "_law_reduced" spRed) : FnG P w K mg base 3 f fd ["one", "other"] (spTwo K subF) := by
  refine Fun.okG F sc__law_lessened spTwo_len (fun cdv A outer s H vs Q E hg hr h => ?_)
  obtain ⟨x, y, n, d, m, e, rfl, ⟨a, rfl, ha⟩, ⟨b, rfl, hb⟩, f1, f2, bn, bd, bm, be, k⟩ := h
  refine ⟨_, (pss_one (ps_ret (pc c__law_reduced hg hr (by decide) (by rfl) (pa_cons (pe_op op_sub (pe_op op_mulW (pe_ix ix_tup (pv 0) pe_int (fun _ _ => rfl)) (pe_ix ix_tup (pv 1) pe_int (fun _ _ => rfl))) (pe_op op_mulW (pe_ix ix_tup (pv 1) pe_int (fun _ _ => rfl)) (pe_ix ix_tup (pv 0) pe_int (fun _ _ => rfl)))) (pa_cons (pe_op op_mulW (pe_ix ix_tup (pv 0) pe_int (fun _ _ => rfl)) (pe_ix ix_tup (pv 1) pe_int (fun _ _ => rfl))) pa_nil))))), ?_⟩
  refine ⟨_, rfl, a, _, 0, _, rfl, rfl, ha, atI_nat (j := 0) rfl, _, rfl, b, _, 1, _, rfl, rfl, hb, atI_nat (j := 1) rfl, _, _, rfl, rfl, mulW bn.w be.w, ?_⟩
  refine ⟨_, rfl, b, _, 0, _, rfl, rfl, hb, atI_nat (j := 0) rfl, _, rfl, a, _, 1, _, rfl, rfl, ha, atI_nat (j := 1) rfl, _, _, rfl, rfl, mulW bm.w bd.w, _, _, rfl, rfl, ?_⟩
  refine ⟨_, rfl, a, _, 1, _, rfl, rfl, ha, atI_nat (j := 1) rfl, _, rfl, b, _, 1, _, rfl, rfl, hb, atI_nat (j := 1) rfl, _, _, rfl, rfl, mulW bd.w be.w, ?_⟩
  obtain ⟨z1, z2⟩ := den_ok f1.pos f2.pos bd be
  exact ⟨_, _, rfl, z1, z2, res_p k (.refl H)⟩
abbrev s_law_multiplied : Stmt := topS 50
theorem sc__law_multiplied : FnScope ["one", "other"] ["one", "other"] (defScope s_law_multiplied) := ⟨rfl, rfl, rfl, by decide +kernel, rfl, by decide +kernel, by decide +kernel⟩
theorem ok__law_multiplied {f : Addr} {fd : FuncData} (F : Fun K "_law_multiplied" "_law_multiplied" s_law_multiplied f fd) (B : Bt mg) (c__law_reduced : CalG P w K mg base 2 "_law_reduced" spRed) : FnG P w K mg base 3 f fd ["one", "other"] (spTwo K mulF) := by
  refine Fun.okG F sc__law_multiplied spTwo_len (fun cdv A outer s H vs Q E hg hr h => ?_)
  obtain ⟨x, y, n, d, m, e, rfl, ⟨a, rfl, ha⟩, ⟨b, rfl, hb⟩, f1, f2, bn, bd, bm, be, k⟩ := h
  refine ⟨_, (pss_one (ps_ret (pc c__law_reduced hg hr (by decide) (by rfl) (pa_cons (pe_op op_mulW (pe_ix ix_tup (pv 0) pe_int (fun _ _ => rfl)) (pe_ix ix_tup (pv 1) pe_int (fun _ _ => rfl))) (pa_cons (pe_op op_mulW (pe_ix ix_tup (pv 0) pe_int (fun _ _ => rfl)) (pe_ix ix_tup (pv 1) pe_int (fun _ _ => rfl))) pa_nil))))), ?_⟩
  refine ⟨_, rfl, a, _, 0, _, rfl, rfl, ha, atI_nat (j := 0) rfl, _, rfl, b, _, 0, _, rfl, rfl, hb, atI_nat (j := 0) rfl, _, _, rfl, rfl, mulW bn.w bm.w, ?_⟩
  refine ⟨_, rfl, a, _, 1, _, rfl, rfl, ha, atI_nat (j := 1) rfl, _, rfl, b, _, 1, _, rfl, rfl, hb, atI_nat (j := 1) rfl, _, _, rfl, rfl, mulW bd.w be.w, ?_⟩
  obtain ⟨z1, z2⟩ := den_ok f1.pos f2.pos bd be
  exact ⟨_, _, rfl, z1, z2, res_p k (.refl H)⟩
abbrev s_law_divided : Stmt := topS 51
theorem sc__law_divided : FnScope ["one", "other"] ["one", "other"] (defScope s_law_divided) := ⟨rfl, rfl, rfl, by decide +kernel, rfl, by decide +kernel, by decide +kernel⟩
theorem ok__law_divided {f : Addr} {fd : FuncData} (F : Fun K "_law_divided" "_law_divided" s_law_divided f fd) (B : Bt mg) (c__law_reduced : CalG P w K mg base 2 "_law_reduced" spRed) : FnG P w K mg base 3 f fd ["one", "other"] (spDiv K) := by
  refine Fun.okG F sc__law_divided spDiv_len (fun cdv A outer s H vs Q E hg hr h => ?_)
  obtain ⟨x, y, n, d, m, e, rfl, ⟨a, rfl, ha⟩, ⟨b, rfl, hb⟩, f1, f2, bn, bd, bm, be, hm, k⟩ := h
  refine ⟨_, (pss_one (ps_ret (pc c__law_reduced hg hr (by decide) (by rfl) (pa_cons (pe_op op_mulW (pe_ix ix_tup (pv 0) pe_int (fun _ _ => rfl)) (pe_ix ix_tup (pv 1) pe_int (fun _ _ => rfl))) (pa_cons (pe_op op_mulW (pe_ix ix_tup (pv 0) pe_int (fun _ _ => rfl)) (pe_ix ix_tup (pv 1) pe_int (fun _ _ => rfl))) pa_nil))))), ?_⟩
  refine ⟨_, rfl, a, _, 0, _, rfl, rfl, ha, atI_nat (j := 0) rfl, _, rfl, b, _, 1, _, rfl, rfl, hb, atI_nat (j := 1) rfl, _, _, rfl, rfl, mulW bn.w be.w, ?_⟩
  refine ⟨_, rfl, a, _, 1, _, rfl, rfl, ha, atI_nat (j := 1) rfl, _, rfl, b, _, 0, _, rfl, rfl, hb, atI_nat (j := 0) rfl, _, _, rfl, rfl, mulW bd.w bm.w, ?_⟩
  exact ⟨_, _, rfl, Int.mul_ne_zero (by have := f1.pos; omega) hm, w6 (bd.mul bm), res_p k (.refl H)⟩
def spBelow (K : PySem.W.Frag) : Sp := fun vs H Q _ => ∃ (x y : V) (n d m e : Int), vs = [x, y] ∧ Cpl K H x n d ∧ Cpl K H y m e ∧ Bg n ∧ Bg d ∧ Bg m ∧ Bg e ∧ Q (.bl (decide (n * e < m * d))) H
abbrev s_law_is_below : Stmt := topS 52
theorem sc__law_is_below : FnScope ["one", "other"] ["one", "other"] (defScope s_law_is_below) := ⟨rfl, rfl, rfl, by decide +kernel, rfl, by decide +kernel, by decide +kernel⟩
theorem ok__law_is_below {f : Addr} {fd : FuncData} (F : Fun K "_law_is_below" "_law_is_below" s_law_is_below f fd) (B : Bt mg) : FnG P w K mg base 1 f fd ["one", "other"] (spBelow K) := by
  refine Fun.okG F sc__law_is_below (fun vs H Q E h => ?_) (fun cdv A outer s H vs Q E hg hr h => ?_)
  · obtain ⟨x, y, _, _, _, _, rfl, _⟩ := h
    rfl
  obtain ⟨x, y, n, d, m, e, rfl, ⟨a, rfl, ha⟩, ⟨b, rfl, hb⟩, bn, bd, bm, be, k⟩ := h
  refine ⟨_, (pss_one (ps_ret (pe_cmpR op_lt (pe_op op_mulW (pe_ix ix_tup (pv 0) pe_int (fun _ _ => rfl)) (pe_ix ix_tup (pv 1) pe_int (fun _ _ => rfl))) (pe_op op_mulW (pe_ix ix_tup (pv 1) pe_int (fun _ _ => rfl)) (pe_ix ix_tup (pv 0) pe_int (fun _ _ => rfl))) (nomark _)))), ?_⟩
  refine ⟨_, rfl, a, _, 0, _, rfl, rfl, ha, atI_nat (j := 0) rfl, _, rfl, b, _, 1, _, rfl, rfl, hb, atI_nat (j := 1) rfl, _, _, rfl, rfl, mulW bn.w be.w, ?_⟩
  exact ⟨_, rfl, b, _, 0, _, rfl, rfl, hb, atI_nat (j := 0) rfl, _, rfl, a, _, 1, _, rfl, rfl, ha, atI_nat (j := 1) rfl, _, _, rfl, rfl, mulW bm.w bd.w, _, _, rfl, rfl, k⟩
end
end K33
namespace K33
open PySem PySem.Spec PyProof.Rows L2 Sw
/-- a FRACTION that is not too great -/
structure OkF (f : Int × Int) : Prop where
  fr : Fr f.1 f.2
  bn : Bg f.1
  bd : Bg f.2
def sumF (fs : List (Int × Int)) : Int × Int := fs.foldl (fun s f => addF s.1 s.2 f.1 f.2) (0, 1)
theorem sumF_snoc (fs : List (Int × Int)) (f : Int × Int) : sumF (fs ++ [f]) = addF (sumF fs).1 (sumF fs).2 f.1 f.2 := by
  unfold sumF
  rw [List.foldl_append]
  rfl
/-- a row of FRACTIONS, a list or a tuple -/
def RowAt (K : PySem.W.Frag) (H : Hp) (a : Addr) (fs : List (Int × Int)) : Prop := ∃ xs, (SqL K H a xs ∨ SqT K H a xs) ∧ RowF K H xs fs
def spTotal (K : PySem.W.Frag) : Sp := fun vs H Q _ => ∃ (a : Addr) (fs : List (Int × Int)), vs = [.ref a] ∧ RowAt K H a fs ∧ (∀ f ∈ fs, OkF f) ∧ (∀ i, i < fs.length → OkF (sumF (fs.take i))) ∧ ∀ v H', Same H H' → Cpl K H' v (sumF fs).1 (sumF fs).2 → Q v H'
theorem spTotal_len {K : PySem.W.Frag} {a : Str} : ∀ vs H Q E, spTotal K vs H Q E → vs.length = [a].length := fun vs H Q E h => by
  obtain ⟨_, _, rfl, _⟩ := h
  rfl
section
variable {P : Program} {w : World} {K : PySem.W.Frag} {mg : Str → Option Value} {base : Heap}
abbrev s_law_total : Stmt := topS 53
theorem sc__law_total : FnScope ["fractions", "found", "one"] ["fractions"] (defScope s_law_total) := ⟨rfl, rfl, rfl, by decide +kernel, rfl, by decide +kernel, by decide +kernel⟩
theorem ok__law_total {f : Addr} {fd : FuncData} (F : Fun K "_law_total" "_law_total" s_law_total f fd) (B : Bt mg) (c__law_added : CalG P w K mg base 3 "_law_added" (spTwo K addF)) : FnG P w K mg base 4 f fd ["fractions"] (spTotal K) := by
  refine Fun.okG F sc__law_total spTotal_len (fun cdv A outer s H vs Q E hg hr h => ?_)
  obtain ⟨a, fs, rfl, ⟨xs, hq, hr0⟩, hs, hT, k⟩ := h
  rcases hq with hq | hq
  · refine ⟨_, (pss_cons (ps_set (i := 1) sc__law_total.nd rfl (Or.inl rfl) (pe_tup (pa_cons pe_int (pa_cons pe_int pa_nil))))
      (pss_cons (ps_for PassesOwn.never rfl (pi_list (pv 0)) (pg_name (i := 2) sc__law_total.nd rfl (Or.inl rfl))
        (pss_one (ps_set (i := 1) sc__law_total.nd rfl (Or.inl rfl) (pc c__law_added hg hr (by decide) (by rfl) (pa_cons (pv 1) (pa_cons (pv 2) pa_nil))))))
      (pss_one (ps_ret (pv 1))))), ?_⟩
    refine ⟨by show 2 ≤ sizeLine; decide, fun p np => ?_⟩
    have s0 := same_upd (o := .tup [.int 0, .int 1]) np
    have h0 : Cpl K (upd H p (.tup [.int 0, .int 1])) (.ref p) (sumF (fs.take 0)).1 (sumF (fs.take 0)).2 := .mk upd_same
    refine ⟨_, rfl, a, rfl, ⟨_, s0.seq hq⟩, for_it (walk_list (K := K) (xs := xs) (a := a)) (fun i σ H' => ∃ v o, σ = [some (.ref a), some v, o] ∧ Same H H' ∧ Cpl K H' v (sumF (fs.take i)).1 (sumF (fs.take i)).2) ⟨_, _, rfl, s0, h0⟩ (fun i σ H' _ h => by
      obtain ⟨_, _, _, s, _⟩ := h
      exact s.seq hq) (fun i x σ H1 H2 hi h y => ?_) fun σ H1 h => ?_⟩
    · obtain ⟨v, o, rfl, s, hv⟩ := h
      obtain ⟨rfl, hx⟩ := y
      obtain ⟨g, eg, hg1⟩ := hr0.get hx
      have tb := hT i (by rw [← hr0.len]; omega)
      have sm := hs g (List.mem_of_getElem? eg)
      refine ⟨_, rfl, _, rfl, v, x, (sumF (fs.take i)).1, (sumF (fs.take i)).2, g.1, g.2, rfl, hv, hg1.same s, tb.fr, sm.fr, tb.bn, tb.bd, sm.bn, sm.bd, fun p H3 s3 _ hp => ?_⟩
      have e : fs.take (i + 1) = fs.take i ++ [g] := by
        rw [List.take_add_one, eg]
        rfl
      refine ⟨_, _, rfl, s.trans s3, ?_⟩
      rw [e, sumF_snoc]
      exact .mk hp
    · obtain ⟨v, o, rfl, s, hv⟩ := h
      rw [hr0.len, List.take_length] at hv
      exact ⟨_, rfl, k v _ s hv⟩
  · refine ⟨_, (pss_cons (ps_set (i := 1) sc__law_total.nd rfl (Or.inl rfl) (pe_tup (pa_cons pe_int (pa_cons pe_int pa_nil))))
      (pss_cons (ps_for PassesOwn.never rfl (pi_tup (pv 0)) (pg_name (i := 2) sc__law_total.nd rfl (Or.inl rfl))
        (pss_one (ps_set (i := 1) sc__law_total.nd rfl (Or.inl rfl) (pc c__law_added hg hr (by decide) (by rfl) (pa_cons (pv 1) (pa_cons (pv 2) pa_nil))))))
      (pss_one (ps_ret (pv 1))))), ?_⟩
    refine ⟨by show 2 ≤ sizeLine; decide, fun p np => ?_⟩
    have s0 := same_upd (o := .tup [.int 0, .int 1]) np
    have h0 : Cpl K (upd H p (.tup [.int 0, .int 1])) (.ref p) (sumF (fs.take 0)).1 (sumF (fs.take 0)).2 := .mk upd_same
    refine ⟨_, rfl, a, rfl, ⟨_, s0.seqT hq⟩, for_it (walk_tup (K := K) (xs := xs) (a := a)) (fun i σ H' => ∃ v o, σ = [some (.ref a), some v, o] ∧ Same H H' ∧ Cpl K H' v (sumF (fs.take i)).1 (sumF (fs.take i)).2) ⟨_, _, rfl, s0, h0⟩ (fun i σ H' _ h => by
      obtain ⟨_, _, _, s, _⟩ := h
      exact s.seqT hq) (fun i x σ H1 H2 hi h y => ?_) fun σ H1 h => ?_⟩
    · obtain ⟨v, o, rfl, s, hv⟩ := h
      obtain ⟨rfl, hx⟩ := y
      obtain ⟨g, eg, hg1⟩ := hr0.get hx
      have tb := hT i (by rw [← hr0.len]; omega)
      have sm := hs g (List.mem_of_getElem? eg)
      refine ⟨_, rfl, _, rfl, v, x, (sumF (fs.take i)).1, (sumF (fs.take i)).2, g.1, g.2, rfl, hv, hg1.same s, tb.fr, sm.fr, tb.bn, tb.bd, sm.bn, sm.bd, fun p H3 s3 _ hp => ?_⟩
      have e : fs.take (i + 1) = fs.take i ++ [g] := by
        rw [List.take_add_one, eg]
        rfl
      refine ⟨_, _, rfl, s.trans s3, ?_⟩
      rw [e, sumF_snoc]
      exact .mk hp
    · obtain ⟨v, o, rfl, s, hv⟩ := h
      rw [hr0.len, List.take_length] at hv
      exact ⟨_, rfl, k v _ s hv⟩
def LeF (f g : Int × Int) : Prop := f.1 * g.2 ≤ g.1 * f.2
theorem leF_trans {f g h : Int × Int} (pf : 0 < f.2) (pg : 0 < g.2) (ph : 0 < h.2) (a : LeF f g) (b : LeF g h) : LeF f h := by
  unfold LeF at *
  refine Int.le_of_mul_le_mul_right (?_ : f.1 * h.2 * g.2 ≤ h.1 * f.2 * g.2) pg
  calc f.1 * h.2 * g.2 = (f.1 * g.2) * h.2 := by rw [Int.mul_assoc, Int.mul_comm h.2, ← Int.mul_assoc]
    _ ≤ (g.1 * f.2) * h.2 := Int.mul_le_mul_of_nonneg_right a (Int.le_of_lt ph)
    _ = (g.1 * h.2) * f.2 := by rw [Int.mul_assoc, Int.mul_comm f.2, ← Int.mul_assoc]
    _ ≤ (h.1 * g.2) * f.2 := Int.mul_le_mul_of_nonneg_right b (Int.le_of_lt pf)
    _ = h.1 * f.2 * g.2 := by rw [Int.mul_assoc, Int.mul_comm g.2, ← Int.mul_assoc]
theorem leF_refl (f : Int × Int) : LeF f f := Int.le_refl _
theorem leF_anti {f g : Int × Int} (hf : Fr f.1 f.2) (hg : Fr g.1 g.2) (a : LeF f g) (b : LeF g f) : f = g := by
  obtain ⟨e1, e2⟩ := fr_eq hf hg (Int.le_antisymm a b)
  exact Prod.ext e1 e2
theorem cmp_neg {f g : Int × Int} : (cmpF f.1 f.2 g.1 g.2 < 0) ↔ ¬ LeF g f := by
  unfold cmpF LeF
  split
  · omega
  · split <;> omega
theorem cmp_pos {f g : Int × Int} : (cmpF f.1 f.2 g.1 g.2 > 0) ↔ ¬ LeF f g := by
  unfold cmpF LeF
  split
  · omega
  · split <;> omega
def spEnd (K : PySem.W.Frag) (R : Int × Int → Int × Int → Prop) : Sp := fun vs H Q _ => ∃ (a : Addr) (fs : List (Int × Int)), vs = [.ref a] ∧ RowAt K H a fs ∧ (∀ f ∈ fs, OkF f) ∧ 0 < fs.length ∧ ∀ v f H', Same H H' → Cpl K H' v f.1 f.2 → f ∈ fs → (∀ g ∈ fs, R f g) → Q v H'
theorem spEnd_len {K : PySem.W.Frag} {R : Int × Int → Int × Int → Prop} {a : Str} : ∀ vs H Q E, spEnd K R vs H Q E → vs.length = [a].length := fun vs H Q E h => by
  obtain ⟨_, _, rfl, _⟩ := h
  rfl
end
end K33
namespace K33
open PySem PySem.Spec PyProof.Rows L2 Sw
/-! what a couple stands for -/
def vf (f : Int × Int) : Rat := (f.1 : Rat) / (f.2 : Rat)
theorem ne_cast {y : Int} (h : y ≠ 0) : (y : Rat) ≠ 0 := by simp [h]
theorem cast_eq {a b : Int} (h : (a : Rat) = (b : Rat)) : a = b := by exact_mod_cast h
theorem vf_red {x y : Int} (h : y ≠ 0) : vf (redI x y) = (x : Rat) / (y : Rat) := by
  obtain ⟨f, e⟩ := redI_fr (x := x) h
  have h1 : ((redI x y).1 : Rat) * (y : Rat) = (x : Rat) * ((redI x y).2 : Rat) := by exact_mod_cast e
  have h2 := ne_cast h
  have h3 := ne_cast (show (redI x y).2 ≠ 0 by have := f.pos; omega)
  unfold vf
  grind
theorem vf_add {n d m e : Int} (hd : d ≠ 0) (he : e ≠ 0) : vf (addF n d m e) = vf (n, d) + vf (m, e) := by
  unfold addF
  rw [vf_red (Int.mul_ne_zero hd he)]
  have h2 := ne_cast hd
  have h3 := ne_cast he
  have e1 : ((n * e + m * d : Int) : Rat) = (n : Rat) * e + (m : Rat) * d := by simp
  have e2 : ((d * e : Int) : Rat) = (d : Rat) * e := by simp
  rw [e1, e2]
  unfold vf
  grind
theorem vf_mul {n d m e : Int} (hd : d ≠ 0) (he : e ≠ 0) : vf (mulF n d m e) = vf (n, d) * vf (m, e) := by
  unfold mulF
  rw [vf_red (Int.mul_ne_zero hd he)]
  have h2 := ne_cast hd
  have h3 := ne_cast he
  have e1 : ((n * m : Int) : Rat) = (n : Rat) * m := by simp
  have e2 : ((d * e : Int) : Rat) = (d : Rat) * e := by simp
  rw [e1, e2]
  unfold vf
  grind
theorem vf_inj {f g : Int × Int} (hf : Fr f.1 f.2) (hg : Fr g.1 g.2) (e : vf f = vf g) : f = g := by
  have h2 := ne_cast (show f.2 ≠ 0 by have := hf.pos; omega)
  have h3 := ne_cast (show g.2 ≠ 0 by have := hg.pos; omega)
  unfold vf at e
  have e1 : (f.1 : Rat) * g.2 = (g.1 : Rat) * f.2 := by grind
  have e2 : f.1 * g.2 = g.1 * f.2 := cast_eq (by simpa using e1)
  obtain ⟨a, b⟩ := fr_eq hf hg e2
  exact Prod.ext a b
theorem vf_zero {f : Int × Int} (hf : Fr f.1 f.2) : vf f = 0 ↔ f.1 = 0 := by
  have h2 := ne_cast (show f.2 ≠ 0 by have := hf.pos; omega)
  unfold vf
  constructor
  · intro e
    have e1 : (f.1 : Rat) = ((0 : Int) : Rat) := by
      have : ((0 : Int) : Rat) = 0 := rfl
      rw [this]
      grind
    exact cast_eq e1
  · intro e
    rw [e]
    have : ((0 : Int) : Rat) = 0 := rfl
    rw [this]
    grind
theorem vf_neg (n d : Int) : vf (-n, d) = - vf (n, d) := by
  unfold vf
  have : ((-n : Int) : Rat) = - (n : Rat) := by simp
  show ((-n : Int) : Rat) / (d : Rat) = _
  rw [this]
  grind
/-! a FRACTION of a size -/
structure Sz (a b : Nat) (f : Int × Int) : Prop where
  fr : Fr f.1 f.2
  n : f.1.natAbs < 2 ^ a
  d : f.2.natAbs < 2 ^ b
theorem p2 {a b : Nat} (h : a ≤ b) : (2 : Nat) ^ a ≤ 2 ^ b := Nat.pow_le_pow_right (by decide) h
theorem Sz.nd {a b : Nat} {f : Int × Int} (h : Sz a b f) : f.2 ≠ 0 := by
  have := h.fr.pos
  omega
theorem Sz.mono {a b a' b' : Nat} {f : Int × Int} (h : Sz a b f) (ha : a ≤ a') (hb : b ≤ b') : Sz a' b' f := ⟨h.fr, Nat.lt_of_lt_of_le h.n (p2 ha), Nat.lt_of_lt_of_le h.d (p2 hb)⟩
theorem Sz.bn {a b : Nat} {f : Int × Int} (h : Sz a b f) (ha : a ≤ 3000) : Bg f.1 := Nat.lt_of_lt_of_le h.n (p2 ha)
theorem Sz.bd {a b : Nat} {f : Int × Int} (h : Sz a b f) (hb : b ≤ 3000) : Bg f.2 := Nat.lt_of_lt_of_le h.d (p2 hb)
theorem Sz.mul {a b a' b' : Nat} {f g : Int × Int} (h : Sz a b f) (k : Sz a' b' g) : Sz (a + a') (b + b') (mulF f.1 f.2 g.1 g.2) := by
  have hd := Int.mul_ne_zero h.nd k.nd
  obtain ⟨l1, l2⟩ := redI_le (x := f.1 * g.1) hd
  exact ⟨(redI_fr hd).1, Nat.lt_of_le_of_lt l1 (natAbs_lt_mul h.n k.n), Nat.lt_of_le_of_lt l2 (natAbs_lt_mul h.d k.d)⟩
theorem Sz.add {a b a' b' c : Nat} {f g : Int × Int} (h : Sz a b f) (k : Sz a' b' g) (h1 : a + b' + 1 ≤ c) (h2 : a' + b + 1 ≤ c) : Sz c (b + b') (addF f.1 f.2 g.1 g.2) := by
  have hd := Int.mul_ne_zero h.nd k.nd
  obtain ⟨l1, l2⟩ := redI_le (x := f.1 * g.2 + g.1 * f.2) hd
  refine ⟨(redI_fr hd).1, Nat.lt_of_le_of_lt l1 ?_, Nat.lt_of_le_of_lt l2 (natAbs_lt_mul h.d k.d)⟩
  have e : c = (c - 1) + 1 := by omega
  rw [e]
  exact natAbs_lt_add (Nat.lt_of_lt_of_le (natAbs_lt_mul h.n k.d) (p2 (by omega))) (Nat.lt_of_lt_of_le (natAbs_lt_mul k.n h.d) (p2 (by omega)))
theorem Sz.neg {a b : Nat} {n d : Int} (h : Sz a b (n, d)) : Sz a b (-n, d) := ⟨h.fr.neg, by show (-n).natAbs < _; rw [Int.natAbs_neg]; exact h.n, h.d⟩
theorem sz_zero : Sz 0 1 (0, 1) := ⟨⟨by decide, gI_cp.mp (by decide)⟩, by decide, by decide⟩
theorem sz_one : Sz 1 1 (1, 1) := ⟨⟨by decide, gI_cp.mp (by decide)⟩, by decide, by decide⟩
theorem sum_sz {a b : Nat} : ∀ (fs : List (Int × Int)) (i : Nat), (∀ f ∈ fs, Sz a b f) → i ≤ fs.length → Sz (a + i * (b + 1) + 1) (1 + i * b) (sumF (fs.take i)) ∧ vf (sumF (fs.take i)) = ((fs.take i).map vf).sum
  | fs, 0, _, _ => by
    refine ⟨sz_zero.mono (by omega) (by omega), ?_⟩
    show vf (0, 1) = 0
    unfold vf
    have : ((0 : Int) : Rat) = 0 := rfl
    show ((0 : Int) : Rat) / ((1 : Int) : Rat) = 0
    rw [this]
    grind
  | fs, i + 1, h, hi => by
    have hlt : i < fs.length := hi
    have e : fs.take (i + 1) = fs.take i ++ [fs[i]] := by
      rw [List.take_add_one, List.getElem?_eq_getElem hlt]
      rfl
    obtain ⟨h1, h2⟩ := sum_sz fs i h (by omega)
    have h3 := h fs[i] (List.getElem_mem hlt)
    rw [e, sumF_snoc]
    have e2 : (i + 1) * (b + 1) = i * (b + 1) + (b + 1) := Nat.succ_mul _ _
    have e3 : (i + 1) * b = i * b + b := Nat.succ_mul _ _
    have e4 : i * (b + 1) = i * b + i := Nat.mul_succ _ _
    refine ⟨(h1.add h3 (c := a + (i + 1) * (b + 1) + 1) (by omega) (by omega)).mono (Nat.le_refl _) (by omega), ?_⟩
    rw [vf_add h1.nd h3.nd, List.map_append, List.sum_append, ← h2, List.map_cons, List.map_nil, List.sum_cons, List.sum_nil]
    show vf (sumF (fs.take i)) + vf fs[i] = _
    grind
theorem vf_sub {n d m e : Int} (hd : d ≠ 0) (he : e ≠ 0) : vf (subF n d m e) = vf (n, d) - vf (m, e) := by
  unfold subF
  rw [vf_red (Int.mul_ne_zero hd he)]
  have h2 := ne_cast hd
  have h3 := ne_cast he
  have e1 : ((n * e - m * d : Int) : Rat) = (n : Rat) * e - (m : Rat) * d := by simp
  have e2 : ((d * e : Int) : Rat) = (d : Rat) * e := by simp
  rw [e1, e2]
  unfold vf
  grind
theorem vf_div {n d m e : Int} (hd : d ≠ 0) (he : e ≠ 0) (hm : m ≠ 0) : vf (divF n d m e) = vf (n, d) / vf (m, e) := by
  unfold divF
  rw [vf_red (Int.mul_ne_zero hd hm)]
  have h2 := ne_cast hd
  have h3 := ne_cast he
  have h4 := ne_cast hm
  have e1 : ((n * e : Int) : Rat) = (n : Rat) * e := by simp
  have e2 : ((d * m : Int) : Rat) = (d : Rat) * m := by simp
  rw [e1, e2]
  unfold vf
  grind
theorem Sz.div {a b a' b' : Nat} {f g : Int × Int} (h : Sz a b f) (k : Sz a' b' g) (hg : g.1 ≠ 0) : Sz (a + b') (b + a') (divF f.1 f.2 g.1 g.2) := by
  have hd := Int.mul_ne_zero h.nd hg
  obtain ⟨l1, l2⟩ := redI_le (x := f.1 * g.2) hd
  exact ⟨(redI_fr hd).1, Nat.lt_of_le_of_lt l1 (natAbs_lt_mul h.n k.d), Nat.lt_of_le_of_lt l2 (natAbs_lt_mul h.d k.n)⟩
theorem Sz.sub {a b a' b' c : Nat} {f g : Int × Int} (h : Sz a b f) (k : Sz a' b' g) (h1 : a + b' + 1 ≤ c) (h2 : a' + b + 1 ≤ c) : Sz c (b + b') (subF f.1 f.2 g.1 g.2) := by
  have := h.add (g := (-g.1, g.2)) (k.neg) h1 h2
  have e : addF f.1 f.2 (-g.1) g.2 = subF f.1 f.2 g.1 g.2 := subF_add _ _ _ _
  rw [← e]
  exact this
theorem Sz.okf {a b : Nat} {f : Int × Int} (h : Sz a b f) (ha : a ≤ 3000) (hb : b ≤ 3000) : OkF f := ⟨h.fr, h.bn ha, h.bd hb⟩
/-- above nought -/
theorem red_pos {x y : Int} (hx : 0 < x) (hy : 0 < y) : 0 < (redI x y).1 := by
  obtain ⟨f, e⟩ := redI_fr (x := x) (show y ≠ 0 by omega)
  have h1 : 0 < x * (redI x y).2 := Int.mul_pos hx f.pos
  rw [← e] at h1
  rcases Int.lt_or_le 0 (redI x y).1 with z | z
  · exact z
  · have := Int.mul_nonneg (show 0 ≤ -(redI x y).1 by omega) (Int.le_of_lt hy)
    rw [Int.neg_mul] at this
    omega
theorem red_nn {x y : Int} (hx : 0 ≤ x) (hy : 0 < y) : 0 ≤ (redI x y).1 := by
  obtain ⟨f, e⟩ := redI_fr (x := x) (show y ≠ 0 by omega)
  have h1 : 0 ≤ x * (redI x y).2 := Int.mul_nonneg hx (Int.le_of_lt f.pos)
  rw [← e] at h1
  rcases Int.lt_or_le (redI x y).1 0 with z | z
  · have := Int.mul_pos (show 0 < -(redI x y).1 by omega) hy
    rw [Int.neg_mul] at this
    omega
  · exact z
theorem mul_pos' {f g : Int × Int} (hf : 0 < f.1) (hg : 0 < g.1) (pf : 0 < f.2) (pg : 0 < g.2) : 0 < (mulF f.1 f.2 g.1 g.2).1 := red_pos (Int.mul_pos hf hg) (Int.mul_pos pf pg)
theorem add_pos' {f g : Int × Int} (hf : 0 < f.1) (hg : 0 ≤ g.1) (pf : 0 < f.2) (pg : 0 < g.2) : 0 < (addF f.1 f.2 g.1 g.2).1 := by
  have h1 := Int.mul_pos hf pg
  have h2 := Int.mul_nonneg hg (Int.le_of_lt pf)
  exact red_pos (by omega) (Int.mul_pos pf pg)
theorem rest_pos {f : Int × Int} (h : f.1 < f.2) (p : 0 < f.2) : 0 < (subF 1 1 f.1 f.2).1 := red_pos (by omega) (by omega)
/-- the greater one of two -/
def maxF (x y : Int × Int) : Int × Int := if x.1 * y.2 < y.1 * x.2 then y else x
theorem max_of {x y f : Int × Int} (hx : Fr x.1 x.2) (hy : Fr y.1 y.2) (hf : f ∈ [x, y]) (hm : ∀ g ∈ [x, y], LeF g f) : f = maxF x y := by
  have h1 := hm x (by simp)
  have h2 := hm y (by simp)
  unfold maxF
  by_cases c : x.1 * y.2 < y.1 * x.2
  · rw [if_pos c]
    rcases List.mem_cons.mp hf with rfl | hf
    · unfold LeF at h2
      omega
    · exact List.mem_singleton.mp hf
  · rw [if_neg c]
    rcases List.mem_cons.mp hf with rfl | hf
    · rfl
    · have e := List.mem_singleton.mp hf
      subst e
      exact leF_anti hy hx (by unfold LeF; omega) h1
theorem maxF_or (x y : Int × Int) : maxF x y = x ∨ maxF x y = y := by
  unfold maxF
  split
  · exact .inr rfl
  · exact .inl rfl
theorem Sz.max {a b : Nat} {f g : Int × Int} (h : Sz a b f) (k : Sz a b g) : Sz a b (maxF f g) := by
  rcases maxF_or f g with e | e
  · rw [e]; exact h
  · rw [e]; exact k
theorem mulF_comm (n d m e : Int) : mulF n d m e = mulF m e n d := by
  unfold mulF
  rw [Int.mul_comm n m, Int.mul_comm d e]
/-- times and by, in either order -/
theorem div_mul {b x y : Int × Int} (hb : Fr b.1 b.2) (hx : Fr x.1 x.2) (hy : Fr y.1 y.2) (y0 : y.1 ≠ 0) : divF (mulF b.1 b.2 x.1 x.2).1 (mulF b.1 b.2 x.1 x.2).2 y.1 y.2 = mulF b.1 b.2 (divF x.1 x.2 y.1 y.2).1 (divF x.1 x.2 y.1 y.2).2 := by
  have nb : b.2 ≠ 0 := by have := hb.pos; omega
  have nx : x.2 ≠ 0 := by have := hx.pos; omega
  have ny : y.2 ≠ 0 := by have := hy.pos; omega
  have f1 := (redI_fr (x := b.1 * x.1) (Int.mul_ne_zero nb nx)).1
  have f2 := (redI_fr (x := x.1 * y.2) (Int.mul_ne_zero nx y0)).1
  have n1 : (mulF b.1 b.2 x.1 x.2).2 ≠ 0 := by have := f1.pos; unfold mulF; omega
  have n2 : (divF x.1 x.2 y.1 y.2).2 ≠ 0 := by have := f2.pos; unfold divF; omega
  refine vf_inj (redI_fr (Int.mul_ne_zero n1 y0)).1 (redI_fr (Int.mul_ne_zero nb n2)).1 ?_
  rw [vf_div n1 ny y0, vf_mul nb n2]
  show vf (mulF b.1 b.2 x.1 x.2) / vf (y.1, y.2) = vf (b.1, b.2) * vf (divF x.1 x.2 y.1 y.2)
  rw [vf_mul nb nx, vf_div nx ny y0]
  have : vf (y.1, y.2) ≠ 0 := fun z => y0 ((vf_zero hy).mp z)
  grind
end K33
namespace K33
open PySem PySem.Spec PyProof.Rows L2 Sw MC
/-! FRACTIONS as rational numbers -/
def rF (q : Rat) : Int × Int := (q.num, (q.den : Int))
theorem rF_fr (q : Rat) : Fr (rF q).1 (rF q).2 := ⟨by show (0 : Int) < (q.den : Int); have := q.den_pos; omega, by
  have h := q.reduced
  refine gI_cp.mp ?_
  unfold gI rF
  show ((Nat.gcd q.num.natAbs ((q.den : Int)).natAbs : Nat) : Int) = 1
  rw [Int.natAbs_natCast, h]
  rfl⟩
theorem vf_rF (q : Rat) : vf (rF q) = q := by
  show (q.num : Rat) / (((q.den : Int)) : Rat) = q
  rw [← Rat.divInt_eq_div]
  exact Rat.num_divInt_den q
theorem rF_vf {f : Int × Int} (h : Fr f.1 f.2) : rF (vf f) = f := vf_inj (rF_fr _) h (vf_rF _)
theorem rF_ne (q : Rat) : (rF q).2 ≠ 0 := by
  have := (rF_fr q).pos
  omega
theorem rF_inj {p q : Rat} (h : rF p = rF q) : p = q := by rw [← vf_rF p, ← vf_rF q, h]
theorem rF_add (p q : Rat) : addF (rF p).1 (rF p).2 (rF q).1 (rF q).2 = rF (p + q) := by
  have e : vf (addF (rF p).1 (rF p).2 (rF q).1 (rF q).2) = p + q := by
    rw [vf_add (rF_ne p) (rF_ne q)]
    show vf (rF p) + vf (rF q) = _
    rw [vf_rF, vf_rF]
  rw [← e]
  exact (rF_vf (redI_fr (Int.mul_ne_zero (rF_ne p) (rF_ne q))).1).symm
theorem rF_sub (p q : Rat) : subF (rF p).1 (rF p).2 (rF q).1 (rF q).2 = rF (p - q) := by
  have e : vf (subF (rF p).1 (rF p).2 (rF q).1 (rF q).2) = p - q := by
    rw [vf_sub (rF_ne p) (rF_ne q)]
    show vf (rF p) - vf (rF q) = _
    rw [vf_rF, vf_rF]
  rw [← e]
  exact (rF_vf (redI_fr (Int.mul_ne_zero (rF_ne p) (rF_ne q))).1).symm
theorem rF_mul (p q : Rat) : mulF (rF p).1 (rF p).2 (rF q).1 (rF q).2 = rF (p * q) := by
  have e : vf (mulF (rF p).1 (rF p).2 (rF q).1 (rF q).2) = p * q := by
    rw [vf_mul (rF_ne p) (rF_ne q)]
    show vf (rF p) * vf (rF q) = _
    rw [vf_rF, vf_rF]
  rw [← e]
  exact (rF_vf (redI_fr (Int.mul_ne_zero (rF_ne p) (rF_ne q))).1).symm
theorem rF_zero {q : Rat} : (rF q).1 = 0 ↔ q = 0 := by
  rw [← vf_zero (rF_fr q), vf_rF]
theorem rF_div (p : Rat) {q : Rat} (h : q ≠ 0) : divF (rF p).1 (rF p).2 (rF q).1 (rF q).2 = rF (p / q) := by
  have h0 : (rF q).1 ≠ 0 := fun z => h (rF_zero.mp z)
  have e : vf (divF (rF p).1 (rF p).2 (rF q).1 (rF q).2) = p / q := by
    rw [vf_div (rF_ne p) (rF_ne q) h0]
    show vf (rF p) / vf (rF q) = _
    rw [vf_rF, vf_rF]
  rw [← e]
  exact (rF_vf (redI_fr (Int.mul_ne_zero (rF_ne p) h0)).1).symm
theorem rF_lt {p q : Rat} : (rF p).1 * (rF q).2 < (rF q).1 * (rF p).2 ↔ p < q := by
  have dp := (rF_fr p).pos
  have dq := (rF_fr q).pos
  have e1 : p * ((rF p).2 : Rat) = ((rF p).1 : Rat) := by
    have := vf_rF p
    unfold vf at this
    have := ne_cast (rF_ne p)
    grind
  have e2 : q * ((rF q).2 : Rat) = ((rF q).1 : Rat) := by
    have := vf_rF q
    unfold vf at this
    have := ne_cast (rF_ne q)
    grind
  have c1 : (((rF p).1 * (rF q).2 : Int) : Rat) = p * (((rF p).2 : Rat) * ((rF q).2 : Rat)) := by
    have : (((rF p).1 * (rF q).2 : Int) : Rat) = ((rF p).1 : Rat) * ((rF q).2 : Rat) := by simp
    rw [this, ← e1]
    grind
  have c2 : (((rF q).1 * (rF p).2 : Int) : Rat) = q * (((rF p).2 : Rat) * ((rF q).2 : Rat)) := by
    have : (((rF q).1 * (rF p).2 : Int) : Rat) = ((rF q).1 : Rat) * ((rF p).2 : Rat) := by simp
    rw [this, ← e2]
    grind
  have k1 : (0 : Rat) < ((rF p).2 : Rat) := by exact_mod_cast dp
  have k2 : (0 : Rat) < ((rF q).2 : Rat) := by exact_mod_cast dq
  have kp := Rat.mul_pos k1 k2
  have step : (rF p).1 * (rF q).2 < (rF q).1 * (rF p).2 ↔ p * (((rF p).2 : Rat) * ((rF q).2 : Rat)) < q * (((rF p).2 : Rat) * ((rF q).2 : Rat)) := by
    rw [← c1, ← c2]
    exact Rat.intCast_lt_intCast.symm
  rw [step]
  generalize ((rF p).2 : Rat) * ((rF q).2 : Rat) = M at *
  constructor
  · intro h
    rcases Rat.le_total (a := q) (b := p) with z | z
    · have := mul_mono z (show 0 ≤ M by grind)
      grind
    · grind
  · intro h
    have := mul_smono h kp
    grind
/-! sizes -/
def Rb (a b : Nat) (q : Rat) : Prop := Sz a b (rF q)
theorem Rb.mono {a b a' b' : Nat} {q : Rat} (h : Rb a b q) (ha : a ≤ a') (hb : b ≤ b') : Rb a' b' q := Sz.mono h ha hb
theorem Rb.add {a b a' b' c : Nat} {p q : Rat} (h : Rb a b p) (k : Rb a' b' q) (h1 : a + b' + 1 ≤ c) (h2 : a' + b + 1 ≤ c) : Rb c (b + b') (p + q) := by
  unfold Rb
  rw [← rF_add]
  exact Sz.add h k h1 h2
theorem Rb.sub {a b a' b' c : Nat} {p q : Rat} (h : Rb a b p) (k : Rb a' b' q) (h1 : a + b' + 1 ≤ c) (h2 : a' + b + 1 ≤ c) : Rb c (b + b') (p - q) := by
  unfold Rb
  rw [← rF_sub]
  exact Sz.sub h k h1 h2
theorem Rb.mul {a b a' b' : Nat} {p q : Rat} (h : Rb a b p) (k : Rb a' b' q) : Rb (a + a') (b + b') (p * q) := by
  unfold Rb
  rw [← rF_mul]
  exact Sz.mul h k
theorem Rb.div {a b a' b' : Nat} {p q : Rat} (h : Rb a b p) (k : Rb a' b' q) (hq : q ≠ 0) : Rb (a + b') (b + a') (p / q) := by
  unfold Rb
  rw [← rF_div p hq]
  exact Sz.div h k fun z => hq (rF_zero.mp z)
theorem Rb.of {a b : Nat} {q : Rat} {N D : Int} (hD : D ≠ 0) (e : q * (D : Rat) = (N : Rat)) (hN : N.natAbs < 2 ^ a) (hd : D.natAbs < 2 ^ b) : Rb a b q := by
  have e1 : vf (redI N D) = q := by
    rw [vf_red hD, ← e]
    have := ne_cast hD
    grind
  have e2 : rF q = redI N D := by rw [← e1]; exact rF_vf (redI_fr hD).1
  obtain ⟨l1, l2⟩ := redI_le (x := N) hD
  unfold Rb
  rw [e2]
  exact ⟨(redI_fr hD).1, Nat.lt_of_le_of_lt l1 hN, Nat.lt_of_le_of_lt l2 hd⟩
abbrev Bq (q : Rat) : Prop := Rb 3000 3000 q
theorem Rb.bq {a b : Nat} {q : Rat} (h : Rb a b q) (ha : a ≤ 3000) (hb : b ≤ 3000) : Bq q := h.mono ha hb
theorem rb_zero : Rb 1 1 0 := by
  refine Rb.of (N := 0) (D := 1) (by decide) ?_ (by decide) (by decide)
  have : ((0 : Int) : Rat) = 0 := rfl
  rw [this]
  grind
theorem rb_one : Rb 1 1 1 := by
  refine Rb.of (N := 1) (D := 1) (by decide) ?_ (by decide) (by decide)
  have : ((1 : Int) : Rat) = 1 := rfl
  rw [this]
  grind
/-! in the heap -/
abbrev Ql (K : PySem.W.Frag) (H : Hp) (v : V) (q : Rat) : Prop := Cpl K H v (rF q).1 (rF q).2
def frD (q : Rat) : PyData := .tuple [.int (rF q).1, .int (rF q).2]
abbrev mT : Addr → Prop := fun _ => True
theorem Ql.dt {K : PySem.W.Frag} {mu : Addr → Prop} {H : Hp} {v : V} {q : Rat} (h : Ql K H v q) : Dt K mu H v (frD q) := Cpl.dt h
theorem dt_ql {K : PySem.W.Frag} {mu : Addr → Prop} {H : Hp} {v : V} {q : Rat} (h : Dt K mu H v (frD q)) : Ql K H v q := Dt.cpl h
def spQ2 (K : PySem.W.Frag) (f : Rat → Rat → Rat) : Sp := fun vs H Q _ => ∃ (x y : V) (p q : Rat), vs = [x, y] ∧ Ql K H x p ∧ Ql K H y q ∧ Bq p ∧ Bq q ∧ ∀ v H', Same H H' → Ql K H' v (f p q) → Q v H'
def spQd (K : PySem.W.Frag) : Sp := fun vs H Q _ => ∃ (x y : V) (p q : Rat), vs = [x, y] ∧ Ql K H x p ∧ Ql K H y q ∧ Bq p ∧ Bq q ∧ q ≠ 0 ∧ ∀ v H', Same H H' → Ql K H' v (p / q) → Q v H'
def spQc (K : PySem.W.Frag) : Sp := fun vs H Q _ => ∃ (x y : V) (p q : Rat), vs = [x, y] ∧ Ql K H x p ∧ Ql K H y q ∧ Bq p ∧ Bq q ∧ ∀ H' c, Same H H' → (c < 0 ↔ p < q) → (c > 0 ↔ q < p) → Q (.int c) H'
def spQb (K : PySem.W.Frag) : Sp := fun vs H Q _ => ∃ (x y : V) (p q : Rat), vs = [x, y] ∧ Ql K H x p ∧ Ql K H y q ∧ Bq p ∧ Bq q ∧ ∀ H', Same H H' → Q (.bl (decide (p < q))) H'
section
variable {P : Program} {w : World} {K : PySem.W.Frag} {mg : Str → Option Value} {base : Heap} {k : Nat} {x : Str} {sp sp' : Sp}
theorem FnG.imp {f : Addr} {fd : FuncData} {ps : List Str} (F : FnG P w K mg base k f fd ps sp) (h : ∀ vs H Q E, sp' vs H Q E → sp vs H Q E) : FnG P w K mg base k f fd ps sp' :=
  ⟨fun vs H Q E z => F.len vs H Q E (h vs H Q E z), fun g hr e0 hb hv z => F.go g hr e0 hb hv (h _ _ _ _ z)⟩
theorem CalG.imp (c : CalG P w K mg base k x sp) (h : ∀ vs H Q E, sp' vs H Q E → sp vs H Q E) : CalG P w K mg base k x sp' := by
  obtain ⟨f, fd, ps, F, r⟩ := c.ex
  exact ⟨f, fd, ps, FnG.imp F h, r⟩
theorem bg_of {q : Rat} (h : Bq q) : Bg (rF q).1 ∧ Bg (rF q).2 := ⟨h.n, h.d⟩
theorem two_q {r : Int → Int → Int → Int → Int × Int} {f : Rat → Rat → Rat} (e : ∀ p q, r (rF p).1 (rF p).2 (rF q).1 (rF q).2 = rF (f p q)) : ∀ vs H Q E, spQ2 K f vs H Q E → spTwo K r vs H Q E := fun vs H Q E z => by
  obtain ⟨x, y, p, q, rfl, h1, h2, b1, b2, k⟩ := z
  refine ⟨x, y, _, _, _, _, rfl, h1, h2, rF_fr p, rF_fr q, b1.n, b1.d, b2.n, b2.d, fun a H' s n h => k _ _ s ?_⟩
  rw [e] at h
  exact .mk h
theorem div_q : ∀ vs H Q E, spQd K vs H Q E → spDiv K vs H Q E := fun vs H Q E z => by
  obtain ⟨x, y, p, q, rfl, h1, h2, b1, b2, hq, k⟩ := z
  refine ⟨x, y, _, _, _, _, rfl, h1, h2, rF_fr p, rF_fr q, b1.n, b1.d, b2.n, b2.d, fun z => hq (rF_zero.mp z), fun a H' s n h => k _ _ s ?_⟩
  rw [rF_div p hq] at h
  exact .mk h
theorem cmp_q : ∀ vs H Q E, spQc K vs H Q E → spCmp K vs H Q E := fun vs H Q E z => by
  obtain ⟨x, y, p, q, rfl, h1, h2, b1, b2, k⟩ := z
  refine ⟨x, y, _, _, _, _, rfl, h1, h2, b1.n, b1.d, b2.n, b2.d, (rF_fr p).pos, (rF_fr q).pos, fun H' s => k H' _ s ?_ ?_⟩
  · rw [cmp_neg]
    unfold LeF
    rw [← rF_lt]
    omega
  · rw [cmp_pos]
    unfold LeF
    rw [← rF_lt]
    omega
theorem below_q : ∀ vs H Q E, spQb K vs H Q E → spBelow K vs H Q E := fun vs H Q E z => by
  obtain ⟨x, y, p, q, rfl, h1, h2, b1, b2, k⟩ := z
  refine ⟨x, y, _, _, _, _, rfl, h1, h2, b1.n, b1.d, b2.n, b2.d, ?_⟩
  rw [show decide ((rF p).1 * (rF q).2 < (rF q).1 * (rF p).2) = decide (p < q) from decide_eq_decide.mpr rF_lt]
  exact k H (.refl H)
end
end K33
/-! list(zip(x, y)) of two lists -/
namespace PySem
open Sem (wp)
/-- the first pair that the zip has given is still held -/
abbrev IsZipO (h : Heap) (z TI TO T : Addr) (fb : Bool) : Prop :=
  h.get? z = some { cls := .type "zip", dict := none, data := .fields #[rawInt T, .bool fb, .bool false, .ref TI, .ref TO], slots := #[] }
section
variable {prog : Program} {w : World} {A : Around} {E : Value → Shared → Prop} {s : Shared}
theorem wpAny_alive {M : Model} {a : Addr} {Q : Option Obj → Shared → Prop} (h : Q (s.heap.get? a) s) : wpAny M A (loadIfAlive a) Q E s := fun _ _ _ => h
theorem zip_owned {M : Model} {z TI TO T : Addr} {fb : Bool} {Q : Bool → Shared → Prop} (hz : IsZipO s.heap z TI TO T fb) (hT : ∃ o, s.heap.get? T = some o)
    (h : ∀ h', IsZipO h' z TI TO T true → Heap.SameBut z s.heap h' → Q false { s with heap := h' }) : wpAny (model prog w) A (Builtin.SmallTypes.ownedTupleIsFree (.ref z)) Q E s := by
  obtain ⟨o, ho⟩ := hT
  unfold Builtin.SmallTypes.ownedTupleIsFree
  refine wpAny_bind (wpAny_field hz rfl (x := rawInt T) rfl ?_)
  refine wpAny_bind (wpAny_alive ?_)
  have e : s.heap.get? ((T : Int)).toNat = some o := by rw [Int.toNat_natCast]; exact ho
  rw [e]
  show wpAny _ _ (field (.ref z) 1 >>= _) _ _ _
  refine wpAny_bind (wpAny_field hz rfl (x := .bool fb) rfl ?_)
  cases fb with
  | true =>
    show wpAny _ _ (pure false) _ _ _
    exact wpAny_pure (h s.heap hz (.refl _ _))
  | false =>
    show wpAny _ _ (setField (.ref z) 1 (.bool true) >>= _) _ _ _
    exact wpAny_bind (wpAny_setField_rec hz (by simp) fun h' hz' hs' => wpAny_pure (h h' hz' hs'))
theorem zip_next_item2 {z TI TO T i1 i2 l1 l2 : Addr} {fb : Bool} {k1 k2 : Nat} {xs ys : Array Value} {x y : Value} {Q : Value → Shared → Prop} (D : ZipApart z TI TO i1 i2 l1 l2)
    (hz : IsZipO s.heap z TI TO T fb) (hT : ∃ o, s.heap.get? T = some o) (hTI : IsPair s.heap TI (.ref i1) (.ref i2))
    (h1 : s.heap.IsListIter i1 l1 k1) (h2 : s.heap.IsListIter i2 l2 k2) (hl1 : s.heap.IsList l1 xs) (hl2 : s.heap.IsList l2 ys) (hx : xs[k1]? = some x) (hy : ys[k2]? = some y)
    (hQ : ∀ h', IsZipO h' z TI TO T true → h'.IsListIter i1 l1 (k1 + 1) → h'.IsListIter i2 l2 (k2 + 1) → IsPair h' s.heap.objs.size x y → h'.objs.size = s.heap.objs.size + 1 →
      (∀ c o, c ≠ z → c ≠ i1 → c ≠ i2 → s.heap.get? c = some o → h'.get? c = some o) → Q (.ref s.heap.objs.size) { s with heap := h' }) :
    wpAny (model prog w) A (Builtin.«zip.__next__» ⟨[.ref z], []⟩) (fun fin s' => ∃ v, fin = .done (.ret v) ∧ Q v s') E s := by
  show wpAny _ _ (field (.ref z) 2 >>= _) _ _ _
  refine wpAny_bind (wpAny_field hz rfl (x := .bool false) rfl ?_)
  show wpAny _ _ (field (.ref z) 3 >>= _) _ _ _
  refine wpAny_bind (wpAny_field hz rfl (x := .ref TI) rfl ?_)
  refine wpAny_bind (wpAny_seqItems hTI rfl ?_)
  show wpAny _ _ (Builtin.SmallTypes.ownedTupleIsFree (.ref z) >>= _) _ _ _
  refine wpAny_bind (zip_owned (M := model prog w) hz hT fun h₁ hz₁ hs₁ => ?_)
  simp only [Bool.false_eq_true, if_false]
  refine wpAny_bind ?_
  rw [← Array.forIn_toList]
  simp only [List.forIn_cons, List.forIn_nil]
  refine wpAny_bind (wpAny_bind (wpAny_holding ?_))
  show wpAny _ _ (Builtin.SmallTypes.nextOf (.ref i1) >>= _) _ _ _
  refine wpAny_bind (wpAny_nextOf_list_item (h1.extBut hs₁.extBut D.i1z) (hl1.extBut hs₁.extBut D.l1z) hx fun h₂ h1₂ hs₂ => wpAny_pure ?_)
  refine wpAny_pure ?_
  refine wpAny_bind (wpAny_bind (wpAny_holding ?_))
  show wpAny _ _ (Builtin.SmallTypes.nextOf (.ref i2) >>= _) _ _ _
  refine wpAny_bind (wpAny_nextOf_list_item ((h2.extBut hs₁.extBut D.i2z).extBut hs₂.extBut D.i12.symm) ((hl2.extBut hs₁.extBut D.l2z).extBut hs₂.extBut D.l2i1) hy fun h₃ h2₃ hs₃ => wpAny_pure ?_)
  refine wpAny_pure (wpAny_pure ?_)
  have hsz : h₃.objs.size = s.heap.objs.size := by rw [hs₃.1, hs₂.1, hs₁.1]
  have hz₃ : IsZipO h₃ z TI TO T true := hs₃.extBut _ _ D.i2z.symm (hs₂.extBut _ _ D.i1z.symm hz₁)
  have h1₃ : h₃.IsListIter i1 l1 (k1 + 1) := h1₂.extBut hs₃.extBut D.i12
  have hk : ∀ c o, c ≠ z → c ≠ i1 → c ≠ i2 → s.heap.get? c = some o → h₃.get? c = some o := fun c o c1 c3 c4 e => hs₃.extBut _ _ c4 (hs₂.extBut _ _ c3 (hs₁.extBut _ _ c1 e))
  have gk : ∀ c o, h₃.get? c = some o → (h₃.push { cls := .type "tuple", data := .seq #[x, y] }).get? c = some o := fun c o e => Heap.get?_push_of_some _ e
  refine wpAny_bind (wpAny_newTuple (hsz := by show 2 ≤ sizeLine; decide) ?_)
  refine wpAny_pure ⟨_, rfl, ?_⟩
  show Q (.ref h₃.objs.size) _
  have hT₃ : IsPair (h₃.push { cls := .type "tuple", data := .seq #[x, y] }) h₃.objs.size x y := Heap.get?_push_size _ rfl
  have hz3 : (h₃.push { cls := .type "tuple", data := .seq #[x, y] }).objs.size = h₃.objs.size + 1 := Heap.size_push ..
  rw [hsz] at hT₃ hz3 ⊢
  exact hQ _ (gk _ _ hz₃) (h1₃.at fun o e => gk _ o e) (h2₃.at fun o e => gk _ o e) hT₃ hz3 fun c o c1 c3 c4 e => gk _ _ (hk c o c1 c3 c4 e)
theorem zip_next_end2 {z TI TO T i1 i2 l1 l2 : Addr} {fb : Bool} {k1 k2 : Nat} {xs ys : Array Value} {Q : Fin → Shared → Prop} (hh : A.handled = none) (D : ZipApart z TI TO i1 i2 l1 l2)
    (hz : IsZipO s.heap z TI TO T fb) (hT : ∃ o, s.heap.get? T = some o) (hTI : IsPair s.heap TI (.ref i1) (.ref i2))
    (h1 : s.heap.IsListIter i1 l1 k1) (h2 : s.heap.IsListIter i2 l2 k2) (hl1 : s.heap.IsList l1 xs) (hl2 : s.heap.IsList l2 ys) (hend : xs[k1]? = none ∨ ys[k2]? = none)
    (hE : ∀ h' e, (∀ c o, c ≠ z → c ≠ i1 → c ≠ i2 → s.heap.get? c = some o → h'.get? c = some o) → (∃ o, h'.get? e = some o ∧ o.cls = .type "StopIteration") → E (.ref e) { s with heap := h' }) :
    wpAny (model prog w) A (Builtin.«zip.__next__» ⟨[.ref z], []⟩) Q E s := by
  show wpAny _ _ (field (.ref z) 2 >>= _) _ _ _
  refine wpAny_bind (wpAny_field hz rfl (x := .bool false) rfl ?_)
  show wpAny _ _ (field (.ref z) 3 >>= _) _ _ _
  refine wpAny_bind (wpAny_field hz rfl (x := .ref TI) rfl ?_)
  refine wpAny_bind (wpAny_seqItems hTI rfl ?_)
  show wpAny _ _ (Builtin.SmallTypes.ownedTupleIsFree (.ref z) >>= _) _ _ _
  refine wpAny_bind (zip_owned (M := model prog w) hz hT fun h₁ hz₁ hs₁ => ?_)
  simp only [Bool.false_eq_true, if_false]
  refine wpAny_bind ?_
  rw [← Array.forIn_toList]
  simp only [List.forIn_cons, List.forIn_nil]
  refine wpAny_bind (wpAny_bind (wpAny_holding ?_))
  show wpAny _ _ (Builtin.SmallTypes.nextOf (.ref i1) >>= _) _ _ _
  cases hx : xs[k1]? with
  | none =>
    refine wpAny_bind (wpAny_nextOf_list_end hh (h1.extBut hs₁.extBut D.i1z) (hl1.extBut hs₁.extBut D.l1z) hx fun h₂ e hs₂ he => ?_)
    exact hE h₂ e (fun c o c1 c3 _ x => hs₂ _ _ c3 (hs₁.extBut _ _ c1 x)) he
  | some x =>
    have hy : ys[k2]? = none := by rcases hend with h | h; rw [hx] at h; cases h; exact h
    refine wpAny_bind (wpAny_nextOf_list_item (h1.extBut hs₁.extBut D.i1z) (hl1.extBut hs₁.extBut D.l1z) hx fun h₂ h1₂ hs₂ => wpAny_pure ?_)
    refine wpAny_pure ?_
    refine wpAny_bind (wpAny_bind (wpAny_holding ?_))
    show wpAny _ _ (Builtin.SmallTypes.nextOf (.ref i2) >>= _) _ _ _
    refine wpAny_bind (wpAny_nextOf_list_end hh ((h2.extBut hs₁.extBut D.i2z).extBut hs₂.extBut D.i12.symm) ((hl2.extBut hs₁.extBut D.l2z).extBut hs₂.extBut D.l2i1) hy fun h₄ e hs₄ he => ?_)
    exact hE h₄ e (fun c o c1 c3 c4 x => hs₄ _ _ c4 (hs₂.extBut _ _ c3 (hs₁.extBut _ _ c1 x))) he
theorem pyNext_zip_item2 {z TI TO T i1 i2 l1 l2 : Addr} {fb : Bool} {k1 k2 : Nat} {xs ys : Array Value} {x y : Value} {Q : Option Value → Shared → Prop} (D : ZipApart z TI TO i1 i2 l1 l2)
    (hz : IsZipO s.heap z TI TO T fb) (hT : ∃ o, s.heap.get? T = some o) (hTI : IsPair s.heap TI (.ref i1) (.ref i2))
    (h1 : s.heap.IsListIter i1 l1 k1) (h2 : s.heap.IsListIter i2 l2 k2) (hl1 : s.heap.IsList l1 xs) (hl2 : s.heap.IsList l2 ys) (hx : xs[k1]? = some x) (hy : ys[k2]? = some y)
    (hQ : ∀ h', IsZipO h' z TI TO T true → h'.IsListIter i1 l1 (k1 + 1) → h'.IsListIter i2 l2 (k2 + 1) → IsPair h' s.heap.objs.size x y → h'.objs.size = s.heap.objs.size + 1 →
      (∀ c o, c ≠ z → c ≠ i1 → c ≠ i2 → s.heap.get? c = some o → h'.get? c = some o) → Q (some (.ref s.heap.objs.size)) { s with heap := h' }) :
    wpAny (model prog w) A (pyNext (.ref z)) Q E s := by
  have hTy : s.TypeIs (.ref z) "zip" := ⟨_, hz, rfl⟩
  unfold pyNext
  exact wpAny_bind (wpAny_attempt (wpAny_callSpecial?_slot (name := Str.ofString "__next__") hTy F.slot_zip_next
    (wpAny_call_entry F.slot_zip_next hTy F.entry_zip_next
      (zip_next_item2 D hz hT hTI h1 h2 hl1 hl2 hx hy fun h' a1 a3 a4 a5 a6 a7 => wpAny_pure (hQ h' a1 a3 a4 a5 a6 a7)) (F.args_zip_next_1 _))))
theorem pyNext_zip_end2 {z TI TO T i1 i2 l1 l2 : Addr} {fb : Bool} {k1 k2 : Nat} {xs ys : Array Value} {Q : Option Value → Shared → Prop} (hh : A.handled = none) (D : ZipApart z TI TO i1 i2 l1 l2)
    (hz : IsZipO s.heap z TI TO T fb) (hT : ∃ o, s.heap.get? T = some o) (hTI : IsPair s.heap TI (.ref i1) (.ref i2))
    (h1 : s.heap.IsListIter i1 l1 k1) (h2 : s.heap.IsListIter i2 l2 k2) (hl1 : s.heap.IsList l1 xs) (hl2 : s.heap.IsList l2 ys) (hend : xs[k1]? = none ∨ ys[k2]? = none)
    (hQ : ∀ h', (∀ c o, c ≠ z → c ≠ i1 → c ≠ i2 → s.heap.get? c = some o → h'.get? c = some o) → Q none { s with heap := h' }) : wpAny (model prog w) A (pyNext (.ref z)) Q E s := by
  have hTy : s.TypeIs (.ref z) "zip" := ⟨_, hz, rfl⟩
  unfold pyNext
  refine wpAny_bind (wpAny_attempt (wpAny_callSpecial?_slot (name := Str.ofString "__next__") hTy F.slot_zip_next
    (wpAny_call_entry F.slot_zip_next hTy F.entry_zip_next (zip_next_end2 hh D hz hT hTI h1 h2 hl1 hl2 hend fun h' e hk he => ?_) (F.args_zip_next_1 _))))
  obtain ⟨o, ho, hc⟩ := he
  refine wpAny_bind (wpAny_isInstance (T := "StopIteration") (b := true) ⟨o, ho, hc⟩ isSubtype_stop ?_)
  exact wpAny_pure (hQ _ hk)
end
end PySem
namespace Sw
open PySem PySem.Spec PyProof.Rows L2
/-- a zip of two lists that has been asked i times by list(), its first pair still held -/
structure Zst (z TI TO i1 i2 a b S : Addr) (i : Nat) (h : Heap) : Prop where
  lt : TO < S
  ti : IsPair h TI (.ref i1) (.ref i2)
  l1 : h.IsListIter i1 a i
  l2 : h.IsListIter i2 b i
  st : (i = 0 ∧ IsZip h z TI TO .none ∧ ∃ x y, IsPair h TO x y) ∨ (0 < i ∧ ∃ T fb, IsZipO h z TI TO T fb ∧ (∃ o, h.get? T = some o) ∧ T ≠ S)
theorem Zst.keep {z TI TO i1 i2 a b S : Addr} {i : Nat} {h h' : Heap} (Z : Zst z TI TO i1 i2 a b S i h) (hS : S ∉ [z, TI, TO, i1, i2]) (k : ∀ c o, c ≠ S → h.get? c = some o → h'.get? c = some o) : Zst z TI TO i1 i2 a b S i h' := by
  simp only [List.mem_cons, List.not_mem_nil, or_false, not_or] at hS
  obtain ⟨s1, s2, s3, s4, s5⟩ := hS
  refine ⟨Z.lt, k _ _ (Ne.symm s2) Z.ti, Z.l1.at fun o e => k _ o (Ne.symm s4) e, Z.l2.at fun o e => k _ o (Ne.symm s5) e, ?_⟩
  rcases Z.st with ⟨e, hz, x, y, ho⟩ | ⟨e, T, fb, hz, ⟨o, ho⟩, hT⟩
  · exact .inl ⟨e, k _ _ (Ne.symm s1) hz, x, y, k _ _ (Ne.symm s3) ho⟩
  · exact .inr ⟨e, T, fb, k _ _ (Ne.symm s1) hz, ⟨o, k _ _ hT ho⟩, hT⟩
section
variable {X : Cx} {pins : List (Addr × Obj)} {σ : L2.St} {z TI TO i1 i2 a b S : Addr} {xs ys : List V}
/-- the pairs, in order -/
def Prs (H : Hp) (xs ys : List V) (ps : List Addr) : Prop := ∀ (j : Nat) (T : Addr), ps[j]? = some T → ∃ x y, xs[j]? = some x ∧ ys[j]? = some y ∧ H T = some (.tup [x, y])
theorem zip_turn {A1 : Around} {i : Nat} {H : Hp} {s : Shared} {E : Value → Shared → Prop} {x y : V} (D : ZipApart z TI TO i1 i2 a b) (hS : S ∉ [z, TI, TO, i1, i2]) (hSn : H S ≠ none) (Z : Zst z TI TO i1 i2 a b S i s.heap) (I : Inv X pins σ H s) (hf : ∀ c ∈ [z, TI, TO, i1, i2], FpOk X pins H c)
    (ha : SqL X.K H a xs) (hb : SqL X.K H b ys) (hx : xs[i]? = some x) (hy : ys[i]? = some y) :
    wpAny (model X.prog X.w) A1 (pyNext (.ref z)) (fun r s1 => ∃ T, r = some (.ref T) ∧ H T = none ∧ Inv X pins σ (upd H T (.tup [x, y])) s1 ∧ Zst z TI TO i1 i2 a b S (i + 1) s1.heap ∧ ∀ c ∈ [z, TI, TO, i1, i2], FpOk X pins (upd H T (.tup [x, y])) c) E s := by
  obtain ⟨its, rv, p, _⟩ := I.list ha
  obtain ⟨its2, rv2, p2, _⟩ := I.list hb
  obtain ⟨u, hu, ru⟩ := rv.get hx
  obtain ⟨u2, hu2, ru2⟩ := rv2.get hy
  have fresh : H s.heap.objs.size = none := I.hok.fresh (Nat.le_refl _)
  have ltS : S < s.heap.objs.size := Nat.lt_of_not_le fun e => hSn (I.hok.fresh e)
  have szS : s.heap.objs.size ≠ S := fun e => hSn (by rw [← e]; exact fresh)
  have fin : ∀ h', IsPair h' s.heap.objs.size u u2 → (∀ c o, c ∉ [z, TI, TO, i1, i2] → s.heap.get? c = some o → h'.get? c = some o) → IsPair h' TI (.ref i1) (.ref i2) → h'.IsListIter i1 a (i + 1) → h'.IsListIter i2 b (i + 1) → (∃ T fb, IsZipO h' z TI TO T fb ∧ (∃ o, h'.get? T = some o) ∧ T ≠ S) →
      ∃ T, some (Value.ref s.heap.objs.size) = some (.ref T) ∧ H T = none ∧ Inv X pins σ (upd H T (.tup [x, y])) { s with heap := h' } ∧ Zst z TI TO i1 i2 a b S (i + 1) h' ∧ ∀ c ∈ [z, TI, TO, i1, i2], FpOk X pins (upd H T (.tup [x, y])) c := by
    intro h' hT hk t1 t2 t3 t4
    have new : ObjOk X.prog X.w (upd H s.heap.objs.size (.tup [x, y])) h' s.heap.objs.size (.tup [x, y]) :=
      ⟨by show 2 ≤ sizeLine; decide, [u, u2], .cons ru (.cons ru2 .nil), ⟨_, hT, rfl, _, rfl⟩⟩
    have I1 : Inv X pins σ (upd H s.heap.objs.size (.tup [x, y])) { s with heap := h' } := I.turnedNew (t' := s.toks) (ch := [z, TI, TO, i1, i2]) hk hf (Nat.le_refl _) new
    refine ⟨_, rfl, fresh, I1, ⟨Z.lt, t1, t2, t3, .inr ⟨Nat.succ_pos _, t4⟩⟩, fun c hc => ⟨?_, (hf c hc).2⟩⟩
    have : c ≠ s.heap.objs.size := by
      have lt : c < s.heap.objs.size := by
        have e' : c = z ∨ c = TI ∨ c = TO ∨ c = i1 ∨ c = i2 := by simpa using hc
        rcases e' with q | q | q | q | q
        · rw [q]
          rcases Z.st with ⟨_, hz, _⟩ | ⟨_, _, _, hz, _⟩
          · exact Heap.lt_size hz
          · exact Heap.lt_size hz
        · rw [q]; exact Heap.lt_size Z.ti
        · rw [q]; exact Nat.lt_trans Z.lt ltS
        · rw [q]; obtain ⟨_, e1, _⟩ := Z.l1; exact Heap.lt_size e1
        · rw [q]; obtain ⟨_, e1, _⟩ := Z.l2; exact Heap.lt_size e1
      exact Nat.ne_of_lt lt
    rw [upd_ne this]
    exact (hf c hc).1
  rcases Z.st with ⟨rfl, hz, x0, y0, hTO⟩ | ⟨i0, T, fb, hz, hT, hTS⟩
  · refine wpAny_pyNext_zip_item D hz Z.ti hTO Z.l1 Z.l2 p.isList p2.isList (x := u) (y := u2) (by simpa using hu) (by simpa using hu2) fun h' z' TO' h1' h2' hT hsz hk => ?_
    refine fin h' hT (fun c o hb q => hk c o (fun q' => hb (by simp [q'])) (fun q' => hb (by simp [q'])) (fun q' => hb (by simp [q'])) (fun q' => hb (by simp [q'])) q) (hk _ _ D.TIz D.TITO D.TIi1 D.TIi2 Z.ti) h1' h2' ⟨_, false, z', ⟨_, hT⟩, szS⟩
  · refine pyNext_zip_item2 D hz hT Z.ti Z.l1 Z.l2 p.isList p2.isList (x := u) (y := u2) (by simpa using hu) (by simpa using hu2) fun h' z' h1' h2' hT' hsz hk => ?_
    refine fin h' hT' (fun c o hb q => hk c o (fun q' => hb (by simp [q'])) (fun q' => hb (by simp [q'])) (fun q' => hb (by simp [q'])) q) (hk _ _ D.TIz D.TIi1 D.TIi2 Z.ti) h1' h2' ⟨T, true, z', ?_, hTS⟩
    obtain ⟨o, ho⟩ := hT
    by_cases c1 : T = z
    · rw [c1]; exact ⟨_, z'⟩
    · by_cases c2 : T = i1
      · rw [c2]; obtain ⟨o', e, _⟩ := h1'; exact ⟨o', e⟩
      · by_cases c3 : T = i2
        · rw [c3]; obtain ⟨o', e, _⟩ := h2'; exact ⟨o', e⟩
        · exact ⟨o, hk T o c1 c2 c3 ho⟩
theorem zip_stop {A1 : Around} {i : Nat} {H : Hp} {s : Shared} {E : Value → Shared → Prop} (hh : A1.handled = none) (D : ZipApart z TI TO i1 i2 a b) (Z : Zst z TI TO i1 i2 a b S i s.heap) (I : Inv X pins σ H s) (hf : ∀ c ∈ [z, TI, TO, i1, i2], FpOk X pins H c)
    (ha : SqL X.K H a xs) (hb : SqL X.K H b ys) (hend : xs.length ≤ i ∨ ys.length ≤ i) :
    wpAny (model X.prog X.w) A1 (pyNext (.ref z)) (fun r s1 => r = none ∧ Inv X pins σ H s1) E s := by
  obtain ⟨its, rv, p, _⟩ := I.list ha
  obtain ⟨its2, rv2, p2, _⟩ := I.list hb
  have l1 := rv.length
  have l2 := rv2.length
  have he : its.toArray[i]? = none ∨ its2.toArray[i]? = none := by
    rcases hend with q | q
    · exact .inl (by simp; omega)
    · exact .inr (by simp; omega)
  rcases Z.st with ⟨_, hz, x0, y0, hTO⟩ | ⟨i0, T, fb, hz, hT, hTS⟩
  · exact wpAny_pyNext_zip_end hh D hz Z.ti hTO Z.l1 Z.l2 p.isList p2.isList he fun h' hk => ⟨rfl, I.turnedL (t' := s.toks) (ch := [z, TI, TO, i1, i2]) (fun c o hb q =>
      hk c o (fun q' => hb (by simp [q'])) (fun q' => hb (by simp [q'])) (fun q' => hb (by simp [q'])) (fun q' => hb (by simp [q'])) q) hf⟩
  · exact pyNext_zip_end2 hh D hz hT Z.ti Z.l1 Z.l2 p.isList p2.isList he fun h' hk => ⟨rfl, I.turnedL (t' := s.toks) (ch := [z, TI, TO, i1, i2]) (fun c o hb q =>
      hk c o (fun q' => hb (by simp [q'])) (fun q' => hb (by simp [q'])) (fun q' => hb (by simp [q'])) q) hf⟩
theorem prs_snoc {H H' : Hp} {ps : List Addr} {T : Addr} {x y : V} (h : Prs H xs ys ps) (hk : ∀ (j : Nat) (U : Addr), ps[j]? = some U → ∀ o, H U = some o → H' U = some o) (hx : xs[ps.length]? = some x) (hy : ys[ps.length]? = some y) (hT : H' T = some (.tup [x, y])) : Prs H' xs ys (ps ++ [T]) := fun j U e => by
  by_cases hj : j < ps.length
  · rw [List.getElem?_append_left hj] at e
    obtain ⟨x', y', e1, e2, e3⟩ := h j U e
    exact ⟨x', y', e1, e2, hk j U e _ e3⟩
  · have hj2 := (List.getElem?_eq_some_iff.mp e).1
    rw [List.length_append, List.length_singleton] at hj2
    have : j = ps.length := by omega
    subst this
    rw [List.getElem?_append_right (Nat.le_refl _), Nat.sub_self] at e
    cases e
    exact ⟨x, y, hx, hy, hT⟩
theorem zip_loop {A1 : Around} {H0 : Hp} {Rs : Result → Shared → Prop} (hh : A1.in1.handled = none) (D : ZipApart z TI TO i1 i2 a b) (hS : S ∉ [z, TI, TO, i1, i2]) (ha0 : SqL X.K H0 a xs) (hb0 : SqL X.K H0 b ys) (hS0 : H0 S = none)
    (hdone : ∀ ps H s, Inv X pins σ H s → (∀ c o, H0 c = some o → H c = some o) → H S = some (.lst (ps.map V.ref)) → ps.length = min xs.length ys.length → Prs H xs ys ps → Rs (.ok (.ret .none)) s) :
    ∀ (m : Nat) (ps : List Addr) (H : Hp) (s : Shared), ps.length + m = min xs.length ys.length → Inv X pins σ H s → Zst z TI TO i1 i2 a b S ps.length s.heap → (∀ c ∈ [z, TI, TO, i1, i2], FpOk X pins H c) → (∀ c o, H0 c = some o → H c = some o) → H S = some (.lst (ps.map V.ref)) → Prs H xs ys ps →
      codeAny (model X.prog X.w) A1 (.builtin "list.extend.loop" ⟨[.ref S, .ref z, .none], []⟩) Rs s := by
  intro m
  induction m with
  | zero =>
    intro ps H s hm I Z hf hk hSl hp
    refine codeAny_builtin PySem.F.entry_extend_loop ?_
    rw [Around.under_plainId PySem.F.plain_extend_loop _]
    show wpAny _ A1.in1 (pyNext (.ref z) >>= _) _ _ s
    have sm : Same H0 H := hk
    refine wpAny_bind (wpAny_mono (zip_stop (E := fun _ _ => False) hh D Z I hf (sm.seq ha0) (sm.seq hb0) (by omega)) (fun r s' hr => ?_) fun e s' he => he.elim)
    obtain ⟨rfl, I'⟩ := hr
    exact wpAny_pure (hdone ps H s' I' hk hSl (by omega) hp)
  | succ m ih =>
    intro ps H s hm I Z hf hk hSl hp
    refine codeAny_builtin PySem.F.entry_extend_loop ?_
    rw [Around.under_plainId PySem.F.plain_extend_loop _]
    show wpAny _ A1.in1 (pyNext (.ref z) >>= _) _ _ s
    have sm : Same H0 H := hk
    have hx : ps.length < xs.length := by omega
    have hy : ps.length < ys.length := by omega
    have zl := (I.list (sm.seq ha0)).choose_spec.2.2
    refine wpAny_bind (wpAny_mono (zip_turn (E := fun _ _ => False) D hS (by rw [hSl]; exact fun e => nomatch e) Z I hf (sm.seq ha0) (sm.seq hb0) (List.getElem?_eq_getElem hx) (List.getElem?_eq_getElem hy)) (fun r s' hr => ?_) fun e s' he => he.elim)
    obtain ⟨T, rfl, hT, I', Z', hf'⟩ := hr
    show wpAny _ A1.in1 (updateSeq S (·.push (.ref T)) >>= _) _ _ _
    have TS : S ≠ T := ne_of_none hSl hT
    have hSl' : upd H T (.tup [xs[ps.length], ys[ps.length]]) S = some (.lst (ps.map V.ref)) := by rw [upd_ne TS]; exact hSl
    obtain ⟨z0, its, k, r2, hl, e⟩ := I'.lstM hSl'
    have hpl : (ps.map V.ref).length = ps.length := List.length_map _
    refine wpAny_bind (wpAny_updateSeq e rfl (wpAny_pure ⟨plainId_quiet PySem.F.plain_extend_loop _, ?_⟩) (by rw [List.size_toArray]; omega) (by show (its.toArray.push (.ref T)).size ≤ sizeLine + 1; rw [Array.size_push, List.size_toArray]; omega))
    have I2 := I'.lset (f := (·.push (Value.ref T))) (its' := its ++ [.ref T]) (ys := (ps ++ [T]).map V.ref) (t' := s'.toks) hSl' e (by simp) (by rw [List.map_append]; exact r2.append (.cons rfl .nil)) (by rw [List.length_map, List.length_append, List.length_singleton]; omega)
    refine ih (ps ++ [T]) _ _ (by rw [List.length_append, List.length_singleton]; omega) I2 ?_ (fun c hc => ?_) (fun c o ho => ?_) upd_same (prs_snoc hp (fun j U eU o hU => ?_) (List.getElem?_eq_getElem hx) (List.getElem?_eq_getElem hy) ?_)
    · rw [List.length_append, List.length_singleton]
      exact Z'.keep hS fun c o hc q => (Heap.get?_update_other _ _ (Ne.symm hc)).trans q
    · have cS : c ≠ S := fun q => hS (by rw [← q]; exact hc)
      refine ⟨?_, (hf' c hc).2⟩
      rw [upd_ne cS]
      exact (hf' c hc).1
    · have cS : c ≠ S := fun q => by rw [q, hS0] at ho; cases ho
      have cT : c ≠ T := ne_of_none (hk c o ho) hT
      rw [upd_ne cS, upd_ne cT]
      exact hk c o ho
    · have US : U ≠ S := fun q => by rw [q, hSl] at hU; obtain ⟨_, _, _, _, e3⟩ := hp j U eU; rw [q, hSl] at e3; cases e3
      rw [upd_ne US, upd_ne (ne_of_none hU hT)]
      exact hU
    · rw [upd_ne (Ne.symm TS), upd_same]
theorem zip_no_len : typeLookup (.type "zip") "__len__" = pure none := by rw [typeLookup_type, builtinLookup_eq_fast]; kernel_rfl
theorem zip_no_hint : typeLookup (.type "zip") "__length_hint__" = pure none := by rw [typeLookup_type, builtinLookup_eq_fast]; kernel_rfl
theorem zip_hint {M : Model} {A : Around} {E : Value → Shared → Prop} {s : Shared} {Q : Bool → Shared → Prop} (hT : s.TypeIs (.ref z) "zip") (h : Q true s) : wpAny M A (PySem.Builtin.List.listLengthHint (.ref z)) Q E s := by
  unfold PySem.Builtin.List.listLengthHint
  refine wpAny_bind (wpAny_specialOf hT zip_no_len ?_)
  show wpAny _ A (specialOf (Value.ref z) (Str.ofString "__length_hint__") >>= _) _ _ _
  refine wpAny_bind (wpAny_specialOf hT zip_no_hint ?_)
  exact wpAny_pure h
theorem zst0 {h : Heap} (lt : TO < S) (hz : IsZip h z TI TO .none) (hTI : IsPair h TI (.ref i1) (.ref i2)) (hTO : ∃ x y, IsPair h TO x y) (h1 : h.IsListIter i1 a 0) (h2 : h.IsListIter i2 b 0) : Zst z TI TO i1 i2 a b S 0 h := ⟨lt, hTI, h1, h2, .inl ⟨rfl, hz, hTO⟩⟩
theorem zst_typ {i : Nat} {s : Shared} (Z : Zst z TI TO i1 i2 a b S i s.heap) : s.TypeIs (.ref z) "zip" := by
  rcases Z.st with ⟨_, hz, _⟩ | ⟨_, _, _, hz, _⟩
  · exact ⟨_, hz, rfl⟩
  · exact ⟨_, hz, rfl⟩
theorem zst_iter {A : Around} {E : Value → Shared → Prop} {s : Shared} {P : Program} {w : World} {Q : Value → Shared → Prop} (Z : Zst z TI TO i1 i2 a b S 0 s.heap) (h : Q (.ref z) s) : wpAny (model P w) A (pyIter (.ref z)) Q E s := by
  rcases Z.st with ⟨_, hz, _⟩ | ⟨e, _⟩
  · exact wpAny_pyIter_zip hz h
  · exact absurd e (Nat.lt_irrefl 0)
theorem zip_extend {A1 : Around} {H : Hp} {s : Shared} {Rs : Result → Shared → Prop} (hh : A1.in1.handled = none) (D : ZipApart z TI TO i1 i2 a b) (hS : S ∉ [z, TI, TO, i1, i2]) {H0 : Hp} (ha0 : SqL X.K H0 a xs) (hb0 : SqL X.K H0 b ys) (hS0 : H0 S = none)
    (hdone : ∀ ps H s, Inv X pins σ H s → (∀ c o, H0 c = some o → H c = some o) → H S = some (.lst (ps.map V.ref)) → ps.length = min xs.length ys.length → Prs H xs ys ps → Rs (.ok (.ret .none)) s)
    (I : Inv X pins σ H s) (Z : Zst z TI TO i1 i2 a b S 0 s.heap) (hf : ∀ c ∈ [z, TI, TO, i1, i2], FpOk X pins H c) (hk : ∀ c o, H0 c = some o → H c = some o) (hSl : H S = some (.lst [])) :
    wpAny (model X.prog X.w) A1.in1 (PySem.Builtin.List.listExtendWith (.ref S) (.ref z) .none)
      (fun fin s' => match fin with | .done f => Rs (.ok f) s' | .again c' => c'.quiet = true ∧ codeAny (model X.prog X.w) A1 c' Rs s') (fun e s' => Rs (.error e) s') s := by
  have hne : S ≠ z := fun e => hS (by simp [e])
  have go : ∀ s', Inv X pins σ H s' → Zst z TI TO i1 i2 a b S 0 s'.heap → codeAny (model X.prog X.w) A1 (.builtin "list.extend.loop" ⟨[.ref S, .ref z, .none], []⟩) Rs s' := fun s' I' Z' =>
    zip_loop hh D hS ha0 hb0 hS0 hdone _ [] H s' (by rw [List.length_nil]; exact Nat.zero_add _) I' Z' hf hk hSl fun j T e => by simp at e
  unfold PySem.Builtin.List.listExtendWith
  refine wpAny_bind (wpAny_typeOf (zst_typ Z) ?_)
  have h1 : PySem.Builtin.List.listSameRef (.ref S) (.ref z) = false := by simp [PySem.Builtin.List.listSameRef, hne]
  have h2 : (Value.type "zip" == Value.type "list") = false := by decide
  have h3 : (Value.type "zip" == Value.type "tuple") = false := by decide
  simp only [h1, h2, h3, Bool.or_false, Bool.false_eq_true, if_false]
  refine wpAny_bind (zst_iter Z ?_)
  refine wpAny_bind (wpAny_holding (zip_hint (zst_typ Z) ?_))
  obtain ⟨z3, its, k, r3, hl3, e3⟩ := I.lstM hSl
  cases r3
  refine wpAny_ite_split (fun _ => ?_) (fun _ => wpAny_pure ⟨plainId_quiet PySem.F.plain_extend_loop _, go s I Z⟩)
  refine wpAny_bind (wpAny_rule ?_)
  refine wpAny_bind ?_
  show wpAny _ _ (updateSeq S (·.push .none) >>= fun _ => updateSeq S (·.pop)) _ _ _
  refine wpAny_bind (wpAny_updateSeq e3 rfl ?_)
  have I2 := I.lset (f := (·.push Value.none)) (its' := [Value.none]) (ys := [.non]) (t' := s.toks) hSl e3 (by simp) (.cons rfl .nil) (by rw [List.length_singleton, sizeLine_eq]; decide)
  obtain ⟨z4, its4, k4, r4, hl4, e4⟩ := I2.lstM upd_same
  obtain ⟨u4, rfl, ru4⟩ := r4.one
  refine wpAny_updateSeq e4 rfl ?_ (by show 1 ≤ sizeLine; rw [sizeLine_eq]; decide) (by show 0 ≤ sizeLine + 1; exact Nat.zero_le _)
  refine wpAny_pure ⟨plainId_quiet PySem.F.plain_extend_loop _, go _ ?_ ?_⟩
  · have I3 := I2.lset (f := (·.pop)) (its := [u4]) (its' := []) (ys := []) (t' := s.toks) upd_same e4 (by rfl) .nil (Nat.zero_le _)
    rw [upd_upd] at I3
    have hH : upd H S (.lst []) = H := by
      funext c
      by_cases hb : c = S
      · rw [hb, upd_same, hSl]
      · rw [upd_ne hb]
    rw [hH] at I3
    exact I3
  · refine Z.keep hS fun c o hc q => ?_
    exact (Heap.get?_update_other _ _ (Ne.symm hc)).trans ((Heap.get?_update_other _ _ (Ne.symm hc)).trans q)
theorem list_zip {H : Hp} {s : Shared} {Q : VK} (hc : X.calm = true) (D : ZipApart z TI TO i1 i2 a b) (ha : SqL X.K H a xs) (hb : SqL X.K H b ys) (hlt : ∀ c ∈ [z, TI, TO, i1, i2], c < s.heap.objs.size) (hz : IsZip s.heap z TI TO .none) (hTI : IsPair s.heap TI (.ref i1) (.ref i2)) (hTO : ∃ x y, IsPair s.heap TO x y) (h1 : s.heap.IsListIter i1 a 0) (h2 : s.heap.IsListIter i2 b 0)
    (I : Inv X pins σ H s) (hf : ∀ c ∈ [z, TI, TO, i1, i2], FpOk X pins H c)
    (hQ : ∀ S ps H', H S = none → (∀ c o, H c = some o → H' c = some o) → H' S = some (.lst (ps.map V.ref)) → ps.length = min xs.length ys.length → Prs H' xs ys ps → Q (.ref S) H') :
    wpAny (model X.prog X.w) X.A (call (.type "list") [.ref z]) (EP X pins σ Q) X.xe s := by
  refine callType_codes (Q₁ := fun obj s₁ => obj = .ref s.heap.objs.size ∧ s₁ = { s with heap := s.heap.push { cls := .type "list", data := .seq #[] } }) PySem.F.called_list (PySem.F.typeCall_list_1 _) PySem.F.entry_list_init
    (code_list_new _ ⟨rfl, rfl⟩) fun obj s₁ h₁ => ?_
  obtain ⟨rfl, rfl⟩ := h₁
  have hS : (s.heap.push { cls := .type "list", data := .seq #[] }).get? s.heap.objs.size = some { cls := .type "list", data := .seq #[] } := Heap.get?_push_size _ rfl
  refine ⟨⟨_, hS, rfl⟩, PySem.F.args_list_init_2 _ _, ?_⟩
  have fr : H s.heap.objs.size = none := I.hok.fresh (Nat.le_refl _)
  have nS : s.heap.objs.size ∉ [z, TI, TO, i1, i2] := fun m => Nat.lt_irrefl _ (hlt _ m)
  have I1 : Inv X pins σ (upd H s.heap.objs.size (.lst [])) { s with heap := s.heap.push { cls := .type "list", data := .seq #[] } } := I.lnew (its := []) (t' := s.toks) .nil (Nat.zero_le _)
  have Z1 : Zst z TI TO i1 i2 a b s.heap.objs.size 0 (s.heap.push { cls := .type "list", data := .seq #[] }) := zst0 (hlt TO (by simp)) (Heap.get?_push_of_some _ hz) (Heap.get?_push_of_some _ hTI) (hTO.imp fun x h => h.imp fun y h => Heap.get?_push_of_some _ h) (h1.at fun o e => Heap.get?_push_of_some _ e) (h2.at fun o e => Heap.get?_push_of_some _ e)
  show wpAny _ _ (do let old ← PySem.Builtin.List.listItems (.ref s.heap.objs.size); PySem.Builtin.List.listUpdate (.ref s.heap.objs.size) (fun _ => #[]); letGo old.toList.reverse; PySem.Builtin.List.listExtendWith (.ref s.heap.objs.size) (.ref z) .none) _ _ _
  refine wpAny_bind ?_
  unfold PySem.Builtin.List.listItems
  refine wpAny_bind (wpAny_seqItems hS rfl (wpAny_pure ?_))
  show wpAny _ _ (updateSeq s.heap.objs.size (fun _ => #[]) >>= fun _ => letGo (#[] : Array Value).toList.reverse >>= fun _ => PySem.Builtin.List.listExtendWith (.ref s.heap.objs.size) (.ref z) .none) _ _ _
  refine wpAny_bind (wpAny_updateSeq hS rfl ?_)
  have I2 := I1.lset (f := fun _ => #[]) (its := []) (its' := []) (ys := []) (t' := s.toks) upd_same hS rfl .nil (Nat.zero_le _)
  rw [upd_upd] at I2
  refine wpAny_bind (wpAny_letGo ?_)
  refine zip_extend (A1 := X.A.in1) (H0 := H) (Rs := wants (fun r s₂ => r = .none ∧ EP X pins σ Q (.ref s.heap.objs.size) s₂) X.xe) (I.ok.hd hc) D nS ha hb fr
    (fun ps H' s' I' hk hl hn hp => ⟨rfl, .ref s.heap.objs.size, H', I', rfl, hQ _ ps H' fr hk hl hn hp⟩) I2 (Z1.keep nS fun c o hc q => (Heap.get?_update_other _ _ (Ne.symm hc)).trans q) (fun c hc => ?_) (fun c o q => ?_) upd_same
  · refine ⟨?_, (hf c hc).2⟩
    rw [upd_ne (fun e => nS (by rw [← e]; exact hc))]
    exact (hf c hc).1
  · rw [upd_ne (ne_of_none q fr)]
    exact q
/-- list(zip(x, y)) -/
def tListZip (K : PySem.W.Frag) (ta : TA) : TE := fun σ H Q => ta σ H fun vs H1 => ∃ a b xs ys, vs = [.ref a, .ref b] ∧ SqL K H1 a xs ∧ SqL K H1 b ys ∧
  ∀ S ps H', H1 S = none → Same H1 H' → H' S = some (.lst (ps.map V.ref)) → ps.length = min xs.length ys.length → Prs H' xs ys ps → Q (.ref S) H'
theorem pe_listZip {X : Cx} {e e2 : Expr} {ta : TA} {p pos q qos : Pos} (hc : X.calm = true) (hgl : Gl X "list") (hml : X.mg "list" = none) (hg : Gl X "zip") (hm : X.mg "zip" = none) (ha : PA X [e, e2] ta)
    (hs : starEach [e, e2] X.env = (false, eval e X.env) :: starEach [e2] X.env := by rfl) (hpl : (backTo pos (starEach [e2] X.env)).any (·.1) = false := by rfl)
    (na : starEach [Expr.Call (.Name "zip" p) [e, e2] [] pos] X.env = (false, eval (Expr.Call (.Name "zip" p) [e, e2] [] pos) X.env) :: starEach [] X.env := by rfl) :
    PE X (.Call (.Name "list" q) [.Call (.Name "zip" p) [e, e2] [] pos] [] qos) (tListZip X.K ta) := by
  refine ⟨fun pins s σ H Q I h => ?_⟩
  refine Call_ (ld_blt I hgl hml boot_list (PyProof.Rows.callWith_type1 (args_cons (thn (Q := fun v s2 => ∃ z TI TO i1 i2 a b xs ys H1, v = .ref z ∧ Inv X pins σ H1 s2 ∧ ZipApart z TI TO i1 i2 a b ∧ SqL X.K H1 a xs ∧ SqL X.K H1 b ys ∧ (∀ c ∈ [z, TI, TO, i1, i2], c < s2.heap.objs.size) ∧ IsZip s2.heap z TI TO .none ∧ IsPair s2.heap TI (.ref i1) (.ref i2) ∧ (∃ x y, IsPair s2.heap TO x y) ∧ s2.heap.IsListIter i1 a 0 ∧ s2.heap.IsListIter i2 b 0 ∧ (∀ c ∈ [z, TI, TO, i1, i2], FpOk X pins H1 c) ∧
      ∀ S ps H', H1 S = none → Same H1 H' → H' S = some (.lst (ps.map V.ref)) → ps.length = min xs.length ys.length → Prs H' xs ys ps → Q (.ref S) H') ?_ fun v s2 hv => args_nil ?_) na) na rfl))
  · refine Call_ (ld_blt I hg hm PyProof.Rows.boot_zip (PyProof.Rows.callWith_type1 (thn (ha.run pos pins s σ H _ I h) fun us s1 ⟨vs, H1, I1, r1, q1⟩ => ?_) hs hpl))
    obtain ⟨a, b, xs, ys, ex, hqx, hqy, q⟩ := q1
    subst ex
    cases r1 with
    | cons r rr =>
      cases rr with
      | cons r' rr =>
        cases rr
        cases r
        cases r'
        obtain ⟨its, rv, p1, _⟩ := I1.list hqx
        obtain ⟨its2, rv2, p2, _⟩ := I1.list hqy
        have la : a < s1.heap.objs.size := p1.lt
        have lb : b < s1.heap.objs.size := p2.lt
        refine call_zip_2 p1.isList p2.isList fun h' hz hTI hTO h1 h2 hsz hk => ?_
        have I2 : Inv X pins σ H1 { s1 with heap := h' } := I1.kept (t' := s1.toks) hk
        refine ⟨s1.heap.objs.size + 4, s1.heap.objs.size + 2, s1.heap.objs.size + 3, s1.heap.objs.size, s1.heap.objs.size + 1, a, b, xs, ys, H1, rfl, I2, PySem.W.ktu_apart s1.heap.objs.size a b la lb, hqx, hqy, fun c hcm => ?_, hz, hTI, ⟨_, _, hTO⟩, h1, h2, fun c hcm => ?_, q⟩
        · have e' : c = s1.heap.objs.size + 4 ∨ c = s1.heap.objs.size + 2 ∨ c = s1.heap.objs.size + 3 ∨ c = s1.heap.objs.size ∨ c = s1.heap.objs.size + 1 := by simpa using hcm
          show c < h'.objs.size
          rw [hsz]
          rcases e' with q | q | q | q | q
          · rw [q]; exact Nat.add_lt_add_left (by decide) _
          · rw [q]; exact Nat.add_lt_add_left (by decide) _
          · rw [q]; exact Nat.add_lt_add_left (by decide) _
          · rw [q]; exact Nat.lt_add_of_pos_right (by decide)
          · rw [q]; exact Nat.add_lt_add_left (by decide) _
        · have e' : c = s1.heap.objs.size + 4 ∨ c = s1.heap.objs.size + 2 ∨ c = s1.heap.objs.size + 3 ∨ c = s1.heap.objs.size ∨ c = s1.heap.objs.size + 1 := by simpa using hcm
          have hle : s1.heap.objs.size ≤ c := by
            rcases e' with q | q | q | q | q
            · rw [q]; exact Nat.le_add_right _ _
            · rw [q]; exact Nat.le_add_right _ _
            · rw [q]; exact Nat.le_add_right _ _
            · rw [q]; exact Nat.le_refl _
            · rw [q]; exact Nat.le_add_right _ _
          exact I1.fpOk hle (I1.hok.fresh hle)
  · obtain ⟨z, TI, TO, i1, i2, a, b, xs, ys, H1, rfl, I2, D, hqx, hqy, hlt, hz, hTI, hTO, h1, h2, hf, q⟩ := hv
    exact list_zip hc D hqx hqy hlt hz hTI hTO h1 h2 I2 hf q
end
end Sw
/-! zip of a tuple and a list -/
namespace Sw
open PySem PySem.Spec PyProof.Rows L2
def ItTL (K : PySem.W.Frag) (a b : Addr) : It where
  go i H := ∃ (xs ys : List V) (x y : V), SqT K H a xs ∧ SqL K H b ys ∧ xs[i]? = some x ∧ ys[i]? = some y
  yld i H v H' := ∃ T x y, v = .ref T ∧ H T = none ∧ H' = upd H T (.tup [x, y]) ∧ (∀ xs, SqT K H a xs → xs[i]? = some x) ∧ ∀ ys, SqL K H b ys → ys[i]? = some y
  stop i H := ∃ xs ys : List V, SqT K H a xs ∧ SqL K H b ys ∧ (i = xs.length ∨ i = ys.length) ∧ i ≤ xs.length ∧ i ≤ ys.length
theorem turn_zipTL {P : Program} {w : World} {K : PySem.W.Frag} {elts : List Expr} {kk : Nat} {tpos : Pos} {a b z TI TO i1 i2 : Addr} (D : ZipSep2 z TI TO i1 i2 [i1, a] [i2, b]) (ha : a ≠ i1) (hb : b ≠ i2) :
    Turn P w K (.Tuple elts kk tpos) (ItTL K a b) [z, TI, TO, i1, i2] z (fun i h => IsZip h z TI TO .none ∧ IsTupOf2 h TI (.ref i1) (.ref i2) ∧ (∃ a1 a2, IsTupOf2 h TO a1 a2) ∧ h.IsTupleIter i1 a i ∧ h.IsListIter i2 b i) where
  mem := by simp
  obj := fun i h st c hc => by
    obtain ⟨hz, hTI, ⟨x, y, hTO⟩, ⟨o1, e1, _, d1⟩, ⟨o2, e2, _, d2⟩⟩ := st
    have e' : c = z ∨ c = TI ∨ c = TO ∨ c = i1 ∨ c = i2 := by simpa using hc
    rcases e' with q | q | q | q | q
    · rw [q]; exact ⟨_, hz, fun v q => nomatch q⟩
    · rw [q]; exact ⟨_, hTI, fun v q => nomatch q⟩
    · rw [q]; exact ⟨_, hTO, fun v q => nomatch q⟩
    · rw [q]; exact ⟨o1, e1, fun v q => by rw [d1] at q; cases q⟩
    · rw [q]; exact ⟨o2, e2, fun v q => by rw [d2] at q; cases q⟩
  keep := fun i h h' st k => by
    obtain ⟨hz, hTI, ⟨x, y, hTO⟩, h1, h2⟩ := st
    exact ⟨k z (by simp) _ hz, k TI (by simp) _ hTI, ⟨x, y, k TO (by simp) _ hTO⟩, h1.at fun o q => k i1 (by simp) o q, h2.at fun o q => k i2 (by simp) o q⟩
  item := by
    intro X hP hw hK hc i pins s σ H E I hf st hg
    subst hP hw hK
    obtain ⟨hz, hTI, ⟨x0, y0, hTO⟩, h1, h2⟩ := st
    obtain ⟨xs, ys, x, y, hqx, hqy, hx, hy⟩ := hg
    obtain ⟨its, rv, p1, _⟩ := I.tuple hqx
    obtain ⟨its2, rv2, p2, _⟩ := I.list hqy
    have p0 : s.heap.IsTuple a its.toArray := p1
    have p3 : s.heap.IsList b its2.toArray := p2.isList
    obtain ⟨u1, hu1, ru1⟩ := rv.get hx
    obtain ⟨u2, hu2, ru2⟩ := rv2.get hy
    have hu0 : its.toArray[i]? = some u1 := by simpa using hu1
    have hu3 : its2.toArray[i]? = some u2 := by simpa using hu2
    have hzl : z < s.heap.objs.size := Heap.lt_size hz
    have D1 := Draws.tuple (prog := X.prog) (w := X.w) (A := X.A.in1) (I.ok.hd hc) i1 a ha its.toArray
    have D2 := Draws.list (prog := X.prog) (w := X.w) (A := X.A.in1) (I.ok.hd hc) i2 b hb its2.toArray
    refine wpAny_pyNext_zipD2_item D D1 D2 hz hTI hTO ⟨h1, p0⟩ ⟨h2, p3⟩ (Array.getElem?_eq_some_iff.mp hu0).1 (Array.getElem?_eq_some_iff.mp hu3).1 fun x1 x2 h' tk y1 y2 z' TO' h1' h2' hT hsz hk => ?_
    have y1 : its.toArray[i]? = some x1 := y1
    rw [hu0] at y1
    cases y1
    have y2 : its2.toArray[i]? = some x2 := y2
    rw [hu3] at y2
    cases y2
    obtain ⟨h2', _⟩ := h2'
    obtain ⟨h1', _⟩ := h1'
    refine ⟨_, rfl, wpAny_letOwnedTupleGo_zip (s := { s with heap := h', toks := tk }) z' fun h'' z'' sb => ?_⟩
    have hT2 : h''.get? s.heap.objs.size = some { cls := .type "tuple", data := .seq #[u1, u2] } := (sb.2 _ (Nat.ne_of_gt hzl)).trans hT
    have new : ObjOk X.prog X.w (upd H s.heap.objs.size (.tup [x, y])) h'' s.heap.objs.size (.tup [x, y]) :=
      ⟨by show 2 ≤ sizeLine; decide, [u1, u2], .cons ru1 (.cons ru2 .nil), ⟨_, hT2, rfl, _, rfl⟩⟩
    have I1 : Inv X pins σ (upd H s.heap.objs.size (.tup [x, y])) { s with heap := h'', toks := tk } :=
      I.turnedNew (t' := tk) (ch := [z, TI, TO, i1, i2]) (fun c o hb q => (sb.2 c (fun q' => hb (by simp [q']))).trans (hk c o (fun q' => hb (by simp [q'])) (fun q' => hb (by simp [q'])) (fun q' => hb (by simp [q'])) (fun q' => hb (by simp [q'])) q)) hf (Nat.le_refl _) new
    refine ⟨.ref s.heap.objs.size, _, I1, rfl, ⟨_, x, y, rfl, I.hok.fresh (Nat.le_refl _), rfl, fun l hl => by rw [I.tuple_inj hl hqx]; exact hx, fun l hl => by rw [I.list_inj hl hqy]; exact hy⟩, ⟨z'', ?_, ⟨u1, u2, ?_⟩, ?_, ?_⟩, fun c hcm => ?_⟩
    · exact (sb.2 _ D.TIz).trans (hk _ _ D.TIz D.TITO D.TIi1 D.TIi2 hTI)
    · exact (sb.2 _ D.TOz).trans TO'
    · exact h1'.at fun o q => (sb.2 _ D.zi1.symm).trans q
    · exact h2'.at fun o q => (sb.2 _ D.zi2.symm).trans q
    · have hlt : c < s.heap.objs.size := by
        have e' : c = z ∨ c = TI ∨ c = TO ∨ c = i1 ∨ c = i2 := by simpa using hcm
        rcases e' with q | q | q | q | q
        · rw [q]; exact hzl
        · rw [q]; exact Heap.lt_size hTI
        · rw [q]; exact Heap.lt_size hTO
        · rw [q]; obtain ⟨_, e1, _⟩ := h1; exact Heap.lt_size e1
        · rw [q]; obtain ⟨_, e2, _⟩ := h2; exact Heap.lt_size e2
      rw [upd_ne (Nat.ne_of_lt hlt)]
      exact (hf c hcm).1
  done := by
    intro X hP hw hK hc i pins s σ H E I hf st hg
    subst hP hw hK
    obtain ⟨hz, hTI, ⟨x0, y0, hTO⟩, h1, h2⟩ := st
    obtain ⟨xs, ys, hqx, hqy, hend, l1, l2⟩ := hg
    obtain ⟨its, rv, p1, _⟩ := I.tuple hqx
    obtain ⟨its2, rv2, p2, _⟩ := I.list hqy
    have p0 : s.heap.IsTuple a its.toArray := p1
    have p3 : s.heap.IsList b its2.toArray := p2.isList
    have ll := rv2.length
    have ll0 := rv.length
    have sz0 : its.toArray.size = xs.length := by rw [List.size_toArray, ll0]
    have D1 := Draws.tuple (prog := X.prog) (w := X.w) (A := X.A.in1) (I.ok.hd hc) i1 a ha its.toArray
    have D2 := Draws.list (prog := X.prog) (w := X.w) (A := X.A.in1) (I.ok.hd hc) i2 b hb its2.toArray
    have sz : its2.toArray.size = ys.length := by rw [List.size_toArray, ll]
    exact wpAny_pyNext_zipD2_end D D1 D2 hz hTI hTO ⟨h1, p0⟩ ⟨h2, p3⟩ (by rw [sz0]; exact l1) (by rw [sz]; exact l2) (by rw [sz, sz0]; exact hend) fun h' tk hk => ⟨rfl, I.turnedL (t' := tk) (ch := [z, TI, TO, i1, i2]) (fun c o hb q =>
      hk c o (fun q' => hb (by simp [q'])) (fun q' => hb (by simp [q'])) (fun q' => hb (by simp [q'])) (fun q' => hb (by simp [q'])) q) hf⟩
  self := fun A i s Q E st h => wpAny_pyIter_zip st.1 h
theorem sepTL (n a b : Nat) (h0 : a < n) (h : b < n) : ZipSep2 (n + 4) (n + 2) (n + 3) n (n + 1) [n, a] [n + 1, b] := by
  have two : ∀ c : Nat, c ≠ n + 1 → c ≠ b → ¬ List.Mem c [n + 1, b] := fun c h1 h2 e => by
    have e2 : c ∈ [n + 1, b] := e
    simp only [List.mem_cons, List.not_mem_nil, or_false] at e2
    omega
  have one : ∀ c : Nat, c ≠ n → c ≠ a → ¬ List.Mem c [n, a] := fun c h1 h2 e => by
    have e2 : c ∈ [n, a] := e
    simp only [List.mem_cons, List.not_mem_nil, or_false] at e2
    omega
  exact { TIz := by show ¬ ((n + 2 : Nat) = n + 4); omega
          TOz := by show ¬ ((n + 3 : Nat) = n + 4); omega
          TITO := by show ¬ ((n + 2 : Nat) = n + 3); omega
          TIi1 := by show ¬ ((n + 2 : Nat) = n); omega
          mem1 := List.mem_cons_self
          zf1 := one _ (by omega) (by omega)
          Tf1 := one _ (by omega) (by omega)
          TIi2 := by show ¬ ((n + 2 : Nat) = n + 1); omega
          mem2 := List.mem_cons_self
          zf2 := two _ (by omega) (by omega)
          Tf2 := two _ (by omega) (by omega)
          sep1_2 := two _ (by omega) (by omega)
          sep2_1 := one _ (by omega) (by omega) }
def iZipTL (K : PySem.W.Frag) (ta : TA) : TI := fun σ H R => ta σ H fun vs H1 => ∃ a b xs ys, vs = [.ref a, .ref b] ∧ SqT K H1 a xs ∧ SqL K H1 b ys ∧ R (ItTL K a b) H1
theorem pi_zipTL {X : Cx} {e e2 : Expr} {ta : TA} {p pos tpos : Pos} {elts : List Expr} {kk : Nat} (hg : Gl X "zip") (hm : X.mg "zip" = none) (ha : PA X [e, e2] ta)
    (hs : starEach [e, e2] X.env = (false, eval e X.env) :: starEach [e2] X.env := by rfl) (hpl : (backTo pos (starEach [e2] X.env)).any (·.1) = false := by rfl) :
    PI X (.Tuple elts kk tpos) (.Call (.Name "zip" p) [e, e2] [] pos) (iZipTL X.K ta) := by
  refine ⟨fun pins s σ H R I h => ?_⟩
  refine Call_ (ld_blt I hg hm PyProof.Rows.boot_zip (PyProof.Rows.callWith_type1 (thn (ha.run pos pins s σ H _ I h) fun us s1 ⟨vs, H1, I1, r1, q1⟩ => ?_) hs hpl))
  obtain ⟨a, b, xs, ys, ex, hqx, hqy, q⟩ := q1
  subst ex
  cases r1 with
  | @cons _ u1 _ us1 r1 r2 =>
  cases r1
  cases r2 with
  | @cons _ u2 _ us2 r3 r4 =>
  cases r4
  cases r3
  obtain ⟨its, rv, p1, _⟩ := I1.tuple hqx
  obtain ⟨its2, rv2, p2, _⟩ := I1.list hqy
  have p0 : s1.heap.IsTuple a its.toArray := p1
  have p3 : s1.heap.IsList b its2.toArray := p2.isList
  have al : a < s1.heap.objs.size := by
    obtain ⟨ob, e1, _⟩ := id p0
    exact Heap.lt_size e1
  have bl : b < s1.heap.objs.size := p2.lt
  refine zip_begins2 (begins_tuple a its.toArray) (begins_list b its2.toArray) p0 p3 fun h2 hz hTI hTO ho1 ho2 hsz hk => wpAny_pyIter_zip hz ?_
  have I2 : Inv X pins σ H1 { s1 with heap := h2 } := I1.kept (t' := s1.toks) hk
  have D : ZipSep2 (s1.heap.objs.size + 4) (s1.heap.objs.size + 2) (s1.heap.objs.size + 3) s1.heap.objs.size (s1.heap.objs.size + 1) [s1.heap.objs.size, a] [s1.heap.objs.size + 1, b] := sepTL _ _ _ al bl
  refine ⟨s1.heap.objs.size + 4, [s1.heap.objs.size + 4, s1.heap.objs.size + 2, s1.heap.objs.size + 3, s1.heap.objs.size, s1.heap.objs.size + 1], _, _, H1, rfl, I2, turn_zipTL D (Nat.ne_of_lt al) (Nat.ne_of_lt (Nat.lt_succ_of_lt bl)), ⟨hz, hTI, ⟨_, _, hTO⟩, ⟨_, ho1, rfl, rfl⟩, ⟨_, ho2, rfl, rfl⟩⟩, fun c hc => ?_, q⟩
  have le : s1.heap.objs.size ≤ c := le5 _ _ hc
  exact I1.fpOk le (I1.hok.fresh le)
theorem walk_zipTL {K : PySem.W.Frag} {a b : Addr} {xs ys : List V} {n : Nat} (h1 : n = xs.length) (h2 : n = ys.length) : Walk (ItTL K a b) n (fun H => SqT K H a xs ∧ SqL K H b ys) (YPair (fun i => xs[i]?) (fun i => ys[i]?)) := by
  refine ⟨fun i H hi q => ⟨xs, ys, xs[i], ys[i], q.1, q.2, List.getElem?_eq_getElem (by omega), List.getElem?_eq_getElem (by omega)⟩, fun H q => ⟨xs, ys, q.1, q.2, .inl h1, by omega, by omega⟩, fun i H v H' hi q y => ?_⟩
  obtain ⟨T, x0, y0, e1, e2, e3, e4, e5⟩ := y
  exact ⟨T, _, y0, e1, e2, e3, e4 xs q.1, e5 ys q.2⟩
end Sw
/-! zip of three lists or tuples -/
namespace Sw
open PySem PySem.Spec PyProof.Rows L2
/-- a list, or a tuple (k) -/
def SqK (K : PySem.W.Frag) (H : Hp) (k : Bool) (a : Addr) (xs : List V) : Prop := if k = true then SqT K H a xs else SqL K H a xs
def ItOf (k : Bool) (h : Heap) (i a : Addr) (j : Nat) : Prop := if k = true then h.IsTupleIter i a j else h.IsListIter i a j
def RowOf (k : Bool) (h : Heap) (a : Addr) (its : Array Value) : Prop := if k = true then h.IsTuple a its else h.IsList a its
def itObj (k : Bool) (a : Addr) : Obj := { cls := .type (if k = true then "tuple_iterator" else "list_iterator"), data := .fields #[.ref a, .int 0 0] }
theorem begins_of (k : Bool) (a : Addr) (its : Array Value) : Begins (.ref a) (itObj k a) (fun h => RowOf k h a its) := by
  cases k with
  | true => exact begins_tuple a its
  | false => exact begins_list a its
theorem draws_of {prog : Program} {w : World} {A : Around} (hh : A.handled = none) (k : Bool) (it a : Addr) (hne : a ≠ it) (its : Array Value) : Draws prog w A it [it, a] its.size (fun i v => its[i]? = some v) (fun i h => ItOf k h it a i ∧ RowOf k h a its) := by
  cases k with
  | true => exact Draws.tuple hh it a hne its
  | false => exact Draws.list hh it a hne its
theorem ItOf.keep {k : Bool} {h h' : Heap} {i a : Addr} {j : Nat} (x : ItOf k h i a j) (f : ∀ o, h.get? i = some o → h'.get? i = some o) : ItOf k h' i a j := by
  cases k with
  | true => exact Heap.IsTupleIter.at x f
  | false => exact Heap.IsListIter.at x f
theorem ItOf.obj {k : Bool} {h : Heap} {i a : Addr} {j : Nat} (x : ItOf k h i a j) : ∃ o, h.get? i = some o ∧ ∀ v, o.data ≠ .cell v := by
  cases k with
  | true =>
    obtain ⟨o, e, _, d⟩ := x
    exact ⟨o, e, fun v q => by rw [d] at q; cases q⟩
  | false =>
    obtain ⟨o, e, _, d⟩ := x
    exact ⟨o, e, fun v q => by rw [d] at q; cases q⟩
theorem ItOf.new (k : Bool) {h : Heap} {i a : Addr} (e : h.get? i = some (itObj k a)) : ItOf k h i a 0 := by
  cases k with
  | true => exact ⟨_, e, rfl, rfl⟩
  | false => exact ⟨_, e, rfl, rfl⟩
theorem SqK.row {X : Cx} {pins : List (Addr × Obj)} {σ : L2.St} {H : Hp} {s : Shared} {k : Bool} {a : Addr} {xs : List V} (I : Inv X pins σ H s) (h : SqK X.K H k a xs) : ∃ its : List Value, Vals xs its ∧ RowOf k s.heap a its.toArray ∧ xs.length = its.length := by
  cases k with
  | true =>
    obtain ⟨its, rv, p, _⟩ := I.tuple h
    exact ⟨its, rv, p, rv.length⟩
  | false =>
    obtain ⟨its, rv, p, _⟩ := I.list h
    exact ⟨its, rv, p.isList, rv.length⟩
theorem SqK.inj {X : Cx} {pins : List (Addr × Obj)} {σ : L2.St} {H : Hp} {s : Shared} {k : Bool} {a : Addr} {xs ys : List V} (I : Inv X pins σ H s) (h : SqK X.K H k a xs) (h2 : SqK X.K H k a ys) : xs = ys := by
  cases k with
  | true => exact I.tuple_inj h h2
  | false => exact I.list_inj h h2
theorem RowOf.lt {k : Bool} {h : Heap} {a : Addr} {its : Array Value} (x : RowOf k h a its) : a < h.objs.size := by
  cases k with
  | true =>
    obtain ⟨o, e, _⟩ := x
    exact Heap.lt_size e
  | false =>
    obtain ⟨o, e, _⟩ := x
    exact Heap.lt_size e
def It3 (K : PySem.W.Frag) (k1 k2 k3 : Bool) (a b c : Addr) : It where
  go i H := ∃ (xs ys zs : List V) (x y z : V), SqK K H k1 a xs ∧ SqK K H k2 b ys ∧ SqK K H k3 c zs ∧ xs[i]? = some x ∧ ys[i]? = some y ∧ zs[i]? = some z
  yld i H v H' := ∃ T x y z, v = .ref T ∧ H T = none ∧ H' = upd H T (.tup [x, y, z]) ∧ (∀ xs, SqK K H k1 a xs → xs[i]? = some x) ∧ (∀ ys, SqK K H k2 b ys → ys[i]? = some y) ∧ ∀ zs, SqK K H k3 c zs → zs[i]? = some z
  stop i H := ∃ xs ys zs : List V, SqK K H k1 a xs ∧ SqK K H k2 b ys ∧ SqK K H k3 c zs ∧ (i = xs.length ∨ i = ys.length ∨ i = zs.length) ∧ i ≤ xs.length ∧ i ≤ ys.length ∧ i ≤ zs.length
theorem turn_zip3 {P : Program} {w : World} {K : PySem.W.Frag} {elts : List Expr} {kk : Nat} {tpos : Pos} {k1 k2 k3 : Bool} {a b c z TI TO i1 i2 i3 : Addr} (D : ZipSep3 z TI TO i1 i2 i3 [i1, a] [i2, b] [i3, c]) (ha : a ≠ i1) (hb : b ≠ i2) (hc3 : c ≠ i3) :
    Turn P w K (.Tuple elts kk tpos) (It3 K k1 k2 k3 a b c) [z, TI, TO, i1, i2, i3] z (fun i h => IsZip h z TI TO .none ∧ IsTupOf3 h TI (.ref i1) (.ref i2) (.ref i3) ∧ (∃ a1 a2 a3, IsTupOf3 h TO a1 a2 a3) ∧ ItOf k1 h i1 a i ∧ ItOf k2 h i2 b i ∧ ItOf k3 h i3 c i) where
  mem := by simp
  obj := fun i h st d hd => by
    obtain ⟨hz, hTI, ⟨x, y, u, hTO⟩, h1, h2, h3⟩ := st
    have e' : d = z ∨ d = TI ∨ d = TO ∨ d = i1 ∨ d = i2 ∨ d = i3 := by simpa using hd
    rcases e' with q | q | q | q | q | q
    · rw [q]; exact ⟨_, hz, fun v q => nomatch q⟩
    · rw [q]; exact ⟨_, hTI, fun v q => nomatch q⟩
    · rw [q]; exact ⟨_, hTO, fun v q => nomatch q⟩
    · rw [q]; exact h1.obj
    · rw [q]; exact h2.obj
    · rw [q]; exact h3.obj
  keep := fun i h h' st k => by
    obtain ⟨hz, hTI, ⟨x, y, u, hTO⟩, h1, h2, h3⟩ := st
    exact ⟨k z (by simp) _ hz, k TI (by simp) _ hTI, ⟨x, y, u, k TO (by simp) _ hTO⟩, h1.keep fun o q => k i1 (by simp) o q, h2.keep fun o q => k i2 (by simp) o q, h3.keep fun o q => k i3 (by simp) o q⟩
  item := by
    intro X hP hw hK hc i pins s σ H E I hf st hg
    subst hP hw hK
    obtain ⟨hz, hTI, ⟨x0, y0, u0, hTO⟩, h1, h2, h3⟩ := st
    obtain ⟨xs, ys, zs, x, y, u, hqx, hqy, hqz, hx, hy, hu⟩ := hg
    obtain ⟨its1, rv1, p1, _⟩ := hqx.row I
    obtain ⟨its2, rv2, p2, _⟩ := hqy.row I
    obtain ⟨its3, rv3, p3, _⟩ := hqz.row I
    obtain ⟨u1, hu1, ru1⟩ := rv1.get hx
    obtain ⟨u2, hu2, ru2⟩ := rv2.get hy
    obtain ⟨u3, hu3, ru3⟩ := rv3.get hu
    have g1 : its1.toArray[i]? = some u1 := by simpa using hu1
    have g2 : its2.toArray[i]? = some u2 := by simpa using hu2
    have g3 : its3.toArray[i]? = some u3 := by simpa using hu3
    have hzl : z < s.heap.objs.size := Heap.lt_size hz
    have D1 := draws_of (prog := X.prog) (w := X.w) (A := X.A.in1) (I.ok.hd hc) k1 i1 a ha its1.toArray
    have D2 := draws_of (prog := X.prog) (w := X.w) (A := X.A.in1) (I.ok.hd hc) k2 i2 b hb its2.toArray
    have D3 := draws_of (prog := X.prog) (w := X.w) (A := X.A.in1) (I.ok.hd hc) k3 i3 c hc3 its3.toArray
    refine wpAny_pyNext_zipD3_item D D1 D2 D3 hz hTI hTO ⟨h1, p1⟩ ⟨h2, p2⟩ ⟨h3, p3⟩ (Array.getElem?_eq_some_iff.mp g1).1 (Array.getElem?_eq_some_iff.mp g2).1 (Array.getElem?_eq_some_iff.mp g3).1 fun x1 x2 x3 h' tk y1 y2 y3 z' TO' s1' s2' s3' hT hsz hk => ?_
    have y1 : its1.toArray[i]? = some x1 := y1
    have y2 : its2.toArray[i]? = some x2 := y2
    have y3 : its3.toArray[i]? = some x3 := y3
    rw [g1] at y1
    rw [g2] at y2
    rw [g3] at y3
    cases y1
    cases y2
    cases y3
    obtain ⟨s1', _⟩ := s1'
    obtain ⟨s2', _⟩ := s2'
    obtain ⟨s3', _⟩ := s3'
    refine ⟨_, rfl, wpAny_letOwnedTupleGo_zip (s := { s with heap := h', toks := tk }) z' fun h'' z'' sb => ?_⟩
    have hT2 : h''.get? s.heap.objs.size = some { cls := .type "tuple", data := .seq #[u1, u2, u3] } := (sb.2 _ (Nat.ne_of_gt hzl)).trans hT
    have new : ObjOk X.prog X.w (upd H s.heap.objs.size (.tup [x, y, u])) h'' s.heap.objs.size (.tup [x, y, u]) :=
      ⟨by show 3 ≤ sizeLine; decide, [u1, u2, u3], .cons ru1 (.cons ru2 (.cons ru3 .nil)), ⟨_, hT2, rfl, _, rfl⟩⟩
    have I1 : Inv X pins σ (upd H s.heap.objs.size (.tup [x, y, u])) { s with heap := h'', toks := tk } :=
      I.turnedNew (t' := tk) (ch := [z, TI, TO, i1, i2, i3]) (fun d o hb q => (sb.2 d (fun q' => hb (by simp [q']))).trans (hk d o (fun q' => hb (by simp [q'])) (fun q' => hb (by simp [q'])) (fun q' => hb (by simp [q'])) (fun q' => hb (by simp [q'])) (fun q' => hb (by simp [q'])) q)) hf (Nat.le_refl _) new
    have ne1 : i1 ≠ z := fun q => D.zf1 (q ▸ List.mem_cons_self)
    have ne2 : i2 ≠ z := fun q => D.zf2 (q ▸ List.mem_cons_self)
    have ne3 : i3 ≠ z := fun q => D.zf3 (q ▸ List.mem_cons_self)
    refine ⟨.ref s.heap.objs.size, _, I1, rfl, ⟨_, x, y, u, rfl, I.hok.fresh (Nat.le_refl _), rfl, fun l hl => by rw [hl.inj I hqx]; exact hx, fun l hl => by rw [hl.inj I hqy]; exact hy, fun l hl => by rw [hl.inj I hqz]; exact hu⟩, ⟨z'', ?_, ⟨u1, u2, u3, ?_⟩, ?_, ?_, ?_⟩, fun d hcm => ?_⟩
    · exact (sb.2 _ D.TIz).trans (hk _ _ D.TIz D.TITO D.TIi1 D.TIi2 D.TIi3 hTI)
    · exact (sb.2 _ D.TOz).trans TO'
    · exact s1'.keep fun o q => (sb.2 _ ne1).trans q
    · exact s2'.keep fun o q => (sb.2 _ ne2).trans q
    · exact s3'.keep fun o q => (sb.2 _ ne3).trans q
    · have hlt : d < s.heap.objs.size := by
        have e' : d = z ∨ d = TI ∨ d = TO ∨ d = i1 ∨ d = i2 ∨ d = i3 := by simpa using hcm
        rcases e' with q | q | q | q | q | q
        · rw [q]; exact hzl
        · rw [q]; exact Heap.lt_size hTI
        · rw [q]; exact Heap.lt_size hTO
        · rw [q]; obtain ⟨_, e1, _⟩ := h1.obj; exact Heap.lt_size e1
        · rw [q]; obtain ⟨_, e1, _⟩ := h2.obj; exact Heap.lt_size e1
        · rw [q]; obtain ⟨_, e1, _⟩ := h3.obj; exact Heap.lt_size e1
      rw [upd_ne (Nat.ne_of_lt hlt)]
      exact (hf d hcm).1
  done := by
    intro X hP hw hK hc i pins s σ H E I hf st hg
    subst hP hw hK
    obtain ⟨hz, hTI, ⟨x0, y0, u0, hTO⟩, h1, h2, h3⟩ := st
    obtain ⟨xs, ys, zs, hqx, hqy, hqz, hend, l1, l2, l3⟩ := hg
    obtain ⟨its1, rv1, p1, e1⟩ := hqx.row I
    obtain ⟨its2, rv2, p2, e2⟩ := hqy.row I
    obtain ⟨its3, rv3, p3, e3⟩ := hqz.row I
    have D1 := draws_of (prog := X.prog) (w := X.w) (A := X.A.in1) (I.ok.hd hc) k1 i1 a ha its1.toArray
    have D2 := draws_of (prog := X.prog) (w := X.w) (A := X.A.in1) (I.ok.hd hc) k2 i2 b hb its2.toArray
    have D3 := draws_of (prog := X.prog) (w := X.w) (A := X.A.in1) (I.ok.hd hc) k3 i3 c hc3 its3.toArray
    rw [e1, e2, e3] at hend
    rw [e1] at l1
    rw [e2] at l2
    rw [e3] at l3
    exact wpAny_pyNext_zipD3_end D D1 D2 D3 hz hTI hTO ⟨h1, p1⟩ ⟨h2, p2⟩ ⟨h3, p3⟩ (by rw [List.size_toArray]; exact l1) (by rw [List.size_toArray]; exact l2) (by rw [List.size_toArray]; exact l3) (by rw [List.size_toArray, List.size_toArray, List.size_toArray]; exact hend) fun h' tk hk => ⟨rfl, I.turnedL (t' := tk) (ch := [z, TI, TO, i1, i2, i3]) (fun d o hb q =>
      hk d o (fun q' => hb (by simp [q'])) (fun q' => hb (by simp [q'])) (fun q' => hb (by simp [q'])) (fun q' => hb (by simp [q'])) (fun q' => hb (by simp [q'])) q) hf⟩
  self := fun A i s Q E st h => wpAny_pyIter_zip st.1 h
def iZip3 (K : PySem.W.Frag) (k1 k2 k3 : Bool) (ta : TA) : TI := fun σ H R => ta σ H fun vs H1 => ∃ a b c xs ys zs, vs = [.ref a, .ref b, .ref c] ∧ SqK K H1 k1 a xs ∧ SqK K H1 k2 b ys ∧ SqK K H1 k3 c zs ∧ R (It3 K k1 k2 k3 a b c) H1
theorem pi_zip3 (k1 k2 k3 : Bool) {X : Cx} {e e2 e3 : Expr} {ta : TA} {p pos tpos : Pos} {elts : List Expr} {kk : Nat} (hg : Gl X "zip") (hm : X.mg "zip" = none) (ha : PA X [e, e2, e3] ta)
    (hs : starEach [e, e2, e3] X.env = (false, eval e X.env) :: starEach [e2, e3] X.env := by rfl) (hpl : (backTo pos (starEach [e2, e3] X.env)).any (·.1) = false := by rfl) :
    PI X (.Tuple elts kk tpos) (.Call (.Name "zip" p) [e, e2, e3] [] pos) (iZip3 X.K k1 k2 k3 ta) := by
  refine ⟨fun pins s σ H R I h => ?_⟩
  refine Call_ (ld_blt I hg hm PyProof.Rows.boot_zip (PyProof.Rows.callWith_type1 (thn (ha.run pos pins s σ H _ I h) fun us s1 ⟨vs, H1, I1, r1, q1⟩ => ?_) hs hpl))
  obtain ⟨a, b, c, xs, ys, zs, ex, hqx, hqy, hqz, q⟩ := q1
  subst ex
  cases r1 with
  | @cons _ u1 _ us1 ra r1 =>
  cases r1 with
  | @cons _ u2 _ us2 rb r1 =>
  cases r1 with
  | @cons _ u3 _ us3 rc r1 =>
  cases r1
  cases ra
  cases rb
  cases rc
  obtain ⟨its1, rv1, p1, _⟩ := hqx.row I1
  obtain ⟨its2, rv2, p2, _⟩ := hqy.row I1
  obtain ⟨its3, rv3, p3, _⟩ := hqz.row I1
  refine zip_begins3 (begins_of k1 a its1.toArray) (begins_of k2 b its2.toArray) (begins_of k3 c its3.toArray) p1 p2 p3 fun h2 hz hTI hTO ho1 ho2 ho3 hsz hk => wpAny_pyIter_zip hz ?_
  have I2 : Inv X pins σ H1 { s1 with heap := h2 } := I1.kept (t' := s1.toks) hk
  have one : ∀ {d : Addr}, d < s1.heap.objs.size → ∀ b ∈ [d], b < s1.heap.objs.size := fun {d} h b hb => by
    rw [List.mem_singleton.mp hb]
    exact h
  have D : ZipSep3 (s1.heap.objs.size + 5) (s1.heap.objs.size + 3) (s1.heap.objs.size + 4) s1.heap.objs.size (s1.heap.objs.size + 1) (s1.heap.objs.size + 2) [s1.heap.objs.size, a] [s1.heap.objs.size + 1, b] [s1.heap.objs.size + 2, c] := zip_sep3 (one p1.lt) (one p2.lt) (one p3.lt)
  refine ⟨s1.heap.objs.size + 5, [s1.heap.objs.size + 5, s1.heap.objs.size + 3, s1.heap.objs.size + 4, s1.heap.objs.size, s1.heap.objs.size + 1, s1.heap.objs.size + 2], _, _, H1, rfl, I2,
    turn_zip3 D (Nat.ne_of_lt p1.lt) (Nat.ne_of_lt (Nat.lt_succ_of_lt p2.lt)) (Nat.ne_of_lt (Nat.lt_succ_of_lt (Nat.lt_succ_of_lt p3.lt))), ⟨hz, hTI, ⟨_, _, _, hTO⟩, .new k1 ho1, .new k2 ho2, .new k3 ho3⟩, fun d hd => ?_, q⟩
  have le : s1.heap.objs.size ≤ d := by
    have e' : d = s1.heap.objs.size + 5 ∨ d = s1.heap.objs.size + 3 ∨ d = s1.heap.objs.size + 4 ∨ d = s1.heap.objs.size ∨ d = s1.heap.objs.size + 1 ∨ d = s1.heap.objs.size + 2 := by simpa using hd
    rcases e' with q | q | q | q | q | q
    all_goals
      rw [q]
      first
        | exact Nat.le_refl _
        | exact Nat.le_add_right _ _
  exact I1.fpOk le (I1.hok.fresh le)
/-- the i-th of three rows, in a new tuple -/
def YTrip (f g h : Nat → Option V) : Nat → Hp → V → Hp → Prop := fun i H v H' => ∃ T x y z, v = .ref T ∧ H T = none ∧ H' = upd H T (.tup [x, y, z]) ∧ f i = some x ∧ g i = some y ∧ h i = some z
theorem walk_zip3 {K : PySem.W.Frag} {k1 k2 k3 : Bool} {a b c : Addr} {xs ys zs : List V} {n : Nat} (hn : n = min xs.length (min ys.length zs.length)) :
    Walk (It3 K k1 k2 k3 a b c) n (fun H => SqK K H k1 a xs ∧ SqK K H k2 b ys ∧ SqK K H k3 c zs) (YTrip (fun i => xs[i]?) (fun i => ys[i]?) (fun i => zs[i]?)) := by
  refine ⟨fun i H hi q => ⟨xs, ys, zs, xs[i], ys[i], zs[i], q.1, q.2.1, q.2.2, List.getElem?_eq_getElem (by omega), List.getElem?_eq_getElem (by omega), List.getElem?_eq_getElem (by omega)⟩, fun H q => ⟨xs, ys, zs, q.1, q.2.1, q.2.2, by omega, by omega, by omega, by omega⟩, fun i H v H' hi q y => ?_⟩
  obtain ⟨T, x0, y0, z0, e1, e2, e3, e4, e5, e6⟩ := y
  exact ⟨T, x0, y0, z0, e1, e2, e3, e4 xs q.1, e5 ys q.2.1, e6 zs q.2.2⟩
end Sw
namespace K33
open PySem PySem.Spec PyProof.Rows L2 Sw MC LamX
/-! curves in the heap -/
def ptD (p : Pt) : PyData := .tuple [frD p.1, frD p.2]
def cvD (c : Cv) : PyData := .tuple [.tuple (c.pts.map ptD), frD c.slope]
theorem fr_inj {p q : Rat} : frD p = frD q ↔ p = q := by
  constructor
  · intro h
    unfold frD at h
    injection h with h
    injection h with h1 h2
    injection h2 with h2 _
    injection h1 with h1
    injection h2 with h2
    exact rF_inj (Prod.ext h1 h2)
  · rintro rfl
    rfl
theorem fr_shaped (q : Rat) : SeqAt.shaped (frD q) = true := rfl
theorem eqv_fr (p q : Rat) : PyData.eqv (frD p) (frD q) = decide (p = q) := by
  have e : PyData.eqv (frD p) (frD q) = (decide ((rF p).1 = (rF q).1) && decide ((rF p).2 = (rF q).2)) := by
    unfold frD
    simp only [PyData.eqv, PyData.eqvAll, Bool.and_true]
    rfl
  rw [e, ← Bool.decide_and]
  refine decide_eq_decide.mpr ⟨fun h => rF_inj (Prod.ext h.1 h.2), fun h => by rw [h]; exact ⟨rfl, rfl⟩⟩
theorem pt_at {K : PySem.W.Frag} {mu : Addr → Prop} {H : Hp} {v : V} {p : Pt} (h : Dt K mu H v (ptD p)) : ∃ a x y, v = .ref a ∧ SqT K H a [x, y] ∧ Ql K H x p.1 ∧ Ql K H y p.2 := by
  obtain ⟨a, xs, rfl, hS, hA⟩ := h.tupAt
  obtain ⟨x, y, _, _, rfl, e, h1, h2⟩ := hA.two rfl
  cases e
  exact ⟨a, x, y, rfl, hS, dt_ql h1, dt_ql h2⟩
theorem cv_at {K : PySem.W.Frag} {mu : Addr → Prop} {H : Hp} {v : V} {c : Cv} (h : Dt K mu H v (cvD c)) : ∃ a b xs y, v = .ref a ∧ SqT K H a [.ref b, y] ∧ SqT K H b xs ∧ DtA K mu H xs (c.pts.map ptD) ∧ Ql K H y c.slope := by
  obtain ⟨a, xs, rfl, hS, hA⟩ := h.tupAt
  obtain ⟨x, y, _, _, rfl, e, h1, h2⟩ := hA.two rfl
  cases e
  obtain ⟨b, ys, rfl, hS2, hA2⟩ := h1.tupAt
  exact ⟨a, b, ys, y, rfl, hS, hS2, hA2, dt_ql h2⟩
theorem pts_get {K : PySem.W.Frag} {mu : Addr → Prop} {H : Hp} {xs : List V} {ps : List Pt} (h : DtA K mu H xs (ps.map ptD)) {i : Nat} {p : Pt} (hi : ps[i]? = some p) : ∃ v, xs[i]? = some v ∧ Dt K mu H v (ptD p) := h.getD (by rw [List.getElem?_map, hi]; rfl)
theorem dt_same {K : PySem.W.Frag} {mu : Addr → Prop} {H H' : Hp} {v : V} {d : PyData} (h : Dt K mu H v d) (s : Same H H') : Dt K mu H' v d := h.fut (.of_same s)
/-! how great curves are -/
def PBk (a : Nat) (p : Pt) : Prop := Rb a a p.1 ∧ Rb a a p.2
structure CBk (a b : Nat) (c : Cv) : Prop where
  pt : ∀ p ∈ c.pts, PBk a p
  rise : ∀ i, Rb b b (rise c.slope c.pts i)
abbrev PB (p : Pt) : Prop := PBk 600 p
abbrev CB (c : Cv) : Prop := CBk 400 400 c
abbrev CBw (c : Cv) : Prop := CBk 600 1200 c
theorem PBk.mono {a b : Nat} {p : Pt} (h : PBk a p) (k : a ≤ b) : PBk b p := ⟨h.1.mono k k, h.2.mono k k⟩
theorem CBk.mono {a b a' b' : Nat} {c : Cv} (h : CBk a b c) (k : a ≤ a') (l : b ≤ b') : CBk a' b' c := ⟨fun p hp => (h.pt p hp).mono k, fun i => (h.rise i).mono l l⟩
theorem CBk.wide {c : Cv} (h : CB c) : CBw c := h.mono (by decide) (by decide)
theorem CBk.at {a b : Nat} {c : Cv} (h : CBk a b c) {i : Nat} {p : Pt} (hi : c.pts[i]? = some p) : PBk a p := h.pt p (List.mem_of_getElem? hi)
def spStp (K : PySem.W.Frag) : Sp := fun vs H Q _ => ∃ (x y : V) (p q : Pt), vs = [x, y] ∧ Dt K mT H x (ptD p) ∧ Dt K mT H y (ptD q) ∧ p.1 < q.1 ∧ PB p ∧ PB q ∧ ∀ v H', Same H H' → Ql K H' v (stp p q) → Q v H'
section
variable {P : Program} {w : World} {K : PySem.W.Frag} {mg : Str → Option Value} {base : Heap}
abbrev ssteepness : Stmt := topS 15
theorem sc_steepness : FnScope ["low", "high"] ["low", "high"] (defScope ssteepness) := ⟨rfl, rfl, rfl, by decide +kernel, rfl, by decide +kernel, by decide +kernel⟩
theorem ok_steepness {f : Addr} {fd : FuncData} (F : Fun K "steepness" "steepness" ssteepness f fd) (B : Bt mg) (c_lessened : CalG P w K mg base 2 "lessened" (spQ2 K (· - ·))) (c_over : CalG P w K mg base 2 "over" (spQd K)) : FnG P w K mg base 3 f fd ["low", "high"] (spStp K) := by
  refine Fun.okG F sc_steepness (fun vs H Q E h => ?_) (fun cdv A outer s H vs Q E hg hr h => ?_)
  · obtain ⟨_, _, _, _, rfl, _⟩ := h
    rfl
  obtain ⟨x, y, p, q, rfl, hx, hy, lt, bp, bq, k⟩ := h
  refine ⟨_, (pss_one (ps_ret (pc c_over hg hr (by decide) (by rfl) (pa_cons (pc c_lessened hg hr (by decide) (by rfl) (pa_cons (pe_ix ix_tup (pv 1) pe_int (fun _ _ => rfl)) (pa_cons (pe_ix ix_tup (pv 0) pe_int (fun _ _ => rfl)) pa_nil))) (pa_cons (pc c_lessened hg hr (by decide) (by rfl) (pa_cons (pe_ix ix_tup (pv 1) pe_int (fun _ _ => rfl)) (pa_cons (pe_ix ix_tup (pv 0) pe_int (fun _ _ => rfl)) pa_nil))) pa_nil))))), ?_⟩
  obtain ⟨a, x1, x2, rfl, ha, h1, h2⟩ := pt_at hx
  obtain ⟨b, y1, y2, rfl, hb, g1, g2⟩ := pt_at hy
  refine ⟨_, rfl, b, _, 1, y2, rfl, rfl, hb, atI_nat (j := 1) rfl, _, rfl, a, _, 1, x2, rfl, rfl, ha, atI_nat (j := 1) rfl, y2, x2, q.2, p.2, rfl, g2, h2, bq.2.bq (by decide) (by decide), bp.2.bq (by decide) (by decide), fun v1 H1 s1 hv1 => ?_⟩
  refine ⟨_, rfl, b, _, 0, y1, rfl, rfl, s1.seqT hb, atI_nat (j := 0) rfl, _, rfl, a, _, 0, x1, rfl, rfl, s1.seqT ha, atI_nat (j := 0) rfl, y1, x1, q.1, p.1, rfl, g1.same s1, h1.same s1, bq.1.bq (by decide) (by decide), bp.1.bq (by decide) (by decide), fun v2 H2 s2 hv2 => ?_⟩
  refine ⟨v1, v2, _, _, rfl, hv1.same s2, hv2, (bq.2.sub bp.2 (c := 1201) (by decide) (by decide)).bq (by decide) (by decide), (bq.1.sub bp.1 (c := 1201) (by decide) (by decide)).bq (by decide) (by decide), by grind, fun v3 H3 s3 hv3 => k v3 H3 ((s1.trans s2).trans s3) hv3⟩
/-- the last row up to a level -/
def spUpTo (K : PySem.W.Frag) : Sp := fun vs H Q _ => ∃ (a : Addr) (y : V) (xs : List V) (ps : List Pt) (x : Rat), vs = [.ref a, y] ∧ SqT K H a xs ∧ DtA K mT H xs (ps.map ptD) ∧ Ql K H y x ∧ (∀ p ∈ ps, PB p) ∧ Rb 1700 1700 x ∧ (∃ p, ps[0]? = some p ∧ p.1 ≤ x) ∧ ps.length ≤ 1000 ∧
  ∀ H' (i : Nat) p, Same H H' → ps[i]? = some p → p.1 ≤ x → (∀ q, ps[i + 1]? = some q → x < q.1) → Q (.int i) H'
abbrev slast_up_to : Stmt := topS 16
theorem sc_last_up_to : FnScope ["rows", "level", "low", "high", "middle"] ["rows", "level"] (defScope slast_up_to) := ⟨rfl, rfl, rfl, by decide +kernel, rfl, by decide +kernel, by decide +kernel⟩
theorem ok_last_up_to {f : Addr} {fd : FuncData} (F : Fun K "last_up_to" "last_up_to" slast_up_to f fd) (B : Bt mg) (c_compared : CalG P w K mg base 3 "compared" (spQc K)) : FnG P w K mg base 4 f fd ["rows", "level"] (spUpTo K) := by
  refine Fun.okG F sc_last_up_to (fun vs H Q E h => ?_) (fun cdv A outer s H vs Q E hg hr h => ?_)
  · obtain ⟨_, _, _, _, _, rfl, _⟩ := h
    rfl
  obtain ⟨a, y, xs, ps, x, rfl, hS, hA, hy, hb, bx, ⟨p0, hp0, hx0⟩, hl, k⟩ := h
  refine ⟨_, (pss_cons (ps_par (i := 2) (j := 3) rfl sc_last_up_to.nd rfl rfl (by decide) rfl rfl (pa_cons pe_int (pa_cons (pe_callB call_lenA (by rfl) B.len boot_len (pa_cons (pv 0) pa_nil)) pa_nil)) (by rfl))
    (pss_cons (ps_while PassesOwn.never (pt_cmpR op_gt (pe_op op_sub (pv 3) (pv 2)) pe_int (nomark _))
      (pss_cons (ps_set (i := 4) sc_last_up_to.nd rfl (Or.inl rfl) (pe_op op_fdiv (pe_op op_add (pv 2) (pv 3)) pe_int))
      (pss_one (ps_if (pt_cmpR op_le (pc c_compared hg hr (by decide) (by rfl) (pa_cons (pe_ix ix_tup (pe_ix ix_tup (pv 0) (pv 4) (fun _ _ => rfl)) pe_int (fun _ _ => rfl)) (pa_cons (pv 1) pa_nil))) pe_int (nomark _))
        (pss_one (ps_set (i := 2) sc_last_up_to.nd rfl (Or.inl rfl) (pv 4)))
        (pss_one (ps_set (i := 3) sc_last_up_to.nd rfl (Or.inl rfl) (pv 4)))))))
    (pss_one (ps_ret (pv 2))))), ?_⟩
  have hlen := hA.length
  rw [List.length_map] at hlen
  have hpos : 0 < ps.length := (List.getElem?_eq_some_iff.mp hp0).1
  refine ⟨_, rfl, _, ps.length, rfl, .inr ⟨xs, hS, hlen.symm⟩, _, _, rfl, ?_⟩
  refine while_by (fun σ H1 => ∃ (lo hi : Nat) (o : Option V), σ = [some (.ref a), some y, some (.int lo), some (.int hi), o] ∧ Same H H1 ∧ lo < hi ∧ hi ≤ ps.length ∧ (∃ p, ps[lo]? = some p ∧ p.1 ≤ x) ∧ (∀ q, ps[hi]? = some q → x < q.1)) (fun σ _ => match σ with | [_, _, some (.int i), some (.int j), _] => (j - i).toNat | _ => 0) ⟨0, ps.length, _, rfl, .refl H, hpos, Nat.le_refl _, ⟨p0, hp0, hx0⟩, fun q hq => by simp at hq⟩ ?_ ?_
  · rintro σ H1 ⟨lo, hi, o, rfl, s, l1, l2, ⟨p, hp, px⟩, hq⟩
    refine ⟨_, rfl, _, rfl, _, _, rfl, rfl, _, _, rfl, rfl, _, rfl, iteP (fun h => ?_) fun h => ?_⟩
    · refine ⟨_, rfl, _, rfl, _, _, rfl, rfl, _, _, rfl, rfl, ⟨by decide, by decide⟩, ?_⟩
      obtain ⟨m, hm⟩ : ∃ m : Nat, m = (lo + hi) / 2 := ⟨_, rfl⟩
      have em : ((lo : Int) + (hi : Int)) / 2 = (m : Int) := by omega
      have m1 : lo < m := by omega
      have m2 : m < hi := by omega
      have em2 : (fun i j : Int => V.int (i / j)) ((lo : Int) + (hi : Int)) 2 = .int (m : Int) := congrArg V.int em
      rw [em2]
      obtain ⟨r, hr'⟩ : ∃ r, ps[m]? = some r := ⟨_, List.getElem?_eq_getElem (by omega)⟩
      obtain ⟨v, hv, dv⟩ := pts_get hA hr'
      obtain ⟨c, u1, u2, rfl, hc, g1, g2⟩ := pt_at (dt_same dv s)
      refine ⟨_, rfl, _, rfl, a, xs, (m : Int), .ref c, rfl, rfl, s.seqT hS, atI_nat (j := m) hv, c, _, 0, u1, rfl, rfl, hc, atI_nat (j := 0) rfl, _, rfl, u1, y, r.1, x, rfl, g1, hy.same s, (hb r (List.mem_of_getElem? hr')).1.bq (by decide) (by decide), bx.bq (by decide) (by decide), fun H2 cc s2 k1 k2 => ⟨_, _, rfl, rfl, _, rfl, iteP (fun h2 => ?_) fun h2 => ?_⟩⟩
      · refine ⟨_, rfl, ⟨m, hi, _, rfl, s.trans s2, m2, l2, ⟨r, hr', ?_⟩, hq⟩, ?_⟩
        · have : ¬ x < r.1 := fun z => by have := k2.mpr z; omega
          grind
        · show ((hi : Int) - (m : Int)).toNat < ((hi : Int) - (lo : Int)).toNat
          omega
      · refine ⟨_, rfl, ⟨lo, m, _, rfl, s.trans s2, m1, by omega, ⟨p, hp, px⟩, fun q hq' => ?_⟩, ?_⟩
        · rw [hr'] at hq'
          cases hq'
          exact k2.mp (by omega)
        · show ((m : Int) - (lo : Int)).toNat < ((hi : Int) - (lo : Int)).toNat
          omega
    · have e : hi = lo + 1 := by omega
      subst e
      exact ⟨_, rfl, k H1 lo p s hp px hq⟩
  · rintro σ H1 R R' hh ⟨v, e1, v2, e2, i, j, e3, e4, i', j', e5, e6, c, e7, q⟩
    exact ⟨v, e1, v2, e2, i, j, e3, e4, i', j', e5, e6, c, e7, hh _ _ q⟩
def spPlace (K : PySem.W.Frag) : Sp := fun vs H Q _ => ∃ (v y : V) (c : Cv) (x : Rat), vs = [v, y] ∧ Dt K mT H v (cvD c) ∧ Ql K H y x ∧ c.Ok ∧ CBw c ∧ Rb 1700 1700 x ∧ 0 ≤ x ∧ c.pts.length ≤ 1000 ∧
  ∀ H' (i : Nat) p, Same H H' → c.pts[i]? = some p → p.1 ≤ x → (∀ q, c.pts[i + 1]? = some q → x < q.1) → Q (.int i) H'
abbrev splace_at : Stmt := topS 17
theorem sc_place_at : FnScope ["curve", "level"] ["curve", "level"] (defScope splace_at) := ⟨rfl, rfl, rfl, by decide +kernel, rfl, by decide +kernel, by decide +kernel⟩
theorem ok_place_at {f : Addr} {fd : FuncData} (F : Fun K "place_at" "place_at" splace_at f fd) (B : Bt mg) (c_last_up_to : CalG P w K mg base 4 "last_up_to" (spUpTo K)) : FnG P w K mg base 5 f fd ["curve", "level"] (spPlace K) := by
  refine Fun.okG F sc_place_at (fun vs H Q E h => ?_) (fun cdv A outer s H vs Q E hg hr h => ?_)
  · obtain ⟨_, _, _, _, rfl, _⟩ := h
    rfl
  obtain ⟨v, y, c, x, rfl, hv, hy, ok, cb, bx, x0, hl, k⟩ := h
  refine ⟨_, (pss_one (ps_ret (pc c_last_up_to hg hr (by decide) (by rfl) (pa_cons (pe_ix ix_tup (pv 0) pe_int (fun _ _ => rfl)) (pa_cons (pv 1) pa_nil))))), ?_⟩
  obtain ⟨a, b, xs, u, rfl, ha, hb, hA, hu⟩ := cv_at hv
  obtain ⟨r, er⟩ := ok.hd
  refine ⟨_, rfl, a, _, 0, .ref b, rfl, rfl, ha, atI_nat (j := 0) rfl, _, rfl, b, y, xs, c.pts, x, rfl, hb, hA, hy, cb.pt, bx, ⟨(0, 0), by rw [er]; rfl, x0⟩, hl, fun H' i p s h1 h2 h3 => k H' i p s h1 h2 h3⟩
def spRise (K : PySem.W.Frag) : Sp := fun vs H Q _ => ∃ (v : V) (c : Cv) (i : Nat), vs = [v, .int i] ∧ Dt K mT H v (cvD c) ∧ c.Ok ∧ CBw c ∧ i < c.pts.length ∧ c.pts.length ≤ 1000 ∧ ∀ v H', Same H H' → Ql K H' v (rise c.slope c.pts i) → Q v H'
abbrev srise_behind : Stmt := topS 18
theorem sc_rise_behind : FnScope ["curve", "place", "corners", "slope"] ["curve", "place"] (defScope srise_behind) := ⟨rfl, rfl, rfl, by decide +kernel, rfl, by decide +kernel, by decide +kernel⟩
theorem ok_rise_behind {f : Addr} {fd : FuncData} (F : Fun K "rise_behind" "rise_behind" srise_behind f fd) (B : Bt mg) (c_steepness : CalG P w K mg base 3 "steepness" (spStp K)) : FnG P w K mg base 4 f fd ["curve", "place"] (spRise K) := by
  refine Fun.okG F sc_rise_behind (fun vs H Q E h => ?_) (fun cdv A outer s H vs Q E hg hr h => ?_)
  · obtain ⟨_, _, _, rfl, _⟩ := h
    rfl
  obtain ⟨v, c, i, rfl, hv, ok, cb, hi, hl, k⟩ := h
  refine ⟨_, (pss_cons (ps_asg (pv 0) (pg_tup (n := 2) rfl (pgs_cons (pg_name (i := 2) sc_rise_behind.nd rfl (Or.inl rfl)) (pgs_cons (pg_name (i := 3) sc_rise_behind.nd rfl (Or.inl rfl)) pgs_nil))))
    (pss_cons (ps_if (pt_cmpR op_eq (pe_op op_add (pv 1) pe_int) (pe_callB call_lenA (by rfl) B.len boot_len (pa_cons (pv 2) pa_nil)) (nomark _))
      (pss_one (ps_ret (pv 3)))
      pss_nil)
    (pss_one (ps_ret (pc c_steepness hg hr (by decide) (by rfl) (pa_cons (pe_ix ix_tup (pv 2) (pv 1) (fun _ _ => rfl)) (pa_cons (pe_ix ix_tup (pv 2) (pe_op op_add (pv 1) pe_int) (fun _ _ => rfl)) pa_nil))))))), ?_⟩
  obtain ⟨a, b, xs, u, rfl, ha, hb, hA, hu⟩ := cv_at hv
  have hlen := hA.length
  rw [List.length_map] at hlen
  refine ⟨_, rfl, a, _, rfl, ha, rfl, _, _, rfl, _, _, rfl, rfl, ?_⟩
  refine ⟨_, rfl, _, _, rfl, rfl, _, rfl, _, c.pts.length, rfl, .inr ⟨xs, hb, hlen.symm⟩, rfl, _, rfl, iteEq (fun e => ?_) fun e => ?_⟩
  · have e1 : c.pts[i + 1]? = none := List.getElem?_eq_none (by omega)
    refine ⟨_, rfl, k _ H (.refl H) ?_⟩
    rw [rise_last e1]
    exact hu
  · have l2 : i + 1 < c.pts.length := by omega
    obtain ⟨p, hp⟩ : ∃ p, c.pts[i]? = some p := ⟨_, List.getElem?_eq_getElem hi⟩
    obtain ⟨q, hq⟩ : ∃ q, c.pts[i + 1]? = some q := ⟨_, List.getElem?_eq_getElem l2⟩
    obtain ⟨v1, g1, d1⟩ := pts_get hA hp
    obtain ⟨v2, g2, d2⟩ := pts_get hA hq
    have lt := asc_lt ok.asc hp hq (Nat.lt_succ_self i)
    refine ⟨_, rfl, _, rfl, b, xs, (i : Int), v1, rfl, rfl, hb, atI_nat (j := i) g1, _, rfl, _, rfl, _, _, rfl, rfl, b, xs, ((i + 1 : Nat) : Int), v2, rfl, rfl, hb, atI_nat (j := i + 1) g2, v1, v2, p, q, rfl, d1, d2, lt.1, cb.at hp, cb.at hq, fun v H' s hv => k v H' s ?_⟩
    rw [rise_in hp hq]
    exact hv
def spPay (K : PySem.W.Frag) : Sp := fun vs H Q _ => ∃ (v y : V) (c : Cv) (x : Rat), vs = [v, y] ∧ Dt K mT H v (cvD c) ∧ Ql K H y x ∧ c.Ok ∧ CB c ∧ Rb 1700 1700 x ∧ 0 ≤ x ∧ c.pts.length ≤ 1000 ∧ ∀ v H', Same H H' → Ql K H' v (c.ev x) → Q v H'
abbrev spay_at : Stmt := topS 19
theorem sc_pay_at : FnScope ["curve", "level", "place", "begin", "pay"] ["curve", "level"] (defScope spay_at) := ⟨rfl, rfl, rfl, by decide +kernel, rfl, by decide +kernel, by decide +kernel⟩
theorem ok_pay_at {f : Addr} {fd : FuncData} (F : Fun K "pay_at" "pay_at" spay_at f fd) (B : Bt mg) (c_added : CalG P w K mg base 1 "added" (spQ2 K (· + ·))) (c_lessened : CalG P w K mg base 2 "lessened" (spQ2 K (· - ·))) (c_times : CalG P w K mg base 1 "times" (spQ2 K (· * ·)))
    (c_place_at : CalG P w K mg base 5 "place_at" (spPlace K)) (c_rise_behind : CalG P w K mg base 4 "rise_behind" (spRise K)) : FnG P w K mg base 6 f fd ["curve", "level"] (spPay K) := by
  refine Fun.okG F sc_pay_at (fun vs H Q E h => ?_) (fun cdv A outer s H vs Q E hg hr h => ?_)
  · obtain ⟨_, _, _, _, rfl, _⟩ := h
    rfl
  obtain ⟨v, y, c, x, rfl, hv, hy, ok, cb, bx, x0, hl, k⟩ := h
  have hu := Room.u64 hr
  refine ⟨_, (pss_cons (ps_set (i := 2) sc_pay_at.nd rfl (Or.inl rfl) (pc c_place_at hg hr (by decide) (by rfl) (pa_cons (pv 0) (pa_cons (pv 1) pa_nil))))
    (pss_cons (ps_asg (pe_ix ix_tup (pe_ix ix_tup (pv 0) pe_int (fun _ _ => rfl)) (pv 2) (fun _ _ => rfl)) (pg_tup (n := 2) rfl (pgs_cons (pg_name (i := 3) sc_pay_at.nd rfl (Or.inl rfl)) (pgs_cons (pg_name (i := 4) sc_pay_at.nd rfl (Or.inl rfl)) pgs_nil))))
    (pss_cons (ps_if (pt_cmpR (op_eqW hu) (pv 3) (pv 1) (nomark _))
      (pss_one (ps_ret (pv 4)))
      pss_nil)
    (pss_one (ps_ret (pc c_added hg hr (by decide) (by rfl) (pa_cons (pv 4) (pa_cons (pc c_times hg hr (by decide) (by rfl) (pa_cons (pc c_rise_behind hg hr (by decide) (by rfl) (pa_cons (pv 0) (pa_cons (pv 2) pa_nil))) (pa_cons (pc c_lessened hg hr (by decide) (by rfl) (pa_cons (pv 1) (pa_cons (pv 3) pa_nil))) pa_nil))) pa_nil)))))))), ?_⟩
  obtain ⟨a, b, xs, u, rfl, ha, hb, hA, hsl⟩ := cv_at hv
  have hlen := hA.length
  rw [List.length_map] at hlen
  refine ⟨_, rfl, _, rfl, _, y, c, x, rfl, hv, hy, ok, cb.wide, bx, x0, hl, fun H1 i p s1 hp h1 h2 => ?_⟩
  obtain ⟨v1, g1, d1⟩ := pts_get hA hp
  obtain ⟨d, x1, x2, rfl, hd, q1, q2⟩ := pt_at (dt_same d1 s1)
  refine ⟨_, rfl, a, _, 0, .ref b, rfl, rfl, s1.seqT ha, atI_nat (j := 0) rfl, _, rfl, b, xs, (i : Int), .ref d, rfl, rfl, s1.seqT hb, atI_nat (j := i) g1, d, _, rfl, hd, rfl, _, _, rfl, _, _, rfl, rfl, ?_⟩
  have lp := List.getElem?_eq_some_iff.mp hp
  have pay := ok.at hp h1 h2
  refine ⟨_, rfl, _, rfl, mT, frD p.1, frD x, q1.dt, (hy.same s1).dt, fr_shaped _, fr_shaped _, _, rfl, ?_⟩
  rw [eqv_fr]
  refine iteP (fun e => ?_) fun e => ?_
  · refine ⟨_, rfl, k _ H1 s1 ?_⟩
    have : c.ev x = p.2 := by
      rw [pay, e]
      grind
    rw [this]
    exact q2
  · refine ⟨_, rfl, _, rfl, _, rfl, _, c, i, rfl, dt_same hv s1, ok, cb.wide, lp.1, hl, fun v3 H3 s3 h3 => ?_⟩
    have bi := cb.at hp
    have br := cb.rise i
    have bd := bx.sub bi.1 (c := 2101) (by decide) (by decide)
    have bm := br.mul bd
    refine ⟨_, rfl, _, rfl, y, x1, x, p.1, rfl, (hy.same s1).same s3, q1.same s3, bx.bq (by decide) (by decide), bi.1.bq (by decide) (by decide), fun v4 H4 s4 h4 => ?_⟩
    refine ⟨v3, v4, _, _, rfl, h3.same s4, h4, br.bq (by decide) (by decide), bd.bq (by decide) (by decide), fun v5 H5 s5 h5 => ?_⟩
    refine ⟨x2, v5, p.2, _, rfl, ((q2.same s3).same s4).same s5, h5, bi.2.bq (by decide) (by decide), bm.bq (by decide) (by decide), fun v6 H6 s6 h6 => k v6 H6 ((((s1.trans s3).trans s4).trans s5).trans s6) ?_⟩
    rw [pay]
    exact h6
end
end K33
namespace K33
open PySem PySem.Spec PyProof.Rows L2 Sw MC LamX
theorem bends_get {s : Rat} : ∀ {ps : List Pt} {ρ : Rat} {i : Nat} {p : Pt}, ps[i]? = some p → (bends s ρ ps)[i]? = some (p.1, rise s ps i - (if i = 0 then ρ else rise s ps (i - 1)))
  | [a], ρ, 0, p, h => by
    cases h
    rfl
  | a :: b :: r, ρ, 0, p, h => by
    cases h
    rfl
  | [a], ρ, i + 1, p, h => by simp at h
  | a :: b :: r, ρ, i + 1, p, h => by
    have h : (b :: r)[i]? = some p := h
    show (bends s (stp a b) (b :: r))[i]? = _
    rw [bends_get h]
    cases i with
    | zero => rfl
    | succ i => rfl
theorem bends_len {s : Rat} : ∀ {ps : List Pt} {ρ : Rat}, (bends s ρ ps).length = ps.length
  | [], _ => rfl
  | [_], _ => rfl
  | a :: b :: r, ρ => by
    show (bends s (stp a b) (b :: r)).length + 1 = _
    rw [bends_len]
    rfl
theorem ql_zero {K : PySem.W.Frag} {H : Hp} {z : Addr} (h : KTup K z [.int 0, .int 1]) : Ql K H (.ref z) 0 := ⟨z, rfl, .inr h⟩
theorem sz8 {n : Nat} (h : n ≤ 8) : n ≤ sizeLine := Nat.le_trans h (by rw [sizeLine_eq]; decide)
theorem sqk_t {K : PySem.W.Frag} {H : Hp} {a : Addr} {xs : List V} (h : SqT K H a xs) : SqK K H true a xs := h
theorem sqk_l {K : PySem.W.Frag} {H : Hp} {a : Addr} {xs : List V} (h : SqL K H a xs) : SqK K H false a xs := h
theorem same_at {H H' : Hp} {D : Addr} {o : HO} (s : Same H H') (n : H D = none) : Same H (upd H' D o) := fun z o' q => by
  rw [upd_ne (ne_of_none q n)]
  exact s _ _ q
theorem dtA_at {K : PySem.W.Frag} {H : Hp} {D : Addr} {xs : List V} {ds : List PyData} {ys : List V} {o : HO} (h : DtA K mT H xs ds) (e : H D = some (.lst ys)) : DtA K mT (upd H D o) xs ds := h.fut fun a o' e' z => by
  by_cases q : a = D
  · subst q
    rw [e] at e'
    cases e'
    rcases z with z | ⟨_, z⟩ | ⟨_, _, z⟩
    · exact absurd trivial z
    · cases z
    · cases z
  · rw [upd_ne q]
    exact e'
theorem take_snoc {α β : Type} {f : α → β} {l : List α} {i : Nat} {x : α} (h : l[i]? = some x) : (l.take (i + 1)).map f = (l.take i).map f ++ [f x] := by
  rw [List.take_add_one, h, List.map_append]
  rfl
def spBends (K : PySem.W.Frag) : Sp := fun vs H Q _ => ∃ (v : V) (c : Cv), vs = [v] ∧ Dt K mT H v (cvD c) ∧ c.Ok ∧ CB c ∧ c.pts.length ≤ 100 ∧ ∀ l H' xs, Same H H' → H' l = some (.lst xs) → DtA K mT H' xs ((bends c.slope 0 c.pts).map ptD) → Q (.ref l) H'
section
variable {P : Program} {w : World} {K : PySem.W.Frag} {mg : Str → Option Value} {base : Heap}
abbrev sbends_of : Stmt := topS 21
theorem sc_bends_of : FnScope ["curve", "rises", "place", "corner", "rise", "before"] ["curve"] (defScope sbends_of) := ⟨rfl, rfl, rfl, by decide +kernel, rfl, by decide +kernel, by decide +kernel⟩
theorem ok_bends_of {f : Addr} {fd : FuncData} {z : Addr} (F : Fun K "bends_of" "bends_of" sbends_of f fd) (B : Bt mg) (TZ : ∃ u, mg "ZERO" = some u ∧ RelV (.ref z) u) (KZ : KTup K z [.int 0, .int 1]) (c_lessened : CalG P w K mg base 2 "lessened" (spQ2 K (· - ·)))
    (c_rise_behind : CalG P w K mg base 4 "rise_behind" (spRise K)) : FnG P w K mg base 5 f fd ["curve"] (spBends K) := by
  refine Fun.okG F sc_bends_of (fun vs H Q E h => ?_) (fun cdv A outer s H vs Q E hg hr h => ?_)
  · obtain ⟨_, _, rfl, _⟩ := h
    rfl
  obtain ⟨v, c, rfl, hv, ok, cb, hl, k⟩ := h
  obtain ⟨uz, mz, rz⟩ := TZ
  refine ⟨_, (pss_cons (ps_setLc (i := 1) (own := [("place", 2)]) rfl sc_bends_of.nd rfl rfl (sw_true rfl rfl rfl (by decide +kernel)) (pi_range1 (by rfl) B.range (pa_cons (pe_callB call_lenA (by rfl) B.len boot_len (pa_cons (pe_ix ix_tup (pv 0) pe_int (fun _ _ => rfl)) pa_nil)) pa_nil)) (blkOk_by (own := [("place", 2)]) (N := ["curve", "rises", "place", "corner", "rise", "before"]) (sc := (defScope sbends_of)) (by decide +kernel)) (fun _ _ _ _ _ => (pg_name (i := 2) sc_bends_of.nd rfl (Or.inl rfl))) (fun _ _ _ _ _ => pts_nil) (fun _ _ _ _ _ => (pc c_rise_behind hg hr (by decide) (by rfl) (pa_cons (pv 0) (pa_cons (pv 2) pa_nil)))))
    (pss_one (ps_ret (pe_lc (own := [("corner", 3), ("rise", 4), ("before", 5)]) rfl sc_bends_of.nd (pi_zip3 true false false (by rfl) B.zip (pa_cons (pe_ix ix_tup (pv 0) pe_int (fun _ _ => rfl)) (pa_cons (pv 1) (pa_cons (pe_op op_cat (pe_lst (pa_cons (pe_glob (v := .ref z) (by rfl) mz rz) pa_nil)) (pv 1)) pa_nil)))) (blkOk_by (own := [("corner", 3), ("rise", 4), ("before", 5)]) (N := ["curve", "rises", "place", "corner", "rise", "before"]) (sc := (defScope sbends_of)) (by decide +kernel)) (fun _ _ _ _ _ => (pg_tupK (K := K) (hK := rfl) (n := 3) rfl (pgs_cons (pg_name (i := 3) sc_bends_of.nd rfl (Or.inl rfl)) (pgs_cons (pg_name (i := 4) sc_bends_of.nd rfl (Or.inl rfl)) (pgs_cons (pg_name (i := 5) sc_bends_of.nd rfl (Or.inl rfl)) pgs_nil))))) (fun _ _ _ _ _ => pts_nil) (fun _ _ _ _ _ => (pe_tup (pa_cons (pe_ix (ix_tupK (K := K) rfl) (pv 3) pe_int (fun _ _ => rfl)) (pa_cons (pc c_lessened hg hr (by decide) (by rfl) (pa_cons (pv 4) (pa_cons (pv 5) pa_nil))) pa_nil)))))))), ?_⟩
  obtain ⟨a, b, xs, u, rfl, ha, hb, hA, hsl⟩ := cv_at hv
  have hlen := hA.length
  rw [List.length_map] at hlen
  have pos : 0 < c.pts.length := by
    obtain ⟨r, er⟩ := ok.hd
    rw [er]
    exact Nat.zero_lt_succ _
  refine ⟨_, rfl, a, _, 0, .ref b, rfl, rfl, ha, atI_nat (j := 0) rfl, _, c.pts.length, rfl, .inr ⟨xs, hb, hlen.symm⟩, ?_⟩
  obtain ⟨rs, hrs⟩ : ∃ rs : List Rat, rs = (List.range c.pts.length).map (rise c.slope c.pts) := ⟨_, rfl⟩
  have rlen : rs.length = c.pts.length := by rw [hrs, List.length_map, List.length_range]
  have rget : ∀ i, i < c.pts.length → rs[i]? = some (rise c.slope c.pts i) := fun i hi => by
    rw [hrs, List.getElem?_map, List.getElem?_range hi]
    rfl
  refine ⟨(c.pts.length : Int), rfl, by omega, by omega, fun D nD => ?_⟩
  refine lc_it (walk_range (lo := 0) (n := (c.pts.length : Int).toNat)) (fun i H' => Same H H' ∧ ∃ ys, H' D = some (.lst ys) ∧ DtA K mT H' ys ((rs.take i).map frD)) ⟨same_upd nD, [], upd_same, .nil⟩ (fun _ _ _ _ => trivial) ?_ ?_
  · rintro i x H1 H2 hi ⟨s1, ys, e1, a1⟩ ⟨rfl, rfl⟩
    have hi2 : i < c.pts.length := by omega
    refine ⟨rfl, _, rfl, _, rfl, .ref a, c, i, by simp, dt_same hv s1, ok, cb.wide, hi2, by omega, fun v3 H3 s3 h3 => ?_⟩
    have e3 := s3 _ _ e1
    have l1 := a1.length
    rw [List.length_map, List.length_take] at l1
    refine ⟨ys, e3, small1000 (by omega), same_at (s1.trans s3) nD, ys ++ [v3], upd_same, ?_⟩
    rw [take_snoc (rget i hi2)]
    exact ((a1.fut (.of_same s3)).append (.cons h3.dt .nil)).fut (mu := mT) (fun a' o' e' z => by
      by_cases q : a' = D
      · subst q
        rw [e3] at e'
        cases e'
        rcases z with z | ⟨_, z⟩ | ⟨_, _, z⟩
        · exact absurd trivial z
        · cases z
        · cases z
      · rw [upd_ne q]
        exact e')
  · rintro H1 ⟨s1, ys, e1, a1⟩
    have en : (c.pts.length : Int).toNat = rs.length := by omega
    rw [en, List.take_length] at a1
    have ylen := a1.length
    rw [List.length_map] at ylen
    refine ⟨_, rfl, a, _, 0, .ref b, rfl, rfl, s1.seqT ha, atI_nat (j := 0) rfl, _, rfl, sz8 (by simp), fun p1 n1 => ?_⟩
    have s2 := same_upd (o := .lst [V.ref z]) n1
    refine ⟨_, rfl, p1, D, [.ref z], ys, rfl, rfl, upd_same, s2 _ _ e1, by have := sizeLine_eq; simp only [List.length_cons, List.length_nil]; omega, fun p2 n2 => ?_⟩
    have s3 := same_upd (o := .lst ([V.ref z] ++ ys)) n2
    have s13 := s1.trans (s2.trans s3)
    have e3 := (s2.trans s3) _ _ e1
    have a3 := a1.fut (K := K) (mu := mT) (.of_same (s2.trans s3))
    have hp2 := upd_same (H := upd H1 p1 (.lst [V.ref z])) (a := p2) (o := .lst ([V.ref z] ++ ys))
    generalize upd (upd H1 p1 (.lst [V.ref z])) p2 (.lst ([V.ref z] ++ ys)) = H4 at s13 e3 a3 hp2
    refine ⟨b, D, p2, xs, ys, [V.ref z] ++ ys, rfl, sqk_t (s13.seqT hb), sqk_l (.inl (.inl e3)), sqk_l (.inl (.inl hp2)), fun D2 nD2 => ?_⟩
    refine lc_it (walk_zip3 (K := K) (k1 := true) (k2 := false) (k3 := false) (a := b) (b := D) (c := p2) (xs := xs) (ys := ys) (zs := [V.ref z] ++ ys) (n := c.pts.length) (by simp only [List.length_append, List.length_cons, List.length_nil]; omega))
      (fun i H' => Same H4 H' ∧ ∃ us, H' D2 = some (.lst us) ∧ DtA K mT H' us (((bends c.slope 0 c.pts).take i).map ptD)) ⟨same_upd nD2, [], upd_same, .nil⟩ (fun i H' _ h => ⟨sqk_t ((s13.trans h.1).seqT hb), sqk_l (.inl (.inl (h.1 _ _ e3))), sqk_l (.inl (.inl (h.1 _ _ hp2)))⟩) ?_ ?_
    · rintro i x H5 H6 hi ⟨s5, us, e5, a5⟩ ⟨T, x1, x2, x3, rfl, nT, rfl, g1, g2, g3⟩
      obtain ⟨p, hp⟩ : ∃ p, c.pts[i]? = some p := ⟨_, List.getElem?_eq_getElem hi⟩
      have sT := same_upd (o := .tup [x1, x2, x3]) nT
      have s6 := s5.trans sT
      have g1 : xs[i]? = some x1 := g1
      have g2 : ys[i]? = some x2 := g2
      have g3 : ([V.ref z] ++ ys)[i]? = some x3 := g3
      obtain ⟨v1, w1, d1⟩ := pts_get hA hp
      rw [g1] at w1
      cases w1
      obtain ⟨c1, u1, u2, rfl, hc1, q1, q2⟩ := pt_at (dt_same d1 (s13.trans s6))
      obtain ⟨v2, w2, d2⟩ := a3.getD (i := i) (d := frD (rise c.slope c.pts i)) (by rw [List.getElem?_map, rget i hi]; rfl)
      rw [g2] at w2
      cases w2
      have r2 := dt_ql (dt_same d2 s6)
      have r3 : Ql K (upd H5 T (.tup [V.ref c1, x2, x3])) x3 (if i = 0 then 0 else rise c.slope c.pts (i - 1)) := by
        cases i with
        | zero =>
          cases g3
          exact ql_zero KZ
        | succ i =>
          obtain ⟨v4, w4, d4⟩ := a3.getD (i := i) (d := frD (rise c.slope c.pts i)) (by rw [List.getElem?_map, rget i (by omega)]; rfl)
          have g3 : ys[i]? = some x3 := g3
          rw [g3] at w4
          cases w4
          exact dt_ql (dt_same d4 s6)
      have b3 : Rb 400 400 (if i = 0 then 0 else rise c.slope c.pts (i - 1)) := by
        split
        · exact rb_zero.mono (by decide) (by decide)
        · exact cb.rise _
      refine ⟨T, _, rfl, .of upd_same, rfl, _, _, rfl, _, _, rfl, _, _, rfl, rfl, rfl, _, rfl, c1, _, 0, u1, rfl, rfl, hc1, atI_nat (j := 0) rfl, _, rfl, _, rfl, x2, x3, _, _, rfl, r2, r3, (cb.rise i).bq (by decide) (by decide), b3.bq (by decide) (by decide), fun v7 H7 s7 h7 => ⟨sz8 (by simp), fun T2 nT2 => ?_⟩⟩
      have e7 := (sT.trans s7) _ _ e5
      have s8 := same_upd (o := .tup [u1, v7]) nT2
      have e8 := s8 _ _ e7
      have l5 := a5.length
      rw [List.length_map, List.length_take] at l5
      have s68 := (sT.trans s7).trans s8
      refine ⟨us, e8, small1000 (by have := bends_len (s := c.slope) (ps := c.pts) (ρ := 0); omega), same_at (s5.trans s68) nD2, us ++ [.ref T2], upd_same, ?_⟩
      rw [take_snoc (bends_get hp)]
      exact dtA_at ((a5.fut (.of_same s68)).append (.cons (.tup (.inl upd_same) (.cons (Ql.dt (((q1.same s7).same s8))) (.cons (Ql.dt (h7.same s8)) .nil))) .nil)) e8
    · rintro H5 ⟨s5, us, e5, a5⟩
      rw [List.take_of_length_le (by rw [bends_len]; exact Nat.le_refl _)] at a5
      exact k D2 H5 us (s13.trans s5) e5 a5
end
end K33
namespace K33
open PySem PySem.Spec PyProof.Rows L2 Sw MC LamX
/-! fractions by what they stand for -/
def qL : Str := Str.ofString "ascending" ++ Str.ofString ".<locals>." ++ Str.ofString "<lambda>"
def tbT (pt : Addr) : List (Addr × Str) := [(pt, qL)]
theorem exN_fut {H H' : Hp} (e : ExtN H H') : Fut mT H H' := fun a o h z => e a o h fun ps q => by
  subst q
  rcases z with z | ⟨_, z⟩ | ⟨_, _, z⟩
  · exact absurd trivial z
  · cases z
  · cases z
theorem exN_same {H H' : Hp} (s : Same H H') : ExtN H H' := fun b o h _ => s b o h
theorem tabs_same {T : List (Addr × Str)} {H H' : Hp} (t : Tabs T H) (s : Same H H') : Tabs T H' := t.ext fun b o h => s b o h
theorem exN_list {H H' : Hp} {a : Addr} {xs : List V} (h : H a = some (.lst xs)) (e : ExtN H H') : H' a = some (.lst xs) := e _ _ h fun _ z => nomatch z
/-! entries -/
theorem getX_isSome {es : List Ent} {k : Int × Int} : (getX es k).isSome = true ↔ ∃ e ∈ es, e.1 = k := by
  unfold getX
  rw [Option.isSome_map, List.find?_isSome]
  simp
theorem putX_mem {es : List Ent} {k k' : Int × Int} {b : Addr} {v : V} : (∃ e ∈ putX es k b v, e.1 = k') ↔ k' = k ∨ ∃ e ∈ es, e.1 = k' := by
  unfold putX
  split
  · rename_i h
    obtain ⟨e0, h0, q0⟩ := getX_isSome.mp h
    constructor
    · rintro ⟨e, he, q⟩
      obtain ⟨e', h1, h2⟩ := List.mem_map.mp he
      refine .inr ⟨e', h1, ?_⟩
      rw [← q, ← h2]
      split <;> rfl
    · intro z
      have : ∃ e ∈ es, e.1 = k' := by
        rcases z with rfl | z
        · exact ⟨e0, h0, q0⟩
        · exact z
      obtain ⟨e, he, q⟩ := this
      refine ⟨_, List.mem_map.mpr ⟨e, he, rfl⟩, ?_⟩
      rw [← q]
      split <;> rfl
  · constructor
    · rintro ⟨e, he, q⟩
      rcases List.mem_append.mp he with he | he
      · exact .inr ⟨e, he, q⟩
      · rw [List.mem_singleton.mp he] at q
        exact .inl q.symm
    · rintro (rfl | ⟨e, he, q⟩)
      · exact ⟨_, List.mem_append_right _ (List.mem_singleton.mpr rfl), rfl⟩
      · exact ⟨e, List.mem_append_left _ he, q⟩
def ndX (es : List Ent) (v : V) : Int × Int := match es.find? fun e => decide (V.ref e.2.1 = v) with
  | some e => e.1
  | none => (0, 1)
theorem ndX_at {es : List Ent} (nd : (es.map fun e => e.2.1).Nodup) {e : Ent} (he : e ∈ es) : ndX es (.ref e.2.1) = e.1 := by
  induction es with
  | nil => cases he
  | cons x es ih =>
    rw [List.map_cons, List.nodup_cons] at nd
    unfold ndX
    rw [List.find?_cons]
    by_cases q : V.ref x.2.1 = V.ref e.2.1
    · rw [show decide (V.ref x.2.1 = V.ref e.2.1) = true from decide_eq_true q]
      rcases List.mem_cons.mp he with rfl | he
      · rfl
      · injection q with q
        exact absurd (List.mem_map.mpr ⟨e, he, q.symm⟩) nd.1
    · rw [show decide (V.ref x.2.1 = V.ref e.2.1) = false from decide_eq_false q]
      rcases List.mem_cons.mp he with rfl | he
      · exact absurd rfl q
      · exact ih nd.2 he
/-- the keys tell the order -/
theorem key_le {n d n' d' S : Int} (h0 : 0 < d) (h1 : 0 < d') (hS : d * d' ≤ S) (h : n * S / d ≤ n' * S / d') : n * d' ≤ n' * d := by
  refine Int.not_lt.mp fun z => ?_
  have k1 : n' * S / d' * d' ≤ n' * S := Int.ediv_mul_le _ (by omega)
  have k2 : n * S < (n * S / d + 1) * d := Int.lt_ediv_add_one_mul_self _ h0
  have k3 : (n * S / d + 1) * d ≤ (n' * S / d' + 1) * d := Int.mul_le_mul_of_nonneg_right (by omega) (by omega)
  have k4 : n * S < (n' * S / d' + 1) * d := by omega
  have k5 : n * S * d' < (n' * S / d' + 1) * d * d' := Int.mul_lt_mul_of_pos_right k4 h1
  have k6 : n' * S / d' * d' * d ≤ n' * S * d := Int.mul_le_mul_of_nonneg_right k1 (by omega)
  have k7 : 0 ≤ S := by
    have := Int.mul_nonneg (Int.le_of_lt h0) (Int.le_of_lt h1)
    omega
  have k8 : (n' * d + 1) * S ≤ n * d' * S := Int.mul_le_mul_of_nonneg_right (by omega) k7
  generalize n' * S / d' = k at *
  grind
def toQ (es : List Ent) (v : V) : Rat := vf (ndX es v)
theorem sort_qs {es : List Ent} {S : Int} (nk : (es.map (·.1)).Nodup) (na : (es.map fun e => e.2.1).Nodup) (hq : ∀ e ∈ es, ∃ q, e.1 = rF q) (hS : ∀ e ∈ es, ∀ f ∈ es, e.1.2 * f.1.2 ≤ S) :
    ((sortedV S (ndX es) (es.map fun e => V.ref e.2.1)).map (toQ es)).Pairwise (· < ·) ∧ ∀ v, v ∈ sortedV S (ndX es) (es.map fun e => V.ref e.2.1) ↔ ∃ e ∈ es, v = .ref e.2.1 := by
  have pm := List.mergeSort_perm (es.map fun e => V.ref e.2.1) fun a b => decide (keyV S (ndX es) a ≤ keyV S (ndX es) b)
  have mem : ∀ v, v ∈ sortedV S (ndX es) (es.map fun e => V.ref e.2.1) ↔ ∃ e ∈ es, v = .ref e.2.1 := fun v => by
    refine pm.mem_iff.trans (List.mem_map.trans ⟨?_, ?_⟩)
    · rintro ⟨e, he, rfl⟩
      exact ⟨e, he, rfl⟩
    · rintro ⟨e, he, rfl⟩
      exact ⟨e, he, rfl⟩
  have srt : (sortedV S (ndX es) (es.map fun e => V.ref e.2.1)).Pairwise fun a b => decide (keyV S (ndX es) a ≤ keyV S (ndX es) b) = true :=
    List.pairwise_mergeSort (fun a b c h1 h2 => by simp only [decide_eq_true_eq] at *; omega) (fun a b => by simp only [Bool.or_eq_true, decide_eq_true_eq]; omega) _
  have nd : (sortedV S (ndX es) (es.map fun e => V.ref e.2.1)).Nodup := by
    refine (pm.nodup_iff).mpr ?_
    have := na
    unfold List.Nodup at this ⊢
    rw [List.pairwise_map] at this ⊢
    exact this.imp fun h z => h (by injection z)
  refine ⟨?_, mem⟩
  rw [List.pairwise_map]
  refine (srt.and nd).imp_of_mem fun {a b} ha hb h => ?_
  obtain ⟨h1, h2⟩ := h
  obtain ⟨e, he, rfl⟩ := (mem a).mp ha
  obtain ⟨f, hf, rfl⟩ := (mem b).mp hb
  have h1 := of_decide_eq_true h1
  unfold keyV at h1
  unfold toQ
  rw [ndX_at na he, ndX_at na hf] at h1 ⊢
  obtain ⟨q, eq⟩ := hq e he
  obtain ⟨r, er⟩ := hq f hf
  have k := key_le (by rw [eq]; exact (rF_fr q).pos) (by rw [er]; exact (rF_fr r).pos) (hS e he f hf) h1
  rw [eq, er] at k ⊢
  rw [vf_rF, vf_rF]
  have ne : q ≠ r := fun z => by
    apply h2
    have : e.1 = f.1 := by rw [eq, er, z]
    have : e = f := by
      obtain ⟨i, hi⟩ := List.mem_iff_getElem?.mp he
      obtain ⟨j, hj⟩ := List.mem_iff_getElem?.mp hf
      have li := (List.getElem?_eq_some_iff.mp hi).1
      have g1 : (es.map (·.1))[i]? = some e.1 := by rw [List.getElem?_map, hi]; rfl
      have g2 : (es.map (·.1))[j]? = some f.1 := by rw [List.getElem?_map, hj]; rfl
      have ij := (List.getElem?_inj (by rw [List.length_map]; exact li) nk).mp (g1.trans ((congrArg some this).trans g2.symm))
      rw [ij, hj] at hi
      exact (Option.some.inj hi).symm
    rw [this]
  have nlt : ¬ r < q := fun z => by
    have := rF_lt.mpr z
    omega
  grind
/-- the list of the fractions by what they stand for, each one once -/
def spAsc (K : PySem.W.Frag) (pt : Addr) : Sp := fun vs H Q _ => ∃ (a : Addr) (xs : List V) (qs : List Rat), vs = [.ref a] ∧ SqL K H a xs ∧ DtA K mT H xs (qs.map frD) ∧ (∀ q ∈ qs, Rb 400 64 q) ∧ xs.length ≤ 900 ∧ Tabs (tbT pt) H ∧
  ∀ l H' ys (ls : List Rat), ExtN H H' → Tabs (tbT pt) H' → H' l = some (.lst ys) → DtA K mT H' ys (ls.map frD) → ls.Pairwise (· < ·) → (∀ q, q ∈ ls ↔ q ∈ qs) → ls.length ≤ qs.length → Q (.ref l) H'
theorem get_take {α : Type} {l : List α} {i : Nat} {x : α} (h : l[i]? = some x) : l.take (i + 1) = l.take i ++ [x] := by
  rw [List.take_add_one, h]
  rfl
theorem SqL.exN {K : PySem.W.Frag} {H H' : Hp} {a : Addr} {xs : List V} (h : SqL K H a xs) (e : ExtN H H') : SqL K H' a xs := by
  rcases h with (h | ⟨ob, h⟩) | h
  · exact .inl (.inl (e _ _ h fun _ z => nomatch z))
  · exact .inl (.inr ⟨ob, e _ _ h fun _ z => nomatch z⟩)
  · exact .inr h
theorem SqT.exN {K : PySem.W.Frag} {H H' : Hp} {a : Addr} {xs : List V} (h : SqT K H a xs) (e : ExtN H H') : SqT K H' a xs := by
  rcases h with (h | ⟨ob, h⟩) | h
  · exact .inl (.inl (e _ _ h fun _ z => nomatch z))
  · exact .inl (.inr ⟨ob, e _ _ h fun _ z => nomatch z⟩)
  · exact .inr h
theorem DX.exN {P : Program} {w : World} {K : PySem.W.Frag} {H H' : Hp} {a : Addr} {es : List Ent} (h : DX P w K H a es) (e : ExtN H H') : DX P w K H' a es := by
  obtain ⟨o, xs, h1, h2, h3, h4, h5⟩ := h
  exact ⟨o, xs, h1, h2, e _ _ h3 fun _ z => exO_tbl _ z, h4, h5.mono fun z => SqT.exN z e⟩
theorem XAt.exN {P : Program} {w : World} {K : PySem.W.Frag} {H H' : Hp} {a : Addr} {o : Obj} {es : List Ent} (h : XAt P w K H a o es) (e : ExtN H H') : XAt P w K H' a o es := by
  obtain ⟨xs, h1, h2, h3, h4, h5⟩ := h
  exact ⟨xs, h1, h2, e _ _ h3 fun _ z => exO_tbl _ z, h4, h5.mono fun z => SqT.exN z e⟩
theorem DX.tup {P : Program} {w : World} {K : PySem.W.Frag} {H : Hp} {a : Addr} {es : List Ent} (h : DX P w K H a es) {e : Ent} (he : e ∈ es) : SqT K H e.2.1 [.int e.1.1, .int e.1.2] := by
  obtain ⟨o, xs, h1, h2, h3, h4, h5⟩ := h
  obtain ⟨i, hi⟩ := List.mem_iff_getElem?.mp he
  obtain ⟨x, _, _, _, q, _⟩ := px_get h5 hi
  exact q
theorem dtA_map {K : PySem.W.Frag} {mu : Addr → Prop} {H : Hp} (g : V → PyData) : ∀ {ys : List V}, (∀ v ∈ ys, Dt K mu H v (g v)) → DtA K mu H ys (ys.map g)
  | [], _ => .nil
  | y :: ys, h => .cons (h y List.mem_cons_self) (dtA_map g fun v hv => h v (List.mem_cons_of_mem _ hv))
theorem lg {n k : Nat} (h : n < 2 ^ k) (hk : 0 < k) : n.log2 < k := by
  by_cases z : n = 0
  · rw [z]
    exact hk
  · exact (Nat.log2_lt z).mpr h
theorem maxDef_one {ns : List Int} (h : ∀ n ∈ ns, 1 ≤ n ∧ n.natAbs < 2 ^ 64) : 1 ≤ maxDef 1 ns ∧ (maxDef 1 ns).natAbs < 2 ^ 64 ∧ ∀ n ∈ ns, n ≤ maxDef 1 ns := by
  cases ns with
  | nil => exact ⟨by decide, by decide, fun n hn => nomatch hn⟩
  | cons n ns =>
    obtain ⟨h1, h2, h3⟩ := foldl_max ns n
    have hn := h n List.mem_cons_self
    refine ⟨by show 1 ≤ ns.foldl max n; omega, ?_, fun m hm => ?_⟩
    · show (ns.foldl max n).natAbs < _
      rcases h3 with z | z
      · rw [z]
        exact hn.2
      · exact (h _ (List.mem_cons_of_mem _ z)).2
    · rcases List.mem_cons.mp hm with rfl | hm
      · exact h1
      · exact h2 m hm
section
variable {P : Program} {w : World} {K : PySem.W.Frag} {mg : Str → Option Value} {base : Heap}
abbrev sascending : Stmt := topS 13
theorem sc_ascending : FnScope ["fractions", "once", "one", "scale"] ["fractions"] (defScope sascending) := ⟨rfl, rfl, rfl, by decide +kernel, rfl, by decide +kernel, by decide +kernel⟩
theorem ok_ascending {f c pt : Addr} {fd : FuncData} (F : Fun K "ascending" "ascending" sascending f fd) (hfc : fd.code = .ref c) (TB : TabB base mg c pt) (B : Bt mg) (TSO : mg "sorted" = none) : FnG P w K mg base 2 f fd ["fractions"] (spAsc K pt) := by
  refine Fun.okGC F hfc sc_ascending (fun vs H Q E h => ?_) (fun A outer s H vs Q E hg hr h => ?_)
  · obtain ⟨_, _, _, rfl, _⟩ := h
    rfl
  obtain ⟨a, xs, qs, rfl, hS, hA, hb, hl, hT, k⟩ := h
  have hu := Room.u64 hr
  have hu0 := Nat.lt_of_le_of_lt (Nat.le_add_right _ 64) hu
  refine ⟨_, (pss_cons (ps_setDcX (i := 1) (own := [("one", 2)]) hu0 rfl sc_ascending.nd rfl rfl (sw_dict rfl rfl rfl (by decide +kernel)) (pi_list (pv 0)) (blkOk_by (own := [("one", 2)]) (N := ["fractions", "once", "one", "scale"]) (sc := (defScope sascending)) (by decide +kernel)) (fun _ _ _ _ _ => (pg_name (i := 2) sc_ascending.nd rfl (Or.inl rfl))) (fun _ _ _ _ _ => (pv 2)) (fun _ _ _ _ _ => pe_bl))
    (pss_cons (ps_set (i := 3) sc_ascending.nd rfl (Or.inr rfl) (pe_op op_pow (pe_callBK (cr_maxDef rfl hr) (by rfl) B.max bb_max (pa_cons (pe_lc (own := [("one", 2)]) rfl sc_ascending.nd (pi_xkeys (pv 1)) (blkOk_by (own := [("one", 2)]) (N := ["fractions", "once", "one", "scale"]) (sc := (defScope sascending)) (by decide +kernel)) (fun _ _ _ _ _ => (pg_name (i := 2) sc_ascending.nd rfl (Or.inl rfl))) (fun _ _ _ _ _ => pts_nil) (fun _ _ _ _ _ => (pe_ix (ix_tupK (K := K) rfl) (pv 2) pe_int (fun _ _ => rfl)))) pa_nil) (pk_cons pe_int pk_nil)) pe_int))
    (pss_one (ps_ret (pe_sortS (T := tbT pt) (i := 3) (by rfl) TSO bb_sorted (pe_callTy (call_list_dX rfl) (by rfl) B.list bb_list (pa_cons (pv 1) pa_nil)) TB rfl (List.mem_singleton.mpr rfl) (fun p hp _ => congrArg Prod.snd (List.mem_singleton.mp hp)) hr rfl rfl rfl rfl rfl rfl (by decide) rfl (by intros; rfl)))))), ?_⟩
  have hlen := hA.length
  rw [List.length_map] at hlen
  refine ⟨_, rfl, a, rfl, ⟨xs, hS⟩, fun D nD dD => ?_⟩
  refine dcx_it (walk_list (K := K) (a := a) (xs := xs)) (fun i H' => Same H H' ∧ ∃ es, DX P w K H' D es ∧ es.length ≤ i ∧ ∀ f, (∃ e ∈ es, e.1 = f) ↔ ∃ q ∈ qs.take i, f = rF q) ⟨same_upd nD, [], dD, Nat.le_refl _, fun f => by simp⟩ (fun i H' _ h => SqL.exN hS (exN_same h.1)) ?_ ?_
  · rintro i x H1 H2 hi ⟨s1, es, d1, l1, m1⟩ ⟨rfl, gx⟩
    obtain ⟨q, hq⟩ : ∃ q, qs[i]? = some q := ⟨_, List.getElem?_eq_getElem (by omega)⟩
    obtain ⟨v, w1, dv⟩ := hA.getD (i := i) (d := frD q) (by rw [List.getElem?_map, hq]; rfl)
    rw [gx] at w1
    cases w1
    obtain ⟨b, rfl, hb2⟩ := dt_ql (dt_same dv s1)
    refine ⟨rfl, _, rfl, b, rF q, es, rfl, d1, hb2, Nat.lt_of_le_of_lt l1 (small1000 (by omega)), fun o d2 => ⟨same_at s1 nD, _, d2, Nat.le_trans (putX_length _ _ _ _) (by omega), fun f => ?_⟩⟩
    rw [putX_mem, m1, get_take hq]
    constructor
    · rintro (rfl | ⟨r, hr', e⟩)
      · exact ⟨q, List.mem_append_right _ (List.mem_singleton.mpr rfl), rfl⟩
      · exact ⟨r, List.mem_append_left _ hr', e⟩
    · rintro ⟨r, hr', e⟩
      rcases List.mem_append.mp hr' with z | z
      · exact .inr ⟨r, z, e⟩
      · rw [List.mem_singleton.mp z] at e
        exact .inl e
  · rintro H1 ⟨s1, es, d1, l1, m1⟩
    rw [List.take_of_length_le (by omega)] at m1
    obtain ⟨o, hx⟩ := d1.at
    refine ⟨_, rfl, D, o, es, rfl, hx, fun L nL => ?_⟩
    refine lc_it walk_x (fun i H' => Same H1 H' ∧ H' L = some (.lst ((es.take i).map fun e => V.int e.1.2))) ⟨same_upd nL, upd_same⟩ (fun i H' _ h => XAt.exN hx (exN_same h.1)) ?_ ?_
    · rintro i x H2 H3 hi ⟨s2, e2⟩ ⟨rfl, e, he, rfl, hT2⟩
      refine ⟨rfl, _, rfl, e.2.1, _, 1, _, rfl, rfl, hT2, atI_nat (j := 1) rfl, _, e2, small1000 (by rw [List.length_map, List.length_take]; omega), same_at s2 nL, ?_⟩
      rw [get_take he, List.map_append]
      exact upd_same
    · rintro H2 ⟨s2, e2⟩
      rw [List.take_length] at e2
      have hrec : ∀ e ∈ es, ∃ q ∈ qs, e.1 = rF q := fun e he => (m1 e.1).mp ⟨e, he, rfl⟩
      obtain ⟨M1, M2, M3⟩ := maxDef_one (ns := es.map fun e => e.1.2) fun n hn => by
        obtain ⟨e, he, rfl⟩ := List.mem_map.mp hn
        obtain ⟨q, hq, eq⟩ := hrec e he
        have h1 := (rF_fr q).pos
        have h2 := (hb q hq).d
        rw [eq]
        exact ⟨h1, h2⟩
      refine ⟨L, es.map fun e => e.1.2, 1, rfl, rfl, .inl (.inl (by rw [List.map_map]; exact e2)), ?_⟩
      generalize maxDef 1 (es.map fun e => e.1.2) = M at M1 M2 M3 ⊢
      refine ⟨_, _, rfl, rfl, ⟨by decide, by decide, M2⟩, ?_⟩
      have s12 := s1.trans s2
      refine ⟨_, rfl, ⟨D, es, rfl, DX.exN d1 (exN_same s2), fun p np na => ?_⟩⟩
      have s3 := same_upd (o := .lst (es.map fun e => V.ref e.2.1)) np
      have s13 := s12.trans s3
      have d3 := DX.exN d1 (exN_same (s2.trans s3))
      have nk := dx_nd d1
      have hM : ∀ e ∈ es, e.1.2 ≤ M := fun e he => M3 _ (List.mem_map.mpr ⟨e, he, rfl⟩)
      have eS : M ^ (2 : Int).toNat = M * M := by
        show M ^ 2 = _
        rw [Int.pow_succ, Int.pow_succ, Int.pow_zero, Int.one_mul]
      obtain ⟨pw, mem⟩ := sort_qs (S := M * M) nk na (fun e he => let ⟨q, _, eq⟩ := hrec e he; ⟨q, eq⟩) fun e he f hf => by
        obtain ⟨q, _, eq⟩ := hrec e he
        have := (rF_fr q).pos
        have h1 := hM e he
        have h2 := hM f hf
        refine Int.le_trans (Int.mul_le_mul_of_nonneg_left h2 ?_) (Int.mul_le_mul_of_nonneg_right h1 (by omega))
        rw [eq]
        omega
      have MM : (M * M).natAbs < 2 ^ 128 := natAbs_lt_mul M2 M2
      refine ⟨tabs_same hT s13, p, _, M * M, ndX es, rfl, .inl (.inl upd_same), by show some (some (V.int (M ^ (2 : Int).toNat))) = _; rw [eS], fun v hv => ?_, fun H4 p2 eN T2 n2 => ?_⟩
      · obtain ⟨e, he, rfl⟩ := List.mem_map.mp hv
        obtain ⟨q, hq, eq⟩ := hrec e he
        have hbq := hb q hq
        rw [ndX_at na he]
        refine ⟨⟨_, rfl, DX.tup d3 he⟩, ?_, ?_, ?_⟩
        · have h1 : e.1.1.natAbs.log2 < 400 := lg (by rw [eq]; exact hbq.n) (by decide)
          have h2 : (M * M).natAbs.log2 < 128 := lg MM (by decide)
          show _ + _ < _
          omega
        · rw [eq]
          exact (rF_fr q).pos
        · have h1 : e.1.2.natAbs.log2 < 64 := lg (by rw [eq]; exact hbq.d) (by decide)
          omega
      · have s5 := same_upd (o := .lst (sortedV (M * M) (ndX es) (es.map fun e => V.ref e.2.1))) n2
        have eT := eN.trans (exN_same s5)
        have d5 := DX.exN d3 eT
        refine k p2 _ _ ((sortedV (M * M) (ndX es) (es.map fun e => V.ref e.2.1)).map (toQ es)) ((exN_same s13).trans eT) (tabs_same T2 s5) upd_same ?_ pw (fun q => ?_) (by rw [List.length_map, show (sortedV (M * M) (ndX es) (es.map fun e => V.ref e.2.1)).length = (es.map fun e => V.ref e.2.1).length from List.length_mergeSort _, List.length_map]; omega)
        · rw [List.map_map]
          refine dtA_map _ fun v hv => ?_
          obtain ⟨e, he, rfl⟩ := (mem v).mp hv
          obtain ⟨q, hq, eq⟩ := hrec e he
          have h3 := DX.tup d5 he
          have h4 : toQ es (.ref e.2.1) = q := by
            unfold toQ
            rw [ndX_at na he, eq, vf_rF]
          show Dt K mT _ _ (frD (toQ es (.ref e.2.1)))
          rw [h4]
          rw [eq] at h3
          exact Ql.dt ⟨_, rfl, h3⟩
        · constructor
          · intro h
            obtain ⟨v, hv, rfl⟩ := List.mem_map.mp h
            obtain ⟨e, he, rfl⟩ := (mem v).mp hv
            obtain ⟨q, hq, eq⟩ := hrec e he
            unfold toQ
            rw [ndX_at na he, eq, vf_rF]
            exact hq
          · intro h
            obtain ⟨e, he, eq⟩ := (m1 (rF q)).mpr ⟨q, h, rfl⟩
            refine List.mem_map.mpr ⟨_, (mem _).mpr ⟨e, he, rfl⟩, ?_⟩
            unfold toQ
            rw [ndX_at na he, eq, vf_rF]
end
end K33
namespace K33
open PySem PySem.Spec PyProof.Rows L2 Sw MC LamX
/-! led back: from what is paid to the level -/
/-- the last row that pays less -/
def spBel (K : PySem.W.Frag) : Sp := fun vs H Q _ => ∃ (v y : V) (c : Cv) (x : Rat), vs = [v, y] ∧ Dt K mT H v (cvD c) ∧ Ql K H y x ∧ c.Ok ∧ CBw c ∧ Rb 600 600 x ∧ 0 < x ∧ c.pts.length ≤ 1000 ∧
  ∀ H' (i : Nat) p, Same H H' → c.pts[i]? = some p → p.2 < x → (∀ q, c.pts[i + 1]? = some q → x ≤ q.2) → Q (.int i) H'
/-- a level, or none -/
def OQ (K : PySem.W.Frag) (H : Hp) (v : V) : Option Rat → Prop
  | some q => Ql K H v q
  | none => v = .non
def spLev (K : PySem.W.Frag) : Sp := fun vs H Q _ => ∃ (v y : V) (c : Cv) (x : Rat), vs = [v, y] ∧ Dt K mT H v (cvD c) ∧ Ql K H y x ∧ c.Ok ∧ CBw c ∧ Rb 600 600 x ∧ 0 ≤ x ∧ c.pts.length ≤ 1000 ∧
  ∀ H' o v, Same H H' → Lst c.ev x o → OQ K H' v o → Q v H'
section
variable {P : Program} {w : World} {K : PySem.W.Frag} {mg : Str → Option Value} {base : Heap}
abbrev slast_below : Stmt := topS 29
theorem sc_last_below : FnScope ["curve", "pay", "corners", "low", "high", "middle"] ["curve", "pay"] (defScope slast_below) := ⟨rfl, rfl, rfl, by decide +kernel, rfl, by decide +kernel, by decide +kernel⟩
theorem ok_last_below {f : Addr} {fd : FuncData} (F : Fun K "last_below" "last_below" slast_below f fd) (B : Bt mg) (c_compared : CalG P w K mg base 3 "compared" (spQc K)) : FnG P w K mg base 4 f fd ["curve", "pay"] (spBel K) := by
  refine Fun.okG F sc_last_below (fun vs H Q E h => ?_) (fun cdv A outer s H vs Q E hg hr h => ?_)
  · obtain ⟨_, _, _, _, rfl, _⟩ := h
    rfl
  obtain ⟨v, y, c, x, rfl, hv, hy, ok, cb, bx, x0, hl, k⟩ := h
  refine ⟨_, (pss_cons (ps_set (i := 2) sc_last_below.nd rfl (Or.inl rfl) (pe_ix ix_tup (pv 0) pe_int (fun _ _ => rfl)))
    (pss_cons (ps_par (i := 3) (j := 4) rfl sc_last_below.nd rfl rfl (by decide) rfl rfl (pa_cons pe_int (pa_cons (pe_callB call_lenA (by rfl) B.len boot_len (pa_cons (pv 2) pa_nil)) pa_nil)) (by rfl))
    (pss_cons (ps_while PassesOwn.never (pt_cmpR op_gt (pe_op op_sub (pv 4) (pv 3)) pe_int (nomark _))
      (pss_cons (ps_set (i := 5) sc_last_below.nd rfl (Or.inl rfl) (pe_op op_fdiv (pe_op op_add (pv 3) (pv 4)) pe_int))
      (pss_one (ps_if (pt_cmpR op_lt (pc c_compared hg hr (by decide) (by rfl) (pa_cons (pe_ix ix_tup (pe_ix ix_tup (pv 2) (pv 5) (fun _ _ => rfl)) pe_int (fun _ _ => rfl)) (pa_cons (pv 1) pa_nil))) pe_int (nomark _))
        (pss_one (ps_set (i := 3) sc_last_below.nd rfl (Or.inl rfl) (pv 5)))
        (pss_one (ps_set (i := 4) sc_last_below.nd rfl (Or.inl rfl) (pv 5)))))))
    (pss_one (ps_ret (pv 3)))))), ?_⟩
  obtain ⟨a, b, xs, u, rfl, ha, hS, hA, hu⟩ := cv_at hv
  have hlen := hA.length
  rw [List.length_map] at hlen
  obtain ⟨rst, er⟩ := ok.hd
  have hp0 : c.pts[0]? = some (0, 0) := by rw [er]; rfl
  have hpos : 0 < c.pts.length := by rw [er]; exact Nat.zero_lt_succ _
  refine ⟨_, rfl, a, _, 0, .ref b, rfl, rfl, ha, atI_nat (j := 0) rfl, ?_⟩
  refine ⟨_, rfl, _, c.pts.length, rfl, .inr ⟨xs, hS, hlen.symm⟩, _, _, rfl, ?_⟩
  refine while_by (fun σ H1 => ∃ (lo hi : Nat) (o : Option V), σ = [some (.ref a), some y, some (.ref b), some (.int lo), some (.int hi), o] ∧ Same H H1 ∧ lo < hi ∧ hi ≤ c.pts.length ∧ (∃ p, c.pts[lo]? = some p ∧ p.2 < x) ∧ (∀ q, c.pts[hi]? = some q → x ≤ q.2)) (fun σ _ => match σ with | [_, _, _, some (.int i), some (.int j), _] => (j - i).toNat | _ => 0)
    ⟨0, c.pts.length, _, rfl, .refl H, hpos, Nat.le_refl _, ⟨_, hp0, x0⟩, fun q hq => by simp at hq⟩ ?_ ?_
  · rintro σ H1 ⟨lo, hi, o, rfl, s, l1, l2, ⟨p, hp, px⟩, hq⟩
    refine ⟨_, rfl, _, rfl, _, _, rfl, rfl, _, _, rfl, rfl, _, rfl, iteP (fun h => ?_) fun h => ?_⟩
    · refine ⟨_, rfl, _, rfl, _, _, rfl, rfl, _, _, rfl, rfl, ⟨by decide, by decide⟩, ?_⟩
      obtain ⟨m, hm⟩ : ∃ m : Nat, m = (lo + hi) / 2 := ⟨_, rfl⟩
      have em : ((lo : Int) + (hi : Int)) / 2 = (m : Int) := by omega
      have m1 : lo < m := by omega
      have m2 : m < hi := by omega
      have em2 : (fun i j : Int => V.int (i / j)) ((lo : Int) + (hi : Int)) 2 = .int (m : Int) := congrArg V.int em
      rw [em2]
      obtain ⟨r, hr'⟩ : ∃ r, c.pts[m]? = some r := ⟨_, List.getElem?_eq_getElem (by omega)⟩
      obtain ⟨v, hv', dv⟩ := pts_get hA hr'
      obtain ⟨d, u1, u2, rfl, hd, g1, g2⟩ := pt_at (dt_same dv s)
      refine ⟨_, rfl, _, rfl, b, xs, (m : Int), .ref d, rfl, rfl, s.seqT hS, atI_nat (j := m) hv', d, _, 1, u2, rfl, rfl, hd, atI_nat (j := 1) rfl, _, rfl, u2, y, r.2, x, rfl, g2, hy.same s, (cb.at hr').2.bq (by decide) (by decide), bx.bq (by decide) (by decide), fun H2 cc s2 k1 k2 => ⟨_, _, rfl, rfl, _, rfl, iteP (fun h2 => ?_) fun h2 => ?_⟩⟩
      · refine ⟨_, rfl, ⟨m, hi, _, rfl, s.trans s2, m2, l2, ⟨r, hr', k1.mp h2⟩, hq⟩, ?_⟩
        show ((hi : Int) - (m : Int)).toNat < ((hi : Int) - (lo : Int)).toNat
        omega
      · refine ⟨_, rfl, ⟨lo, m, _, rfl, s.trans s2, m1, by omega, ⟨p, hp, px⟩, fun q hq' => ?_⟩, ?_⟩
        · rw [hr'] at hq'
          cases hq'
          have : ¬ r.2 < x := fun z => h2 (k1.mpr z)
          grind
        · show ((m : Int) - (lo : Int)).toNat < ((hi : Int) - (lo : Int)).toNat
          omega
    · have e : hi = lo + 1 := by omega
      subst e
      exact ⟨_, rfl, k H1 lo p s hp px hq⟩
  · rintro σ H1 R R' hh ⟨v, e1, v2, e2, i, j, e3, e4, i', j', e5, e6, c, e7, q⟩
    exact ⟨v, e1, v2, e2, i, j, e3, e4, i', j', e5, e6, c, e7, hh _ _ q⟩
abbrev slevel_for : Stmt := topS 28
theorem sc_level_for : FnScope ["curve", "pay", "place", "level", "reached", "rise"] ["curve", "pay"] (defScope slevel_for) := ⟨rfl, rfl, rfl, by decide +kernel, rfl, by decide +kernel, by decide +kernel⟩
theorem ok_level_for {f z : Addr} {fd : FuncData} (F : Fun K "level_for" "level_for" slevel_for f fd) (B : Bt mg) (TZ : ∃ u, mg "ZERO" = some u ∧ RelV (.ref z) u) (KZ : KTup K z [.int 0, .int 1]) (c_last_below : CalG P w K mg base 4 "last_below" (spBel K)) (c_rise_behind : CalG P w K mg base 4 "rise_behind" (spRise K))
    (c_added : CalG P w K mg base 1 "added" (spQ2 K (· + ·))) (c_lessened : CalG P w K mg base 2 "lessened" (spQ2 K (· - ·))) (c_over : CalG P w K mg base 2 "over" (spQd K)) : FnG P w K mg base 5 f fd ["curve", "pay"] (spLev K) := by
  refine Fun.okG F sc_level_for (fun vs H Q E h => ?_) (fun cdv A outer s H vs Q E hg hr h => ?_)
  · obtain ⟨_, _, _, _, rfl, _⟩ := h
    rfl
  obtain ⟨v, y, c, x, rfl, hv, hy, ok, cb, bx, x0, hl, k⟩ := h
  have hu := Room.u64 hr
  obtain ⟨uz, mz, rz⟩ := TZ
  refine ⟨_, (pss_cons (ps_if (pt_cmpR (op_eqW hu) (pv 1) (pe_glob (v := .ref z) (by rfl) mz rz) (nomark _))
      (pss_one (ps_ret (pe_glob (v := .ref z) (by rfl) mz rz)))
      pss_nil)
    (pss_cons (ps_set (i := 2) sc_level_for.nd rfl (Or.inl rfl) (pc c_last_below hg hr (by decide) (by rfl) (pa_cons (pv 0) (pa_cons (pv 1) pa_nil))))
    (pss_cons (ps_asg (pe_ix ix_tup (pe_ix ix_tup (pv 0) pe_int (fun _ _ => rfl)) (pv 2) (fun _ _ => rfl)) (pg_tup (n := 2) rfl (pgs_cons (pg_name (i := 3) sc_level_for.nd rfl (Or.inl rfl)) (pgs_cons (pg_name (i := 4) sc_level_for.nd rfl (Or.inl rfl)) pgs_nil))))
    (pss_cons (ps_set (i := 5) sc_level_for.nd rfl (Or.inl rfl) (pc c_rise_behind hg hr (by decide) (by rfl) (pa_cons (pv 0) (pa_cons (pv 2) pa_nil))))
    (pss_cons (ps_if (pt_cmpR (op_eqW hu) (pv 5) (pe_glob (v := .ref z) (by rfl) mz rz) (nomark _))
      (pss_one (ps_ret pe_non))
      pss_nil)
    (pss_one (ps_ret (pc c_added hg hr (by decide) (by rfl) (pa_cons (pv 3) (pa_cons (pc c_over hg hr (by decide) (by rfl) (pa_cons (pc c_lessened hg hr (by decide) (by rfl) (pa_cons (pv 1) (pa_cons (pv 4) pa_nil))) (pa_cons (pv 5) pa_nil))) pa_nil)))))))))), ?_⟩
  have hz : ∀ H, Ql K H (.ref z) 0 := fun H => ql_zero KZ
  refine ⟨_, rfl, ⟨mT, frD x, frD 0, hy.dt, (hz H).dt, fr_shaped _, fr_shaped _, _, rfl, ?_⟩⟩
  rw [eqv_fr]
  refine iteP (fun e => ?_) fun e => ?_
  · subst e
    refine k H (some 0) _ (.refl H) ⟨by grind, ok.ev0, fun y h1 h2 => by grind⟩ (hz H)
  · have e : ¬ x = 0 := e
    have xp : 0 < x := by grind
    refine ⟨_, rfl, _, rfl, v, y, c, x, rfl, hv, hy, ok, cb, bx, xp, hl, fun H1 i p s1 hp h1 h2 => ?_⟩
    obtain ⟨a, b, xs, u, rfl, ha, hS, hA, hu'⟩ := cv_at (dt_same hv s1)
    obtain ⟨v1, g1, d1⟩ := pts_get hA hp
    obtain ⟨d, u1, u2, rfl, hd, q1, q2⟩ := pt_at d1
    have lp := (List.getElem?_eq_some_iff.mp hp).1
    refine ⟨_, rfl, a, _, 0, .ref b, rfl, rfl, ha, atI_nat (j := 0) rfl, _, rfl, b, xs, (i : Int), .ref d, rfl, rfl, hS, atI_nat (j := i) g1, d, _, rfl, hd, rfl, _, _, rfl, _, _, rfl, rfl, ?_⟩
    refine ⟨_, rfl, _, rfl, _, c, i, rfl, dt_same hv s1, ok, cb, lp, hl, fun v3 H3 s3 h3 => ?_⟩
    have lst := level_for_lst ok hp h1 h2
    have bi := cb.at hp
    have br := cb.rise i
    refine ⟨_, rfl, ⟨mT, frD _, frD 0, h3.dt, (hz H3).dt, fr_shaped _, fr_shaped _, _, rfl, ?_⟩⟩
    rw [eqv_fr]
    refine iteP (fun e2 => ?_) fun e2 => ?_
    · rw [if_pos e2] at lst
      exact k H3 none _ (s1.trans s3) lst rfl
    · rw [if_neg e2] at lst
      have bd := bx.sub bi.2 (c := 1201) (by decide) (by decide)
      have bo := bd.div br e2
      refine ⟨_, rfl, _, rfl, _, rfl, y, u2, x, p.2, rfl, (hy.same s1).same s3, q2.same s3, bx.bq (by decide) (by decide), bi.2.bq (by decide) (by decide), fun v4 H4 s4 h4 => ?_⟩
      refine ⟨_, rfl, v4, v3, _, _, rfl, h4, h3.same s4, bd.bq (by decide) (by decide), br.bq (by decide) (by decide), e2, fun v5 H5 s5 h5 => ?_⟩
      refine ⟨u1, v5, p.1, _, rfl, ((q1.same s3).same s4).same s5, h5, bi.1.bq (by decide) (by decide), bo.bq (by decide) (by decide), fun v6 H6 s6 h6 => k H6 (some _) v6 ((((s1.trans s3).trans s4).trans s5).trans s6) lst h6⟩
end
end K33
/-! for x in s, s a list or a tuple. -/
namespace Sw
open PySem PySem.Spec PySem.Calls PyProof.Rows L2
def ItS (K : PySem.W.Frag) (k : Bool) (a : Addr) : It := match k with
  | true => Itt K a
  | false => Itl K a
def iSq (K : PySem.W.Frag) (k : Bool) (tl : TE) : TI := fun σ H R => tl σ H fun x H1 => ∃ a, x = .ref a ∧ (∃ xs, SqK K H1 k a xs) ∧ R (ItS K k a) H1
theorem pi_sq {X : Cx} (k : Bool) {tg l : Expr} {tl : TE} (hl : PE X l tl) : PI X tg l (iSq X.K k tl) := by
  cases k
  · exact pi_list hl
  · exact pi_tup hl
theorem walk_sq {K : PySem.W.Frag} {k : Bool} {a : Addr} {xs : List V} : Walk (ItS K k a) xs.length (fun H => SqK K H k a xs) (YAt xs) := by
  cases k
  · exact walk_list
  · exact walk_tup
theorem SqK.same {K : PySem.W.Frag} {H H' : Hp} {k : Bool} {a : Addr} {xs : List V} (h : SqK K H k a xs) (s : Same H H') : SqK K H' k a xs := by
  cases k
  · rcases h with (h | ⟨ob, h⟩) | h
    · exact .inl (.inl (s _ _ h))
    · exact .inl (.inr ⟨ob, s _ _ h⟩)
    · exact .inr h
  · exact s.seqT h
theorem SqK.exN {K : PySem.W.Frag} {H H' : Hp} {k : Bool} {a : Addr} {xs : List V} (h : SqK K H k a xs) (e : LamX.ExtN H H') : SqK K H' k a xs := by
  cases k
  · rcases h with (h | ⟨ob, h⟩) | h
    · exact .inl (.inl (e _ _ h fun _ z => nomatch z))
    · exact .inl (.inr ⟨ob, e _ _ h fun _ z => nomatch z⟩)
    · exact .inr h
  · rcases h with (h | ⟨ob, h⟩) | h
    · exact .inl (.inl (e _ _ h fun _ z => nomatch z))
    · exact .inl (.inr ⟨ob, e _ _ h fun _ z => nomatch z⟩)
    · exact .inr h
end Sw
/-! bends gathered by level -/
namespace MC
def bet : List (Rat × Rat) → Rat → Rat
  | [], _ => 0
  | e :: r, l => (if e.1 = l then e.2 else 0) + bet r l
theorem bet_app (as bs : List (Rat × Rat)) (l : Rat) : bet (as ++ bs) l = bet as l + bet bs l := by
  induction as with
  | nil =>
    show bet bs l = 0 + _
    grind
  | cons e as ih =>
    show (if e.1 = l then e.2 else 0) + bet (as ++ bs) l = (if e.1 = l then e.2 else 0) + bet as l + bet bs l
    rw [ih]
    grind
theorem bet_zero {l : Rat} : ∀ {L : List (Rat × Rat)}, (∀ e ∈ L, e.1 ≠ l) → bet L l = 0
  | [], _ => rfl
  | e :: r, h => by
    show (if e.1 = l then e.2 else 0) + bet r l = 0
    rw [if_neg (h e List.mem_cons_self), bet_zero fun z hz => h z (List.mem_cons_of_mem _ hz)]
    grind
theorem bet_one {l : Rat} : ∀ {L : List (Rat × Rat)}, (L.map (·.1)).Nodup → bet L l = 0 ∨ ∃ e ∈ L, bet L l = e.2
  | [], _ => .inl rfl
  | e :: r, h => by
    rw [List.map_cons, List.nodup_cons] at h
    by_cases q : e.1 = l
    · refine .inr ⟨e, List.mem_cons_self, ?_⟩
      show (if e.1 = l then e.2 else 0) + bet r l = _
      rw [if_pos q, bet_zero fun z hz w => h.1 (List.mem_map.mpr ⟨z, hz, w.trans q.symm⟩)]
      grind
    · have e1 : bet (e :: r) l = bet r l := by
        show (if e.1 = l then e.2 else 0) + bet r l = _
        rw [if_neg q]
        grind
      rw [e1]
      rcases bet_one h.2 with z | ⟨f, hf, z⟩
      · exact .inl z
      · exact .inr ⟨f, List.mem_cons_of_mem _ hf, z⟩
theorem GG_one {b l x : Rat} : ∀ {M : List Rat}, M.Pairwise (· < ·) → GG (fun k => if l = k then b else 0) M x = if l ∈ M then b * ramp x l else 0
  | [], _ => by
    rw [if_neg List.not_mem_nil]
    rfl
  | k :: M, h => by
    rw [List.pairwise_cons] at h
    have e1 : GG (fun k => if l = k then b else 0) (k :: M) x = (if l = k then b else 0) * ramp x k + GG (fun k => if l = k then b else 0) M x := rfl
    rw [e1, GG_one h.2]
    by_cases q : l = k
    · subst q
      have n : l ∉ M := fun z => by
        have := h.1 l z
        grind
      rw [if_pos rfl, if_neg n, if_pos List.mem_cons_self]
      grind
    · rw [if_neg q]
      by_cases m : l ∈ M
      · rw [if_pos m, if_pos (List.mem_cons_of_mem _ m)]
        grind
      · rw [if_neg m, if_neg (fun z => by rcases List.mem_cons.mp z with z | z; exact q z; exact m z)]
        grind
theorem GG_add (β γ : Rat → Rat) (x : Rat) : ∀ M : List Rat, GG (fun k => β k + γ k) M x = GG β M x + GG γ M x
  | [] => by
    show (0 : Rat) = 0 + 0
    grind
  | k :: M => by
    show (β k + γ k) * ramp x k + GG (fun k => β k + γ k) M x = β k * ramp x k + GG β M x + (γ k * ramp x k + GG γ M x)
    rw [GG_add β γ x M]
    grind
theorem GG_nil (x : Rat) : ∀ M : List Rat, GG (fun _ => 0) M x = 0
  | [] => rfl
  | k :: M => by
    show 0 * ramp x k + GG (fun _ => 0) M x = 0
    rw [GG_nil x M]
    grind
/-- gathered by level, the sum is the same -/
theorem GG_bet {M : List Rat} (hM : M.Pairwise (· < ·)) (x : Rat) : ∀ {L : List (Rat × Rat)}, (∀ e ∈ L, e.1 ∈ M) → GG (bet L) M x = sumR L x
  | [], _ => GG_nil x M
  | e :: r, h => by
    have e1 : bet (e :: r) = fun k => (if e.1 = k then e.2 else 0) + bet r k := rfl
    rw [e1, GG_add, GG_one hM, if_pos (h e List.mem_cons_self), GG_bet hM x fun z hz => h z (List.mem_cons_of_mem _ hz)]
    rfl
theorem GG_app (β : Rat → Rat) (A B : List Rat) (x : Rat) : GG β (A ++ B) x = GG β A x + GG β B x := by
  unfold GG
  rw [List.map_append, sumR_app]
theorem GG_late {β : Rat → Rat} {B : List Rat} {x : Rat} (h : ∀ l ∈ B, x ≤ l) : GG β B x = 0 := sumR_zero fun e he => by
  obtain ⟨l, hl, rfl⟩ := List.mem_map.mp he
  exact h l hl
def sumE (cs : List Cv) (x : Rat) : Rat := (cs.map fun c => c.ev x).sum
theorem sumE_cons (c : Cv) (cs : List Cv) (x : Rat) : sumE (c :: cs) x = c.ev x + sumE cs x := by
  unfold sumE
  rw [List.map_cons, List.sum_cons]
theorem sumE_mono : ∀ {cs : List Cv}, (∀ c ∈ cs, c.Ok) → ∀ x y, 0 ≤ x → x ≤ y → sumE cs x ≤ sumE cs y
  | [], _, _, _, _, _ => Rat.le_refl
  | c :: cs, h, x, y, hx, hy => by
    rw [sumE_cons, sumE_cons]
    have h1 := (h c List.mem_cons_self).mono hx hy
    have h2 := sumE_mono (fun d hd => h d (List.mem_cons_of_mem _ hd)) x y hx hy
    grind
theorem sumE_zero : ∀ {cs : List Cv}, (∀ c ∈ cs, c.Ok) → sumE cs 0 = 0
  | [], _ => rfl
  | c :: cs, h => by
    rw [sumE_cons, (h c List.mem_cons_self).ev0, sumE_zero fun d hd => h d (List.mem_cons_of_mem _ hd)]
    grind
def bendsA (cs : List Cv) : List (Rat × Rat) := (cs.map fun c => bends c.slope 0 c.pts).flatten
theorem bendsA_snoc (cs : List Cv) (c : Cv) : bendsA (cs ++ [c]) = bendsA cs ++ bends c.slope 0 c.pts := by
  unfold bendsA
  simp
theorem bendsA_sum : ∀ {cs : List Cv}, (∀ c ∈ cs, c.Ok) → ∀ x, 0 ≤ x → sumR (bendsA cs) x = sumE cs x
  | [], _, _, _ => rfl
  | c :: cs, h, x, hx => by
    have e : bendsA (c :: cs) = bends c.slope 0 c.pts ++ bendsA cs := rfl
    rw [e, sumR_app, sumE_cons, ← (h c List.mem_cons_self).sum hx, bendsA_sum (fun d hd => h d (List.mem_cons_of_mem _ hd)) x hx]
theorem bends_mem {c : Cv} {l : Rat} : (∃ e ∈ bends c.slope 0 c.pts, e.1 = l) ↔ ∃ p ∈ c.pts, p.1 = l := by
  have e : (∃ e ∈ bends c.slope 0 c.pts, e.1 = l) ↔ l ∈ (bends c.slope 0 c.pts).map (·.1) := by rw [List.mem_map]
  rw [e, bends_lv, List.mem_map]
theorem bendsA_mem {l : Rat} {cs : List Cv} : (∃ e ∈ bendsA cs, e.1 = l) ↔ ∃ c ∈ cs, ∃ p ∈ c.pts, p.1 = l := by
  unfold bendsA
  constructor
  · rintro ⟨e, he, q⟩
    obtain ⟨L, hL, h⟩ := List.mem_flatten.mp he
    obtain ⟨c, hc, rfl⟩ := List.mem_map.mp hL
    exact ⟨c, hc, bends_mem.mp ⟨e, h, q⟩⟩
  · rintro ⟨c, hc, h⟩
    obtain ⟨e, he, q⟩ := bends_mem.mpr h
    exact ⟨e, List.mem_flatten.mpr ⟨_, List.mem_map.mpr ⟨c, hc, rfl⟩, he⟩, q⟩
theorem asc_pw : ∀ {ps : List Pt}, Asc ps → (ps.map (·.1)).Pairwise (· < ·)
  | [], _ => .nil
  | p :: ps, h => by
    rw [List.map_cons, List.pairwise_cons]
    refine ⟨fun l hl => ?_, asc_pw (asc_tail h)⟩
    obtain ⟨q, hq, rfl⟩ := List.mem_map.mp hl
    exact (asc_mem h hq).1
theorem bends_nd {c : Cv} (h : c.Ok) : ((bends c.slope 0 c.pts).map (·.1)).Nodup := by
  rw [bends_lv]
  exact (asc_pw h.asc).imp fun {a b} h => by grind
/-- on the way: what is paid, how steep it goes on -/
theorem Ac.size {β : Rat → Rat} {t : Ac} {A B : List Rat} (h : t.Inv β A) (hB : ∀ l ∈ B, t.last ≤ l) : t.pay = GG β (A ++ B) t.last ∧ ∀ l, t.last ≤ l → (∀ k ∈ B, l ≤ k) → t.pay + t.rise * (l - t.last) = GG β (A ++ B) l := by
  have key : ∀ l, t.last ≤ l → (∀ k ∈ B, l ≤ k) → t.pay + t.rise * (l - t.last) = GG β (A ++ B) l := fun l h1 h2 => by
    rw [GG_app, GG_late h2, h.ray l h1]
    grind
  refine ⟨?_, key⟩
  have := key t.last (by grind) hB
  grind
end MC
namespace MC
theorem take_snoc' {α : Type} {l : List α} {i : Nat} {x : α} (h : l[i]? = some x) : l.take (i + 1) = l.take i ++ [x] := by
  rw [List.take_add_one, h]
  rfl
def Ac.at (β : Rat → Rat) (M : List Rat) (i : Nat) : Ac := (M.take i).foldl (Ac.step β) Ac.zero
theorem Ac.at_succ {β : Rat → Rat} {M : List Rat} {i : Nat} {l : Rat} (h : M[i]? = some l) : Ac.at β M (i + 1) = (Ac.at β M i).step β l := by
  unfold Ac.at
  rw [take_snoc' h, List.foldl_append]
  rfl
theorem Ac.run {β : Rat → Rat} {M : List Rat} (hM : M.Pairwise (· < ·)) (h0 : M[0]? = some 0) : ∀ i, i + 1 ≤ M.length → (Ac.at β M (i + 1)).Inv β (M.take (i + 1)) ∧ (Ac.at β M (i + 1)).last ∈ M.take (i + 1)
  | 0, _ => by
    have e : M.take 1 = [0] := by
      rw [take_snoc' h0]
      rfl
    have e2 : Ac.at β M 1 = Ac.zero.step β 0 := Ac.at_succ h0
    rw [e, e2]
    exact ⟨Ac.first β, List.mem_singleton.mpr rfl⟩
  | i + 1, h => by
    obtain ⟨h1, h2⟩ := Ac.run hM h0 i (by omega)
    obtain ⟨l, hl⟩ : ∃ l, M[i + 1]? = some l := ⟨_, List.getElem?_eq_getElem (by omega)⟩
    rw [Ac.at_succ hl, take_snoc' hl]
    refine ⟨Ac.next h1 ?_, List.mem_append_right _ (List.mem_singleton.mpr rfl)⟩
    have e : M = M.take (i + 1) ++ M.drop (i + 1) := (List.take_append_drop _ _).symm
    rw [e, List.pairwise_append] at hM
    exact hM.2.2 _ h2 l (List.mem_iff_getElem?.mpr ⟨0, by rw [List.getElem?_drop]; exact hl⟩)
theorem Ac.run_size {β S : Rat → Rat} {M : List Rat} (hM : M.Pairwise (· < ·)) (h0 : M[0]? = some 0) (nn : ∀ l ∈ M, 0 ≤ l) (hS : ∀ x, 0 ≤ x → GG β M x = S x) {i : Nat} {l : Rat} (hl : M[i]? = some l) :
    Ac.at β M i = Ac.zero ∧ l = 0 ∨ ∃ k, k ∈ M ∧ (Ac.at β M i).last = k ∧ k < l ∧ (Ac.at β M i).pay = S k ∧ (Ac.at β M i).pay + (Ac.at β M i).rise * (l - k) = S l := by
  cases i with
  | zero =>
    rw [h0] at hl
    cases hl
    exact .inl ⟨rfl, rfl⟩
  | succ i =>
    have li := (List.getElem?_eq_some_iff.mp hl).1
    obtain ⟨h1, h2⟩ := Ac.run (β := β) hM h0 i (by omega)
    have e : M.take (i + 1) ++ M.drop (i + 1) = M := List.take_append_drop _ _
    have pw := hM
    rw [← e, List.pairwise_append] at pw
    have ml : l ∈ M.drop (i + 1) := List.mem_iff_getElem?.mpr ⟨0, by rw [List.getElem?_drop]; exact hl⟩
    have lt : (Ac.at β M (i + 1)).last < l := pw.2.2 _ h2 l ml
    have later : ∀ k ∈ M.drop (i + 1), l ≤ k := fun k hk => by
      obtain ⟨j, hj⟩ := List.mem_iff_getElem?.mp hk
      rw [List.getElem?_drop] at hj
      cases j with
      | zero =>
        rw [hl] at hj
        cases hj
        grind
      | succ j =>
        have lj := (List.getElem?_eq_some_iff.mp hj)
        have ll := (List.getElem?_eq_some_iff.mp hl)
        have := List.pairwise_iff_getElem.mp hM (i + 1) (i + 1 + (j + 1)) ll.1 lj.1 (by omega)
        rw [ll.2, lj.2] at this
        grind
    obtain ⟨s1, s2⟩ := Ac.size h1 (B := M.drop (i + 1)) fun k hk => by have := later k hk; grind
    have mk : (Ac.at β M (i + 1)).last ∈ M := List.mem_of_mem_take h2
    rw [e] at s1 s2
    refine .inr ⟨_, mk, rfl, lt, ?_, ?_⟩
    · rw [s1, hS _ (nn _ mk)]
    · rw [s2 l (by grind) later, hS l (nn l (List.mem_of_getElem? hl))]
theorem Ac.at_len {β : Rat → Rat} {M : List Rat} : ∀ i, i ≤ M.length → (Ac.at β M i).cs.length ≤ i
  | 0, _ => Nat.le_refl _
  | i + 1, h => by
    obtain ⟨l, hl⟩ : ∃ l, M[i]? = some l := ⟨_, List.getElem?_eq_getElem (by omega)⟩
    rw [Ac.at_succ hl]
    have := Ac.at_len (β := β) (M := M) i (by omega)
    unfold Ac.step
    dsimp only
    split
    · rw [List.length_append, List.length_singleton]
      omega
    · omega
theorem bendsA_len : ∀ {cs : List Cv}, (∀ c ∈ cs, c.pts.length ≤ 8) → (∀ c ∈ cs, (bends c.slope 0 c.pts).length ≤ 8) → (bendsA cs).length ≤ 8 * cs.length
  | [], _, _ => Nat.le_refl _
  | c :: cs, h, h2 => by
    have e : bendsA (c :: cs) = bends c.slope 0 c.pts ++ bendsA cs := rfl
    rw [e, List.length_append, List.length_cons]
    have := h2 c List.mem_cons_self
    have := bendsA_len (cs := cs) (fun d hd => h d (List.mem_cons_of_mem _ hd)) (fun d hd => h2 d (List.mem_cons_of_mem _ hd))
    omega
end MC
namespace MC
def cnt (x : Rat) (ps : List Pt) : Nat := (ps.filter fun p => !decide (x < p.1)).length
theorem cnt_take {x : Rat} {ps : List Pt} {i : Nat} {p : Pt} (h : ps[i]? = some p) : cnt x (ps.take (i + 1)) = cnt x (ps.take i) + if x < p.1 then 0 else 1 := by
  unfold cnt
  rw [take_snoc' h, List.filter_append, List.length_append]
  by_cases q : x < p.1
  · rw [if_pos q, List.filter_cons_of_neg (by simp [q])]
    rfl
  · rw [if_neg q, List.filter_cons_of_pos (by simp [q])]
    rfl
theorem cnt_le (x : Rat) (ps : List Pt) : cnt x ps ≤ ps.length := List.length_filter_le _ _
theorem cnt_asc {x : Rat} : ∀ {ps : List Pt}, Asc ps → ∀ (j : Nat) (p : Pt), ps[j]? = some p → (j < cnt x ps → p.1 ≤ x) ∧ (cnt x ps ≤ j → x < p.1)
  | [], _, _, _, h => by simp at h
  | a :: ps, asc, j, p, h => by
    by_cases q : x < a.1
    · have e : cnt x (a :: ps) = 0 := by
        unfold cnt
        rw [List.length_eq_zero_iff, List.filter_eq_nil_iff]
        intro b hb
        rcases List.mem_cons.mp hb with rfl | hb
        · simp [q]
        · have := (asc_mem asc hb).1
          have : x < b.1 := by grind
          simp [this]
      rw [e]
      refine ⟨fun z => absurd z (Nat.not_lt_zero _), fun _ => ?_⟩
      rcases List.mem_cons.mp (List.mem_of_getElem? h) with rfl | hb
      · exact q
      · have := (asc_mem asc hb).1
        grind
    · have e : cnt x (a :: ps) = cnt x ps + 1 := by
        unfold cnt
        rw [List.filter_cons_of_pos (by simp [q])]
        rfl
      rw [e]
      cases j with
      | zero =>
        cases h
        exact ⟨fun _ => by grind, fun z => by omega⟩
      | succ j =>
        obtain ⟨h1, h2⟩ := cnt_asc (x := x) (asc_tail asc) j p h
        exact ⟨fun z => h1 (by omega), fun z => h2 (by omega)⟩
end MC
namespace K33
open PySem PySem.Spec PyProof.Rows L2 Sw MC LamX
/-! the sum of curves -/
def mD (D : Addr) : Addr → Prop := fun a => a = D
theorem fut_T {D : Addr} {H H' : Hp} (f : Fut (mD D) H H') : Fut mT H H' := f.mono fun _ _ => trivial
theorem fut_D {D : Addr} {H : Hp} {o : Obj} {u : HO} (e : H D = some (exO D o)) : Fut (mD D) H (upd H D u) := fun a o' e' z => by
  by_cases q : a = D
  · subst q
    rw [e] at e'
    cases e'
    rcases z with z | ⟨_, z⟩ | ⟨_, _, z⟩
    · exact absurd rfl z
    · unfold exO at z
      cases z
    · unfold exO at z
      cases z
  · rw [upd_ne q]
    exact e'
theorem fut_same {D : Addr} {H H1 H2 : Hp} (s : Same H H1) (f : Fut (mD D) H1 H2) (n : H D = none) : Same H H2 := fun b o e => f b o (s b o e) (.inl fun z => by
  have z : b = D := z
  subst z
  rw [n] at e
  cases e)
theorem DX.ex {P : Program} {w : World} {K : PySem.W.Frag} {H : Hp} {a : Addr} {es : List Ent} (h : DX P w K H a es) : ∃ o, H a = some (exO a o) := let ⟨o, _, _, _, h3, _⟩ := h; ⟨o, h3⟩
theorem Ql.fut {K : PySem.W.Frag} {H H' : Hp} {v : V} {q : Rat} (h : Ql K H v q) (f : Fut mT H H') : Ql K H' v q := Cpl.fut h f
theorem getX_map {k : Int × Int} {v : V} (k' : Int × Int) : ∀ es : List Ent, getX (es.map fun e => if e.1 = k then (e.1, e.2.1, v) else e) k' = if k' = k then (getX es k).map (fun _ => v) else getX es k'
  | [] => by
    show none = _
    split <;> rfl
  | e :: es => by
    have ih := getX_map (k := k) (v := v) k' es
    unfold getX at ih ⊢
    rw [List.map_cons, List.find?_cons, List.find?_cons, List.find?_cons]
    by_cases q : e.1 = k
    · rw [if_pos q]
      by_cases r : k' = k
      · subst r
        rw [show decide (e.1 = k') = true from decide_eq_true q, if_pos rfl]
        rfl
      · rw [show decide (e.1 = k') = false from decide_eq_false fun z => r (z.symm.trans q), if_neg r]
        dsimp only
        rw [ih, if_neg r]
    · rw [if_neg q, show decide (e.1 = k) = false from decide_eq_false q]
      by_cases r : e.1 = k'
      · rw [show decide (e.1 = k') = true from decide_eq_true r, if_neg fun z => q (r.trans z)]
      · rw [show decide (e.1 = k') = false from decide_eq_false r]
        dsimp only
        exact ih
theorem getX_put (es : List Ent) (k : Int × Int) (b : Addr) (v : V) (k' : Int × Int) : getX (putX es k b v) k' = if k' = k then some v else getX es k' := by
  unfold putX
  split
  · rename_i h
    rw [getX_map]
    split
    · obtain ⟨u, hu⟩ := Option.isSome_iff_exists.mp h
      rw [hu]
      rfl
    · rfl
  · rename_i h
    have n : getX es k = none := by
      cases q : getX es k with
      | none => rfl
      | some u => rw [q] at h; exact absurd rfl h
    unfold getX at n ⊢
    rw [List.find?_append]
    split
    · rename_i r
      subst r
      rw [Option.map_eq_none_iff] at n
      rw [n]
      show Option.map _ (Option.or none (List.find? _ [(k', b, v)])) = _
      rw [List.find?_cons, show decide ((k', b, v).1 = k') = true from decide_eq_true rfl]
      rfl
    · rename_i r
      cases q : es.find? fun e => decide (e.1 = k') with
      | some u => rfl
      | none =>
        show Option.map _ (Option.or none (List.find? _ [(k, b, v)])) = _
        rw [List.find?_cons, show decide ((k, b, v).1 = k') = false from decide_eq_false fun z => r z.symm]
        rfl
theorem fut_L {C : Addr} {H : Hp} {xs : List V} {u : HO} (e : H C = some (.lst xs)) : Fut (mD C) H (upd H C u) := fun a o' e' z => by
  by_cases q : a = C
  · subst q
    rw [e] at e'
    cases e'
    rcases z with z | ⟨_, z⟩ | ⟨_, _, z⟩
    · exact absurd rfl z
    · cases z
    · cases z
  · rw [upd_ne q]
    exact e'
theorem DX.fut {P : Program} {w : World} {K : PySem.W.Frag} {H H' : Hp} {a C : Addr} {es : List Ent} (h : DX P w K H a es) (f : Fut (mD C) H H') (n : a ≠ C) : DX P w K H' a es := by
  obtain ⟨o, xs, h1, h2, h3, h4, h5⟩ := h
  exact ⟨o, xs, h1, h2, f _ _ h3 (.inl n), h4, h5.mono fun z => sq_fut z f⟩
theorem ty_lst {K : PySem.W.Frag} {H : Hp} {p : Addr} {xs : List V} (h : H p = some (.lst xs)) : tyV K "list" (.ref p) H := Or.inl ⟨rfl, xs, .inl (.inl h)⟩
theorem tabs_fut {T : List (Addr × Str)} {C : Addr} {H H' : Hp} {xs : List V} (t : Tabs T H) (f : Fut (mD C) H H') (e : H C = some (.lst xs)) : Tabs T H' := fun p hp => by
  obtain ⟨ps, h1, h2, h3⟩ := t p hp
  refine ⟨ps, f _ _ h1 (.inl fun z => ?_), h2, fun pos cv hc => ?_⟩
  · have z : p.1 = C := z
    rw [z, e] at h1
    cases h1
  · obtain ⟨c, e1, e2⟩ := h3 pos cv hc
    refine ⟨c, e1, f _ _ e2 (.inl fun z => ?_)⟩
    have z : c = C := z
    rw [z, e] at e2
    unfold CodeO at e2
    cases e2
theorem cbw_of {c : Cv} (ok : c.Ok) (h : ∀ p ∈ c.pts, Rb 100 64 p.1 ∧ Rb 500 400 p.2 ∧ Rb 500 400 (c.ev (p.1 + 1))) : CBw c := by
  refine ⟨fun p hp => ⟨(h p hp).1.mono (by decide) (by decide), (h p hp).2.1.mono (by decide) (by decide)⟩, fun i => ?_⟩
  cases hq : c.pts[i + 1]? with
  | none =>
    rw [rise_last hq]
    obtain ⟨r, er⟩ := ok.hd
    have pos : 0 < c.pts.length := by rw [er]; exact Nat.zero_lt_succ _
    obtain ⟨p, hp⟩ : ∃ p, c.pts[c.pts.length - 1]? = some p := ⟨_, List.getElem?_eq_getElem (by omega)⟩
    have hn : c.pts[c.pts.length - 1 + 1]? = none := List.getElem?_eq_none (by omega)
    have a1 := ok.at hp (x := p.1 + 1) (by grind) (fun q hq => by rw [hn] at hq; cases hq)
    rw [rise_last hn] at a1
    obtain ⟨h1, h2, h3⟩ := h p (List.mem_of_getElem? hp)
    have : c.slope = c.ev (p.1 + 1) - p.2 := by grind
    rw [this]
    exact (h3.sub h2 (c := 901) (by decide) (by decide)).mono (by decide) (by decide)
  | some q =>
    have li := (List.getElem?_eq_some_iff.mp hq).1
    obtain ⟨p, hp⟩ : ∃ p, c.pts[i]? = some p := ⟨_, List.getElem?_eq_getElem (by omega)⟩
    rw [rise_in hp hq]
    obtain ⟨h1, h2, h3⟩ := h p (List.mem_of_getElem? hp)
    obtain ⟨g1, g2, g3⟩ := h q (List.mem_of_getElem? hq)
    have lt := (asc_lt ok.asc hp hq (Nat.lt_succ_self i)).1
    exact ((g2.sub h2 (c := 901) (by decide) (by decide)).div (g1.sub h1 (c := 165) (by decide) (by decide)) (by grind)).mono (by decide) (by decide)
/-- the dict tells what is gathered of L, by level -/
structure BD (K : PySem.W.Frag) (H : Hp) (es : List Ent) (L : List (Rat × Rat)) : Prop where
  key : ∀ e ∈ es, ∃ q, e.1 = rF q
  has : ∀ l, (getX es (rF l)).isSome = true ↔ l = 0 ∨ ∃ e ∈ L, e.1 = l
  val : ∀ l v, getX es (rF l) = some v → Ql K H v (bet L l)
  len : es.length ≤ 1 + L.length
theorem BD.fut {K : PySem.W.Frag} {H H' : Hp} {es : List Ent} {L : List (Rat × Rat)} (h : BD K H es L) (f : Fut mT H H') : BD K H' es L := ⟨h.key, h.has, fun l v z => (h.val l v z).fut f, h.len⟩
theorem BD.put {K : PySem.W.Frag} {H : Hp} {es : List Ent} {L : List (Rat × Rat)} (h : BD K H es L) {l b : Rat} {t : Addr} {v : V} (hv : Ql K H v (bet L l + b)) : BD K H (putX es (rF l) t v) (L ++ [(l, b)]) := by
  have e1 : ∀ k, bet (L ++ [(l, b)]) k = bet L k + if l = k then b else 0 := fun k => by
    rw [bet_app]
    show _ + ((if l = k then b else 0) + 0) = _
    grind
  refine ⟨fun e he => ?_, fun k => ?_, fun k u hk => ?_, ?_⟩
  · rcases putX_mem.mp ⟨e, he, rfl⟩ with z | ⟨f, hf, z⟩
    · exact ⟨l, z⟩
    · rw [← z]
      exact h.key f hf
  · rw [getX_put]
    constructor
    · intro z
      split at z
      · rename_i q
        exact .inr ⟨(l, b), List.mem_append_right _ (List.mem_singleton.mpr rfl), (rF_inj q).symm⟩
      · rcases (h.has k).mp z with z | ⟨e, he, z⟩
        · exact .inl z
        · exact .inr ⟨e, List.mem_append_left _ he, z⟩
    · intro z
      split
      · rfl
      · rename_i q
        refine (h.has k).mpr ?_
        rcases z with z | ⟨e, he, z⟩
        · exact .inl z
        · rcases List.mem_append.mp he with he | he
          · exact .inr ⟨e, he, z⟩
          · rw [List.mem_singleton.mp he] at z
            exact absurd (congrArg rF z.symm) q
  · rw [getX_put] at hk
    rw [e1]
    split at hk
    · rename_i q
      cases hk
      have q := rF_inj q
      subst q
      rw [if_pos rfl]
      exact hv
    · rename_i q
      rw [if_neg fun z => q (congrArg rF z.symm)]
      have : bet L k + 0 = bet L k := by grind
      rw [this]
      exact h.val k u hk
  · rw [List.length_append]
    have := putX_length es (rF l) t v
    have := h.len
    show _ ≤ 1 + (L.length + 1)
    omega
/-! sizes -/
theorem rb_bends {c : Cv} (cb : CBk 100 100 c) {e : Rat × Rat} (he : e ∈ bends c.slope 0 c.pts) : Rb 201 200 e.2 := by
  obtain ⟨i, hi⟩ := List.mem_iff_getElem?.mp he
  have li := (List.getElem?_eq_some_iff.mp hi).1
  rw [bends_len] at li
  have := bends_get (s := c.slope) (ρ := 0) (List.getElem?_eq_getElem li)
  rw [this] at hi
  cases hi
  have z0 : Rb 100 100 (0 : Rat) := rb_zero.mono (by decide) (by decide)
  refine (cb.rise i).sub (a' := 100) (b' := 100) ?_ (c := 201) (by decide) (by decide)
  split
  · exact z0
  · exact cb.rise _
theorem rb_bet1 {c : Cv} (ok : c.Ok) (cb : CBk 100 100 c) (j : Nat) (l : Rat) : Rb 201 200 (bet ((bends c.slope 0 c.pts).take j) l) := by
  have nd : (((bends c.slope 0 c.pts).take j).map (·.1)).Nodup := by
    rw [List.map_take]
    exact (bends_nd ok).sublist (List.take_sublist _ _)
  rcases bet_one (l := l) nd with z | ⟨e, he, z⟩
  · rw [z]
    exact rb_zero.mono (by decide) (by decide)
  · rw [z]
    exact rb_bends cb (List.mem_of_mem_take he)
theorem rb_bet : ∀ {cs : List Cv}, (∀ c ∈ cs, c.Ok) → (∀ c ∈ cs, CBk 100 100 c) → ∀ l, Rb (202 * cs.length + 1) (200 * cs.length + 1) (bet (bendsA cs) l)
  | [], _, _, _ => rb_zero
  | c :: cs, ok, cb, l => by
    have e : bendsA (c :: cs) = bends c.slope 0 c.pts ++ bendsA cs := rfl
    rw [e, bet_app]
    have h1 := rb_bet1 (ok c List.mem_cons_self) (cb c List.mem_cons_self) (bends c.slope 0 c.pts).length l
    rw [List.take_length] at h1
    have h2 := rb_bet (cs := cs) (fun d hd => ok d (List.mem_cons_of_mem _ hd)) (fun d hd => cb d (List.mem_cons_of_mem _ hd)) l
    rw [List.length_cons]
    exact (h1.add h2 (c := 202 * (cs.length + 1) + 1) (by omega) (by omega)).mono (by omega) (by omega)
structure Sm (cs : List Cv) : Prop where
  len : cs.length ≤ 5
  ok : ∀ c ∈ cs, c.Ok
  cb : ∀ c ∈ cs, CBk 100 100 c
  n : ∀ c ∈ cs, c.pts.length ≤ 8
  lv : ∀ l, (l = 0 ∨ ∃ c ∈ cs, ∃ p ∈ c.pts, p.1 = l) → Rb 100 64 l ∧ Rb 500 400 (sumE cs l) ∧ Rb 500 400 (sumE cs (l + 1))
def spAdd (K : PySem.W.Frag) (pt : Addr) : Sp := fun vs H Q _ => ∃ (k : Bool) (a : Addr) (xs : List V) (cs : List Cv), vs = [.ref a] ∧ SqK K H k a xs ∧ DtA K mT H xs (cs.map cvD) ∧ Sm cs ∧ Tabs (tbT pt) H ∧
  ∀ H' v c, ExtN H H' → Tabs (tbT pt) H' → Dt K mT H' v (cvD c) → c.Ok → CBw c → c.pts.length ≤ 1000 → (∀ x, 0 ≤ x → c.ev x = sumE cs x) → Q v H'
section
variable {P : Program} {w : World} {K : PySem.W.Frag} {mg : Str → Option Value} {base : Heap}
abbrev sadded_up : Stmt := topS 22
theorem sc_added_up : FnScope ["curves", "bends", "one", "level", "bend", "corners", "last", "pay", "rise"] ["curves"] (defScope sadded_up) := ⟨rfl, rfl, rfl, by decide +kernel, rfl, by decide +kernel, by decide +kernel⟩
theorem ok_added_up {f z pt : Addr} {fd : FuncData} (F : Fun K "added_up" "added_up" sadded_up f fd) (B : Bt mg) (TZ : ∃ u, mg "ZERO" = some u ∧ RelV (.ref z) u) (KZ : KTup K z [.int 0, .int 1]) (c_bends_of : CalG P w K mg base 5 "bends_of" (spBends K)) (c_ascending : CalG P w K mg base 2 "ascending" (spAsc K pt))
    (c_added : CalG P w K mg base 1 "added" (spQ2 K (· + ·))) (c_lessened : CalG P w K mg base 2 "lessened" (spQ2 K (· - ·))) (c_times : CalG P w K mg base 1 "times" (spQ2 K (· * ·))) : FnG P w K mg base 6 f fd ["curves"] (spAdd K pt) := by
  refine Fun.okG F sc_added_up (fun vs H Q E h => ?_) (fun cdv A outer s H vs Q E hg hr h => ?_)
  · obtain ⟨_, _, _, _, rfl, _⟩ := h
    rfl
  obtain ⟨k, a, xs, cs, rfl, hS, hA, sm, hT, kk⟩ := h
  have hu := Room.u64 hr
  have hu0 := Nat.lt_of_le_of_lt (Nat.le_add_right _ 64) hu
  have hu1 := Nat.lt_of_le_of_lt (Nat.add_le_add_left (show 1 ≤ 64 by decide) _) hu
  obtain ⟨uz, mz, rz⟩ := TZ
  refine ⟨_, (pss_cons (ps_set (i := 1) sc_added_up.nd rfl (Or.inl rfl) (pe_dispX hu0 (pe_glob (v := .ref z) (by rfl) mz rz) (pe_glob (v := .ref z) (by rfl) mz rz)))
    (pss_cons (ps_for PassesOwn.never rfl (pi_sq k (pv 0)) (pg_name (i := 2) sc_added_up.nd rfl (Or.inl rfl))
      (pss_one (ps_for PassesOwn.never rfl (pi_list (pc c_bends_of hg hr (by decide) (by rfl) (pa_cons (pv 2) pa_nil))) (pg_tup (n := 2) rfl (pgs_cons (pg_name (i := 3) sc_added_up.nd rfl (Or.inl rfl)) (pgs_cons (pg_name (i := 4) sc_added_up.nd rfl (Or.inl rfl)) pgs_nil)))
        (pss_one (ps_xput hu1 (pv 1) (pv 3) (pc c_added hg hr (by decide) (by rfl) (pa_cons (pe_xget2 hu1 (pv 1) (pv 3) (pe_glob (v := .ref z) (by rfl) mz rz) ⟨rfl, rfl, rfl, rfl⟩) (pa_cons (pv 4) pa_nil))) rfl)))))
    (pss_cons (ps_set (i := 5) sc_added_up.nd rfl (Or.inl rfl) (pe_lst pa_nil))
    (pss_cons (ps_par3 (i := 6) (j := 7) (l := 8) rfl sc_added_up.nd rfl rfl rfl (by decide) (by decide) (by decide) rfl rfl rfl (pa_cons (pe_glob (v := .ref z) (by rfl) mz rz) (pa_cons (pe_glob (v := .ref z) (by rfl) mz rz) (pa_cons (pe_glob (v := .ref z) (by rfl) mz rz) pa_nil))) (by rfl))
    (pss_cons (ps_for PassesOwn.never rfl (pi_list (pc c_ascending hg hr (by decide) (by rfl) (pa_cons (pe_callTy (call_list_dX rfl) (by rfl) B.list bb_list (pa_cons (pv 1) pa_nil)) pa_nil))) (pg_name (i := 3) sc_added_up.nd rfl (Or.inl rfl))
      (pss_cons (ps_set (i := 7) sc_added_up.nd rfl (Or.inl rfl) (pc c_added hg hr (by decide) (by rfl) (pa_cons (pv 7) (pa_cons (pc c_times hg hr (by decide) (by rfl) (pa_cons (pv 8) (pa_cons (pc c_lessened hg hr (by decide) (by rfl) (pa_cons (pv 3) (pa_cons (pv 6) pa_nil))) pa_nil))) pa_nil))))
      (pss_cons (ps_set (i := 8) sc_added_up.nd rfl (Or.inl rfl) (pc c_added hg hr (by decide) (by rfl) (pa_cons (pv 8) (pa_cons (pe_xget hu1 (pv 1) (pv 3) (fun _ _ => rfl)) pa_nil))))
      (pss_cons (ps_set (i := 6) sc_added_up.nd rfl (Or.inl rfl) (pv 3))
      (pss_one (ps_if (PW.pt (pw_or (pt_cmpR (op_eqW hu) (pv 3) (pe_glob (v := .ref z) (by rfl) mz rz) (nomark _)) (pw_or1 (pt_cmpR (op_neW hu) (pe_xget hu1 (pv 1) (pv 3) (fun _ _ => rfl)) (pe_glob (v := .ref z) (by rfl) mz rz) (nomark _)))))
        (pss_one (ps_expr (pe_bm PySem.F.plainAttrs_list PySem.F.slot_list_append PySem.F.type_list_append mt_append (pv 5) (pa_cons (pe_tup (pa_cons (pv 3) (pa_cons (pv 7) pa_nil))) pa_nil))))
        pss_nil))))))
    (pss_one (ps_ret (pe_tup (pa_cons (pe_callTy call_tuple_of (by rfl) B.tuple bb_tuple (pa_cons (pv 5) pa_nil)) (pa_cons (pv 8) pa_nil)))))))))), ?_⟩
  have hlen := hA.length
  rw [List.length_map] at hlen
  have hz : ∀ H, Ql K H (.ref z) 0 := fun H => ql_zero KZ
  refine fun D nD => ⟨z, (0, 1), rfl, .inr KZ, upd_same, fun o d0 => ?_⟩
  have s0 : Same H (upd (upd H D (exO D newD)) D (exO D o)) := same_at (same_upd nD) nD
  generalize upd (upd H D (exO D newD)) D (exO D o) = H0 at d0 s0
  have b0 : BD K H0 [((0, 1), z, V.ref z)] (bendsA (cs.take 0)) := by
    have e0 : rF 0 = (0, 1) := rfl
    have ex : getX [((0, 1), z, V.ref z)] (rF 0) = some (V.ref z) := rfl
    have eg : ∀ l, getX [((0, 1), z, V.ref z)] (rF l) = if l = 0 then some (V.ref z) else none := fun l => by
      split
      · rename_i q
        rw [q]
        exact ex
      · rename_i q
        show Option.map _ (List.find? _ [((0, 1), z, V.ref z)]) = _
        rw [List.find?_cons, show decide ((((0, 1), z, V.ref z) : Ent).1 = rF l) = false from decide_eq_false fun w => q (rF_inj (e0.trans w)).symm]
        rfl
    refine ⟨fun e he => ⟨0, by rw [List.mem_singleton.mp he]; rfl⟩, fun l => ?_, fun l v h => ?_, Nat.le_refl _⟩
    · rw [eg]
      constructor
      · intro h
        split at h
        · exact .inl ‹_›
        · cases h
      · rintro (h | ⟨e, he, _⟩)
        · rw [if_pos h]
          rfl
        · cases he
    · rw [eg] at h
      split at h
      · cases h
        exact hz _
      · cases h
  have take_ok : ∀ i, ∀ c ∈ cs.take i, c ∈ cs := fun i c hc => List.mem_of_mem_take hc
  refine ⟨_, rfl, a, rfl, ⟨xs, hS.same s0⟩, for_it (walk_sq (K := K) (k := k) (xs := xs) (a := a)) (fun i σ H' => ∃ o2 o3 o4 es, σ = [some (.ref a), some (.ref D), o2, o3, o4, none, none, none, none] ∧ Same H H' ∧ DX P w K H' D es ∧ BD K H' es (bendsA (cs.take i))) ⟨_, _, _, _, rfl, s0, d0, b0⟩ (fun i σ H' _ h => ?_) (fun i x σ H1 H2 hi h y => ?_) fun σ H1 h => ?_⟩
  · obtain ⟨_, _, _, _, _, s, _⟩ := h
    exact hS.same s
  · obtain ⟨o2, o3, o4, es, rfl, s1, d1, b1⟩ := h
    obtain ⟨rfl, gx⟩ := y
    obtain ⟨c, hc⟩ : ∃ c, cs[i]? = some c := ⟨_, List.getElem?_eq_getElem (by omega)⟩
    have mc := List.mem_of_getElem? hc
    obtain ⟨v, w1, dv⟩ := hA.getD (i := i) (d := cvD c) (by rw [List.getElem?_map, hc]; rfl)
    rw [gx] at w1
    cases w1
    have nb := bends_len (s := c.slope) (ps := c.pts) (ρ := 0)
    have nc := sm.n c mc
    refine ⟨_, rfl, x, c, rfl, dt_same dv s1, sm.ok c mc, (sm.cb c mc).mono (by decide) (by decide), by omega, fun l H3 ys s3 e3 a3 => ?_⟩
    have ylen := a3.length
    rw [List.length_map] at ylen
    refine ⟨l, rfl, ⟨ys, .inl (.inl e3)⟩, for_it (walk_list (K := K) (xs := ys) (a := l)) (fun j σ H' => ∃ o3 o4 es, σ = [some (.ref a), some (.ref D), some x, o3, o4, none, none, none, none] ∧ Fut (mD D) H3 H' ∧ DX P w K H' D es ∧ BD K H' es (bendsA (cs.take i) ++ (bends c.slope 0 c.pts).take j))
      ⟨_, _, _, rfl, .refl _, DX.same d1 s3, by rw [List.take_zero, List.append_nil]; exact b1.fut (.of_same s3)⟩ (fun j σ H' _ h => ?_) (fun j x2 σ H4 H5 hj h y => ?_) fun σ H4 h => ?_⟩
    · obtain ⟨_, _, _, _, f, dd, _⟩ := h
      exact .inl (.inl (f _ _ e3 (.inl fun z => by
        have z : l = D := z
        subst z
        obtain ⟨o', h'⟩ := DX.ex (DX.same d1 s3)
        rw [e3] at h'
        unfold exO at h'
        cases h')))
    · obtain ⟨o3, o4, es, rfl, f, dd, bb⟩ := h
      obtain ⟨rfl, gx⟩ := y
      obtain ⟨e, he⟩ : ∃ e, (bends c.slope 0 c.pts)[j]? = some e := ⟨_, List.getElem?_eq_getElem (by omega)⟩
      obtain ⟨v, w1, dv⟩ := a3.getD (i := j) (d := ptD e) (by rw [List.getElem?_map, he]; rfl)
      rw [gx] at w1
      cases w1
      obtain ⟨t, u1, u2, rfl, ht, q1, q2⟩ := pt_at (dv.fut (fut_T f))
      obtain ⟨t2, rfl, ht2⟩ := q1
      have old : Ql K H5 ((getX es (rF e.1)).getD (.ref z)) (bet (bendsA (cs.take i) ++ (bends c.slope 0 c.pts).take j) e.1) := by
        cases q : getX es (rF e.1) with
        | some v => exact bb.val _ _ q
        | none =>
          have n : ¬ (getX es (rF e.1)).isSome = true := by rw [q]; exact fun z => by cases z
          rw [bb.has] at n
          rw [bet_zero fun f hf w => n (.inr ⟨f, hf, w⟩)]
          exact hz _
      have bd : Rb (202 * 6 + 1) (200 * 6 + 1) (bet (bendsA (cs.take i) ++ (bends c.slope 0 c.pts).take j) e.1) := by
        rw [bet_app]
        have h1 := rb_bet (cs := cs.take i) (fun d hd => sm.ok d (take_ok i d hd)) (fun d hd => sm.cb d (take_ok i d hd)) e.1
        have h2 := rb_bet1 (sm.ok c mc) (sm.cb c mc) j e.1
        have l5 : (cs.take i).length ≤ 5 := by have := sm.len; rw [List.length_take]; omega
        exact (h1.add h2 (c := 202 * 6 + 1) (by omega) (by omega)).mono (by omega) (by omega)
      have be := rb_bends (sm.cb c mc) (List.mem_of_getElem? he)
      refine ⟨t, _, rfl, ht, rfl, _, _, rfl, _, _, rfl, rfl, ?_⟩
      refine ⟨_, rfl, D, es, rfl, dd, _, rfl, t2, rF e.1, es, rfl, dd, ht2, _, rfl, _, u2, _, e.2, rfl, old, q2, bd.bq (by decide) (by decide), be.bq (by decide) (by decide), fun v6 H6 s6 h6 => ?_⟩
      have d6 := DX.same dd s6
      obtain ⟨o6, e6⟩ := DX.ex d6
      have l6 := bb.len
      refine ⟨_, rfl, _, rfl, D, t2, rF e.1, es, rfl, rfl, d6, s6.seqT ht2, small1000 ?_, fun o7 d7 => ⟨_, _, _, rfl, (f.trans (.of_same s6)).trans (fut_D e6), d7, ?_⟩⟩
      · have h1 := bendsA_len (cs := cs.take i) (fun d hd => sm.n d (take_ok i d hd)) (fun d hd => by rw [bends_len]; exact sm.n d (take_ok i d hd))
        have l5 : (cs.take i).length ≤ 5 := by have := sm.len; rw [List.length_take]; omega
        have l8 : ((bends c.slope 0 c.pts).take j).length ≤ 8 := by rw [List.length_take]; omega
        rw [List.length_append] at l6
        omega
      · rw [get_take he, ← List.append_assoc]
        exact ((bb.fut (.of_same s6)).put h6).fut (fut_T (fut_D e6))
    · obtain ⟨o3, o4, es, rfl, f, dd, bb⟩ := h
      refine ⟨_, _, _, es, rfl, fut_same (s1.trans s3) f nD, dd, ?_⟩
      rw [get_take hc, bendsA_snoc]
      rw [List.take_of_length_le (l := bends c.slope 0 c.pts) (by omega)] at bb
      exact bb
  · obtain ⟨o2, o3, o4, es, rfl, s1, d1, b1⟩ := h
    rw [List.take_of_length_le (by omega)] at b1
    refine ⟨sz8 (by simp), fun C nC => ⟨_, _, _, rfl, ?_⟩⟩
    have sC := same_upd (o := .lst []) nC
    have eC := upd_same (H := H1) (a := C) (o := .lst [])
    have s2 := s1.trans sC
    have nHC : H C = none := by
      cases q : H C with
      | none => rfl
      | some u => rw [s1 _ _ q] at nC; cases nC
    have d2 := DX.same d1 sC
    have b2 := b1.fut (fut_T (D := D) (.of_same sC))
    generalize upd H1 C (.lst []) = H2 at sC eC s2 d2 b2
    refine ⟨_, rfl, D, es, rfl, d2, fun p np na => ?_⟩
    have s3 := same_upd (o := .lst (es.map fun e => V.ref e.2.1)) np
    have d3 := DX.same d2 s3
    have eC3 := s3 _ _ eC
    have ep := upd_same (H := H2) (a := p) (o := .lst (es.map fun e => V.ref e.2.1))
    have s23 := s2.trans s3
    have b3 := b2.fut (fut_T (D := D) (.of_same s3))
    generalize upd H2 p (.lst (es.map fun e => V.ref e.2.1)) = H3 at s3 d3 eC3 ep s23 b3
    have mq : ∀ l, l ∈ es.map (fun e => vf e.1) ↔ l = 0 ∨ ∃ c ∈ cs, ∃ p ∈ c.pts, p.1 = l := fun l => by
      rw [← bendsA_mem, ← b3.has l, getX_isSome]
      constructor
      · intro h
        obtain ⟨e, he, rfl⟩ := List.mem_map.mp h
        obtain ⟨q, hq⟩ := b3.key e he
        exact ⟨e, he, by rw [hq, vf_rF]⟩
      · rintro ⟨e, he, q⟩
        exact List.mem_map.mpr ⟨e, he, by rw [q, vf_rF]⟩
    have lb := b3.len
    have lb2 := bendsA_len (cs := cs) sm.n (fun d hd => by rw [bends_len]; exact sm.n d hd)
    have l5 := sm.len
    refine ⟨p, _, es.map (fun e => vf e.1), rfl, .inl (.inl ep), ?_, fun q hq => ?_, by rw [List.length_map]; omega, tabs_same hT s23, fun l H4 ys M eN T4 e4 a4 pw mem ml => ?_⟩
    · have g : ∀ {es' : List Ent}, (∀ e ∈ es', e ∈ es) → DtA K mT H3 (es'.map fun e => V.ref e.2.1) ((es'.map fun e => vf e.1).map frD) := fun {es'} h => by
        induction es' with
        | nil => exact .nil
        | cons e es' ih =>
          refine .cons ?_ (ih fun f hf => h f (List.mem_cons_of_mem _ hf))
          obtain ⟨q, hq⟩ := b3.key e (h e List.mem_cons_self)
          have t := DX.tup d3 (h e List.mem_cons_self)
          show Dt K mT H3 _ (frD (vf e.1))
          rw [hq] at t ⊢
          rw [vf_rF]
          exact Ql.dt ⟨_, rfl, t⟩
      exact g fun e he => he
    · exact ((sm.lv q ((mq q).mp hq)).1).mono (by decide) (by decide)
    · have memM : ∀ l, l ∈ M ↔ l = 0 ∨ ∃ c ∈ cs, ∃ p ∈ c.pts, p.1 = l := fun l => (mem l).trans (mq l)
      rw [List.length_map] at ml
      have nn : ∀ l ∈ M, 0 ≤ l := fun l hl => by
        rcases (memM l).mp hl with q | ⟨c, hc, r, hr', q⟩
        · grind
        · obtain ⟨i, hi⟩ := List.mem_iff_getElem?.mp hr'
          have := ((sm.ok c hc).pay hi).1
          grind
      have h0 : M[0]? = some 0 := by
        have m0 := (memM 0).mpr (.inl rfl)
        cases M with
        | nil => cases m0
        | cons k M =>
          rcases List.mem_cons.mp m0 with q | q
          · rw [← q]
            rfl
          · have a1 := (List.pairwise_cons.mp pw).1 0 q
            have a2 := nn k List.mem_cons_self
            grind
      have hSx : ∀ x, 0 ≤ x → GG (bet (bendsA cs)) M x = sumE cs x := fun x hx => by
        rw [GG_bet pw x fun e he => (memM _).mpr (.inr (bendsA_mem.mp ⟨e, he, rfl⟩)), bendsA_sum sm.ok x hx]
      have yl := a4.length
      rw [List.length_map] at yl
      have pos : 0 < M.length := (List.getElem?_eq_some_iff.mp h0).1
      have eC4 := exN_list eC3 eN
      have lC : l ≠ C := fun q => by
        rw [q, eC4] at e4
        cases e4
        simp at yl
        omega
      have DC : D ≠ C := fun q => by
        obtain ⟨o', h'⟩ := DX.ex d3
        rw [q, eC3] at h'
        unfold exO at h'
        cases h'
      have d4 := DX.exN d3 eN
      have b4 := b3.fut (exN_fut eN)
      refine ⟨l, rfl, ⟨ys, .inl (.inl e4)⟩, for_it (walk_list (K := K) (xs := ys) (a := l)) (fun i σ H' => ∃ o2 o3 o4 vl vp vr us, σ = [some (.ref a), some (.ref D), o2, o3, o4, some (.ref C), some vl, some vp, some vr] ∧ Fut (mD C) H4 H' ∧ H' C = some (.lst us) ∧
        Ql K H' vl (Ac.at (bet (bendsA cs)) M i).last ∧ Ql K H' vp (Ac.at (bet (bendsA cs)) M i).pay ∧ Ql K H' vr (Ac.at (bet (bendsA cs)) M i).rise ∧ DtA K mT H' us ((Ac.at (bet (bendsA cs)) M i).cs.map ptD))
        ⟨_, _, _, _, _, _, [], rfl, .refl _, eC4, hz _, hz _, hz _, .nil⟩ (fun i σ H' _ h => ?_) (fun i x σ H5 H6 hi h y => ?_) fun σ H5 h => ?_⟩
      · obtain ⟨_, _, _, _, _, _, _, _, f, _⟩ := h
        exact .inl (.inl (f _ _ e4 (.inl lC)))
      · obtain ⟨o2, o3, o4, vl, vp, vr, us, rfl, f, eu, hvl, hvp, hvr, au⟩ := h
        obtain ⟨rfl, gx⟩ := y
        obtain ⟨q, hq⟩ : ∃ q, M[i]? = some q := ⟨_, List.getElem?_eq_getElem (by omega)⟩
        obtain ⟨v, w1, dv⟩ := a4.getD (i := i) (d := frD q) (by rw [List.getElem?_map, hq]; rfl)
        rw [gx] at w1
        cases w1
        have hx := dt_ql (dv.fut (fut_T f))
        obtain ⟨t2, rfl, ht2⟩ := id hx
        have mq' := (memM q).mp (List.mem_of_getElem? hq)
        obtain ⟨bq1, bq2, bq3⟩ := sm.lv q mq'
        have B : Rb 100 64 (Ac.at (bet (bendsA cs)) M i).last ∧ Rb 165 128 (q - (Ac.at (bet (bendsA cs)) M i).last) ∧ Rb 1029 965 (Ac.at (bet (bendsA cs)) M i).rise ∧ Rb 500 400 (Ac.at (bet (bendsA cs)) M i).pay := by
          rcases Ac.run_size pw h0 nn hSx hq with ⟨e, e0⟩ | ⟨r, mr, e1, lt, e2, e3⟩
          · have z0 : ∀ a b, 1 ≤ a → 1 ≤ b → Rb a b (0 : Rat) := fun a b h1 h2 => rb_zero.mono h1 h2
            rw [e, e0]
            refine ⟨z0 _ _ (by decide) (by decide), ?_, z0 _ _ (by decide) (by decide), z0 _ _ (by decide) (by decide)⟩
            have : (0 : Rat) - Ac.zero.last = 0 := by
              show (0 : Rat) - 0 = 0
              grind
            rw [this]
            exact z0 _ _ (by decide) (by decide)
          · obtain ⟨c1, c2, c3⟩ := sm.lv r ((memM r).mp mr)
            have hd : Rb 165 128 (q - r) := bq1.sub c1 (by decide) (by decide)
            have hn : Rb 901 800 (sumE cs q - sumE cs r) := bq2.sub c2 (by decide) (by decide)
            rw [e1, e2]
            refine ⟨c1, hd, ?_, c2⟩
            have ne : q - r ≠ 0 := by grind
            have : (Ac.at (bet (bendsA cs)) M i).rise = (sumE cs q - sumE cs r) / (q - r) := by
              rw [e2] at e3
              grind
            rw [this]
            exact (hn.div hd ne).mono (by decide) (by decide)
        obtain ⟨B1, B2, B3, B4⟩ := B
        have B5 := B3.mul B2
        have d5 := DX.fut d4 f DC
        have b5 := b4.fut (fut_T f)
        obtain ⟨w', hw'⟩ := Option.isSome_iff_exists.mp ((b5.has q).mpr (mq'.imp id bendsA_mem.mpr))
        have hwq := b5.val q w' hw'
        have bb : Rb 1100 1100 (bet (bendsA cs) q) := (rb_bet sm.ok sm.cb q).mono (by omega) (by omega)
        refine ⟨_, rfl, _, rfl, _, rfl, _, rfl, .ref t2, vl, q, _, rfl, hx, hvl, bq1.bq (by decide) (by decide), B1.bq (by decide) (by decide), fun v6 H6 s6 h6 => ?_⟩
        refine ⟨vr, v6, _, _, rfl, hvr.same s6, h6, B3.bq (by decide) (by decide), B2.bq (by decide) (by decide), fun v7 H7 s7 h7 => ?_⟩
        refine ⟨vp, v7, _, _, rfl, (hvp.same s6).same s7, h7, B4.bq (by decide) (by decide), B5.bq (by decide) (by decide), fun v8 H8 s8 h8 => ?_⟩
        have s58 := (s6.trans s7).trans s8
        refine ⟨_, rfl, _, rfl, _, rfl, D, t2, rF q, es, w', rfl, rfl, DX.same d5 s58, s58.seqT ht2, hw', vr, w', _, _, rfl, hvr.same s58, hwq.same s58, B3.bq (by decide) (by decide), bb.bq (by decide) (by decide), fun v9 H9 s9 h9 => ?_⟩
        have s59 := s58.trans s9
        have e9 := s59 _ _ eu
        have cl := Ac.at_len (β := bet (bendsA cs)) (M := M) i (by omega)
        refine ⟨_, rfl, _, rfl, ⟨mT, frD q, frD 0, (hx.same s59).dt, (hz _).dt, fr_shaped _, fr_shaped _, _, rfl, ?_⟩⟩
        rw [eqv_fr]
        refine iteP (fun e => iteT ?_) fun e => ?_
        · obtain ⟨us1, e91⟩ : ∃ us1, us1 = us := ⟨_, rfl⟩
          refine ⟨_, rfl, ty_lst e9, _, rfl, _, rfl, sz8 (by simp), fun T nT => ?_⟩
          have sT := same_upd (o := .tup [V.ref t2, v8]) nT
          have eT := sT _ _ e9
          have uT := upd_same (H := H9) (a := T) (o := .tup [V.ref t2, v8])
          have a10 : DtA K mT (upd H9 T (.tup [V.ref t2, v8])) (us ++ [.ref T]) (((Ac.at (bet (bendsA cs)) M i).cs ++ [(q, (Ac.at (bet (bendsA cs)) M i).pay + (Ac.at (bet (bendsA cs)) M i).rise * (q - (Ac.at (bet (bendsA cs)) M i).last))]).map ptD) := by
            rw [List.map_append]
            exact (au.fut (.of_same (s59.trans sT))).append (.cons (.tup (.inl uT) (.cons (Ql.dt ((hx.same s59).same sT)) (.cons (Ql.dt ((h8.same s9).same sT)) .nil))) .nil)
          refine ⟨C, us, .ref T, rfl, rfl, eT, small1000 (by have := au.length; rw [List.length_map] at this; omega), ?_⟩
          have fC := fut_L (u := .lst (us ++ [V.ref T])) eT
          refine ⟨_, _, _, _, _, _, us ++ [.ref T], rfl, ((f.trans (.of_same s59)).trans (.of_same sT)).trans fC, upd_same, ?_⟩
          rw [Ac.at_succ hq]
          unfold Ac.step
          rw [if_pos (.inl e)]
          exact ⟨((hx.same s59).same sT).fut (fut_T fC), ((h8.same s9).same sT).fut (fut_T fC), (h9.same sT).fut (fut_T fC), a10.fut (fut_T fC)⟩
        · refine ⟨_, rfl, _, rfl, D, t2, rF q, es, w', rfl, rfl, DX.same d5 s59, s59.seqT ht2, hw', ⟨mT, frD _, frD 0, (hwq.same s59).dt, (hz _).dt, fr_shaped _, fr_shaped _, _, rfl, ?_⟩⟩
          rw [eqv_fr]
          by_cases e3 : bet (bendsA cs) q ≠ 0
          · rw [show decide (bet (bendsA cs) q = 0) = false from decide_eq_false e3]
            refine iteT ?_
            obtain ⟨us1, e91⟩ : ∃ us1, us1 = us := ⟨_, rfl⟩
            refine ⟨_, rfl, ty_lst e9, _, rfl, _, rfl, sz8 (by simp), fun T nT => ?_⟩
            have sT := same_upd (o := .tup [V.ref t2, v8]) nT
            have eT := sT _ _ e9
            have uT := upd_same (H := H9) (a := T) (o := .tup [V.ref t2, v8])
            have a10 : DtA K mT (upd H9 T (.tup [V.ref t2, v8])) (us ++ [.ref T]) (((Ac.at (bet (bendsA cs)) M i).cs ++ [(q, (Ac.at (bet (bendsA cs)) M i).pay + (Ac.at (bet (bendsA cs)) M i).rise * (q - (Ac.at (bet (bendsA cs)) M i).last))]).map ptD) := by
              rw [List.map_append]
              exact (au.fut (.of_same (s59.trans sT))).append (.cons (.tup (.inl uT) (.cons (Ql.dt ((hx.same s59).same sT)) (.cons (Ql.dt ((h8.same s9).same sT)) .nil))) .nil)
            refine ⟨C, us, .ref T, rfl, rfl, eT, small1000 (by have := au.length; rw [List.length_map] at this; omega), ?_⟩
            have fC := fut_L (u := .lst (us ++ [V.ref T])) eT
            refine ⟨_, _, _, _, _, _, us ++ [.ref T], rfl, ((f.trans (.of_same s59)).trans (.of_same sT)).trans fC, upd_same, ?_⟩
            rw [Ac.at_succ hq]
            unfold Ac.step
            rw [if_pos (.inr e3)]
            exact ⟨((hx.same s59).same sT).fut (fut_T fC), ((h8.same s9).same sT).fut (fut_T fC), (h9.same sT).fut (fut_T fC), a10.fut (fut_T fC)⟩
          · have e4 : bet (bendsA cs) q = 0 := Decidable.not_not.mp e3
            rw [show decide (bet (bendsA cs) q = 0) = true from decide_eq_true e4]
            refine iteF ?_
            refine ⟨_, _, _, _, _, _, us, rfl, f.trans (.of_same s59), e9, ?_⟩
            rw [Ac.at_succ hq]
            unfold Ac.step
            rw [if_neg fun z => z.elim e e3]
            exact ⟨hx.same s59, h8.same s9, h9, au.fut (.of_same s59)⟩
      · obtain ⟨o2, o3, o4, vl, vp, vr, us, rfl, f, eu, hvl, hvp, hvr, au⟩ := h
        rw [yl] at hvl hvp hvr au
        have cl := Ac.at_len (β := bet (bendsA cs)) (M := M) M.length (Nat.le_refl _)
        have inv : (Ac.at (bet (bendsA cs)) M M.length).Inv (bet (bendsA cs)) M := by
          obtain ⟨m, hm⟩ : ∃ m, M.length = m + 1 := ⟨M.length - 1, by omega⟩
          have := (Ac.run (β := bet (bendsA cs)) pw h0 m (by omega)).1
          rw [← hm, List.take_length] at this
          exact this
        obtain ⟨ok, hev⟩   := Ac.curve inv (sumE_mono sm.ok) hSx nn
        generalize Ac.at (bet (bendsA cs)) M M.length = t at hvl hvp hvr au cl inv ok hev
        have cbw : CBw ⟨t.cs, t.rise⟩ := cbw_of ok fun p hp => by
          obtain ⟨m1, m2⟩ := inv.mem p hp
          obtain ⟨c1, c2, c3⟩ := sm.lv p.1 ((memM _).mp m1)
          have n1 := nn _ m1
          rw [hev _ (by grind), m2, hSx _ n1]
          exact ⟨c1, c2, c3⟩
        have T5 := tabs_fut T4 f eC4
        refine ⟨_, rfl, C, us, rfl, .inl ⟨.inl (.inl eu), fun T nT => ⟨_, rfl, sz8 (by simp), fun R nR => ?_⟩⟩⟩
        have sT := same_upd (o := .tup us) nT
        have uT := upd_same (H := H5) (a := T) (o := .tup us)
        have sR := same_upd (o := .tup [V.ref T, vr]) nR
        have uR := upd_same (H := upd H5 T (.tup us)) (a := R) (o := .tup [V.ref T, vr])
        have sTR := sT.trans sR
        refine kk _ _ ⟨t.cs, t.rise⟩ (fun b o e n => ?_) (tabs_same T5 sTR) ?_ ok cbw (by show t.cs.length ≤ 1000; omega) hev
        · have e1 := ((exN_same s23).trans eN) b o e n
          exact sTR _ _ (f _ _ e1 (.inl fun z => by
            have z : b = C := z
            rw [z, nHC] at e
            cases e))
        · exact .tup (.inl uR) (.cons (.tup (.inl (sR _ _ uT)) (au.fut (.of_same sTR))) (.cons (Ql.dt (hvr.same sTR)) .nil))
end
end K33
namespace K33
open PySem PySem.Spec PyProof.Rows L2 Sw MC LamX
/-! what is paid at a level, of an amount -/
def spPays (K : PySem.W.Frag) : Sp := fun vs H Q _ => ∃ (k : Bool) (a : Addr) (xs : List V) (cs : List Cv) (y : V) (x : Rat), vs = [.ref a, y] ∧ SqK K H k a xs ∧ DtA K mT H xs (cs.map cvD) ∧ Sm cs ∧ Ql K H y x ∧ Rb 1700 1700 x ∧ 0 ≤ x ∧
  ∀ v H', Same H H' → Dt K mT H' v (.tuple ((cs.map fun c => c.ev x).map frD)) → Q v H'
def spLof (K : PySem.W.Frag) (pt : Addr) : Sp := fun vs H Q _ => ∃ (k : Bool) (a : Addr) (xs : List V) (cs : List Cv) (y : V) (x : Rat), vs = [.ref a, y] ∧ SqK K H k a xs ∧ DtA K mT H xs (cs.map cvD) ∧ Sm cs ∧ Ql K H y x ∧ Rb 600 600 x ∧ 0 ≤ x ∧ Tabs (tbT pt) H ∧
  ∀ o v H', ExtN H H' → Tabs (tbT pt) H' → Lst (sumE cs) x o → OQ K H' v o → Q v H'
def spPmt (K : PySem.W.Frag) (pt : Addr) : Sp := fun vs H Q _ => ∃ (k : Bool) (a : Addr) (xs : List V) (cs : List Cv) (y : V) (x : Rat), vs = [.ref a, y] ∧ SqK K H k a xs ∧ DtA K mT H xs (cs.map cvD) ∧ Sm cs ∧ Ql K H y x ∧ Rb 600 600 x ∧ 0 ≤ x ∧ Tabs (tbT pt) H ∧ (∀ l, Lst (sumE cs) x (some l) → Rb 1700 1700 l) ∧
  ∀ o v H', ExtN H H' → Tabs (tbT pt) H' → Lst (sumE cs) x o → (match o with | some l => Dt K mT H' v (.tuple ((cs.map fun c => c.ev l).map frD)) | none => v = .non) → Q v H'
section
variable {P : Program} {w : World} {K : PySem.W.Frag} {mg : Str → Option Value} {base : Heap}
abbrev spays_at : Stmt := topS 31
theorem sc_pays_at : FnScope ["curves", "level", "one"] ["curves", "level"] (defScope spays_at) := ⟨rfl, rfl, rfl, by decide +kernel, rfl, by decide +kernel, by decide +kernel⟩
theorem ok_pays_at {f : Addr} {fd : FuncData} (F : Fun K "pays_at" "pays_at" spays_at f fd) (B : Bt mg) (c_pay_at : CalG P w K mg base 6 "pay_at" (spPay K)) : FnG P w K mg base 7 f fd ["curves", "level"] (spPays K) := by
  refine Fun.okG F sc_pays_at (fun vs H Q E h => ?_) (fun cdv A outer s H vs Q E hg hr h => ?_)
  · obtain ⟨_, _, _, _, _, _, rfl, _⟩ := h
    rfl
  obtain ⟨k, a, xs, cs, y, x, rfl, hS, hA, sm, hy, bx, x0, kk⟩ := h
  refine ⟨_, (pss_one (ps_ret (pe_callTy call_tuple_of (by rfl) B.tuple bb_tuple (pa_cons (pe_lc (own := [("one", 2)]) rfl sc_pays_at.nd (pi_sq k (pv 0)) (blkOk_by (own := [("one", 2)]) (N := ["curves", "level", "one"]) (sc := (defScope spays_at)) (by decide +kernel)) (fun _ _ _ _ _ => (pg_name (i := 2) sc_pays_at.nd rfl (Or.inl rfl))) (fun _ _ _ _ _ => pts_nil) (fun _ _ _ _ _ => (pc c_pay_at hg hr (by decide) (by rfl) (pa_cons (pv 2) (pa_cons (pv 1) pa_nil))))) pa_nil)))), ?_⟩
  have hlen := hA.length
  rw [List.length_map] at hlen
  refine ⟨_, rfl, a, rfl, ⟨xs, hS⟩, fun D nD => ?_⟩
  refine lc_it (walk_sq (K := K) (k := k) (a := a) (xs := xs)) (fun i H' => Same H H' ∧ ∃ us, H' D = some (.lst us) ∧ DtA K mT H' us (((cs.take i).map fun c => c.ev x).map frD)) ⟨same_upd nD, [], upd_same, .nil⟩ (fun i H' _ h => hS.same h.1) ?_ ?_
  · rintro i x1 H1 H2 hi ⟨s1, us, e1, a1⟩ ⟨rfl, gx⟩
    obtain ⟨c, hc⟩ : ∃ c, cs[i]? = some c := ⟨_, List.getElem?_eq_getElem (by omega)⟩
    have mc := List.mem_of_getElem? hc
    obtain ⟨v, w1, dv⟩ := hA.getD (i := i) (d := cvD c) (by rw [List.getElem?_map, hc]; rfl)
    rw [gx] at w1
    cases w1
    have l1 := a1.length
    rw [List.length_map, List.length_map, List.length_take] at l1
    have l5 := sm.len
    refine ⟨rfl, _, rfl, _, rfl, x1, y, c, x, rfl, dt_same dv s1, hy.same s1, sm.ok c mc, (sm.cb c mc).mono (by decide) (by decide), bx, x0, Nat.le_trans (sm.n c mc) (by decide), fun v3 H3 s3 h3 => ?_⟩
    have e3 := s3 _ _ e1
    refine ⟨us, e3, small1000 (by omega), same_at (s1.trans s3) nD, us ++ [v3], upd_same, ?_⟩
    rw [take_snoc hc, List.map_append]
    exact dtA_at ((a1.fut (.of_same s3)).append (.cons h3.dt .nil)) e3
  · rintro H1 ⟨s1, us, e1, a1⟩
    rw [List.take_of_length_le (by omega)] at a1
    refine ⟨D, us, rfl, .inl ⟨.inl (.inl e1), fun T nT => ?_⟩⟩
    have sT := same_upd (o := .tup us) nT
    exact kk _ _ (s1.trans sT) (.tup (.inl upd_same) (a1.fut (.of_same sT)))
abbrev slevel_of : Stmt := topS 32
theorem sc_level_of : FnScope ["curves", "amount"] ["curves", "amount"] (defScope slevel_of) := ⟨rfl, rfl, rfl, by decide +kernel, rfl, by decide +kernel, by decide +kernel⟩
theorem ok_level_of {f pt : Addr} {fd : FuncData} (F : Fun K "level_of" "level_of" slevel_of f fd) (B : Bt mg) (c_added_up : CalG P w K mg base 6 "added_up" (spAdd K pt)) (c_level_for : CalG P w K mg base 5 "level_for" (spLev K)) : FnG P w K mg base 7 f fd ["curves", "amount"] (spLof K pt) := by
  refine Fun.okG F sc_level_of (fun vs H Q E h => ?_) (fun cdv A outer s H vs Q E hg hr h => ?_)
  · obtain ⟨_, _, _, _, _, _, rfl, _⟩ := h
    rfl
  obtain ⟨k, a, xs, cs, y, x, rfl, hS, hA, sm, hy, bx, x0, hT, kk⟩ := h
  refine ⟨_, (pss_one (ps_ret (pc c_level_for hg hr (by decide) (by rfl) (pa_cons (pc c_added_up hg hr (by decide) (by rfl) (pa_cons (pv 0) pa_nil)) (pa_cons (pv 1) pa_nil))))), ?_⟩
  refine ⟨_, rfl, ⟨k, a, xs, cs, rfl, hS, hA, sm, hT, fun H1 v c e1 T1 dc ok cbw lc hev => ⟨_, rfl, v, y, c, x, rfl, dc, hy.fut (exN_fut e1), ok, cbw, bx, x0, lc, fun H2 o v2 s2 hL hv => ?_⟩⟩⟩
  exact kk o v2 H2 (e1.trans (exN_same s2)) (tabs_same T1 s2) (hL.congr hev) hv
abbrev spayments : Stmt := topS 33
theorem sc_payments : FnScope ["curves", "amount", "level"] ["curves", "amount"] (defScope spayments) := ⟨rfl, rfl, rfl, by decide +kernel, rfl, by decide +kernel, by decide +kernel⟩
theorem ok_payments {f pt : Addr} {fd : FuncData} (F : Fun K "payments" "payments" spayments f fd) (B : Bt mg) (c_level_of : CalG P w K mg base 7 "level_of" (spLof K pt)) (c_pays_at : CalG P w K mg base 7 "pays_at" (spPays K)) : FnG P w K mg base 8 f fd ["curves", "amount"] (spPmt K pt) := by
  refine Fun.okG F sc_payments (fun vs H Q E h => ?_) (fun cdv A outer s H vs Q E hg hr h => ?_)
  · obtain ⟨_, _, _, _, _, _, rfl, _⟩ := h
    rfl
  obtain ⟨k, a, xs, cs, y, x, rfl, hS, hA, sm, hy, bx, x0, hT, hb, kk⟩ := h
  refine ⟨_, (pss_cons (ps_set (i := 2) sc_payments.nd rfl (Or.inl rfl) (pc c_level_of hg hr (by decide) (by rfl) (pa_cons (pv 0) (pa_cons (pv 1) pa_nil))))
    (pss_one (ps_ret (pe_ifExp (pt_cmpR op_isN (pv 2) pe_non (nomark _)) pe_non (pc c_pays_at hg hr (by decide) (by rfl) (pa_cons (pv 0) (pa_cons (pv 2) pa_nil))))))), ?_⟩
  refine ⟨_, rfl, _, rfl, k, a, xs, cs, y, x, rfl, hS, hA, sm, hy, bx, x0, hT, fun o v H1 e1 T1 hL hv => ?_⟩
  cases o with
  | none =>
    have hv : v = .non := hv
    subst hv
    refine ⟨_, rfl, rfl, _, rfl, iteP (fun _ => ?_) fun h => absurd rfl h⟩
    exact kk none _ H1 e1 T1 hL rfl
  | some l =>
    have hv : Ql K H1 v l := hv
    obtain ⟨t, rfl, ht⟩ := id hv
    refine ⟨_, rfl, rfl, _, rfl, iteP (fun h => V.noConfusion h) fun h => ?_⟩
    refine ⟨_, rfl, _, rfl, k, a, xs, cs, _, l, rfl, hS.exN e1, hA.fut (exN_fut e1), sm, hv, hb l hL, hL.1, fun v2 H2 s2 h2 => ?_⟩
    exact kk (some l) _ H2 (e1.trans (exN_same s2)) (tabs_same T1 s2) hL h2
end
end K33
namespace K33
open PySem PySem.Spec PyProof.Rows L2 Sw MC LamX
def below (o g : Int × Int) : Bool := decide (g.1 * o.2 < o.1 * g.2)
def Srt (gs : List (Int × Int)) : Prop := gs.Pairwise fun f g => ¬ LeF g f
theorem below_iff {o g : Int × Int} : below o g = true ↔ ¬ LeF o g := by
  unfold below LeF
  rw [decide_eq_true_eq]
  omega
/-- those below stand ahead -/
theorem cut_at (o : Int × Int) (po : 0 < o.2) : ∀ gs : List (Int × Int), Srt gs → (∀ g ∈ gs, 0 < g.2) → (∀ g ∈ gs.take (gs.filter (below o)).length, below o g = true) ∧ (∀ g ∈ gs.drop (gs.filter (below o)).length, below o g = false)
  | [], _, _ => ⟨fun g h => (by simp at h), fun g h => (by simp at h)⟩
  | x :: gs, hs, hp => by
    have hs' := List.pairwise_cons.mp hs
    obtain ⟨i1, i2⟩ := cut_at o po gs hs'.2 fun g h => hp g (List.mem_cons_of_mem _ h)
    have px := hp x List.mem_cons_self
    cases hx : below o x with
    | true =>
      rw [List.filter_cons_of_pos (by rw [hx])]
      refine ⟨fun g h => ?_, fun g h => ?_⟩
      · rw [List.length_cons, List.take_succ_cons] at h
        rcases List.mem_cons.mp h with rfl | h
        · exact hx
        · exact i1 g h
      · rw [List.length_cons, List.drop_succ_cons] at h
        exact i2 g h
    | false =>
      have all : ∀ g ∈ gs, below o g = false := fun g h => by
        refine Bool.eq_false_iff.mpr fun z => below_iff.mp z ?_
        have ox : LeF o x := Classical.not_not.mp fun q => by
          rw [below_iff.mpr q] at hx
          cases hx
        have xg : LeF x g := by
          have := hs'.1 g h
          unfold LeF at *
          omega
        exact leF_trans po px (hp g (List.mem_cons_of_mem _ h)) ox xg
      have e : (x :: gs).filter (below o) = [] := by
        rw [List.filter_cons_of_neg (by rw [hx]; exact Bool.false_ne_true), List.filter_eq_nil_iff]
        intro g h z
        rw [all g h] at z
        cases z
      rw [e]
      refine ⟨fun g h => (by simp at h), fun g h => ?_⟩
      rcases List.mem_cons.mp h with rfl | h
      · exact hx
      · exact all g h
theorem Srt.ins {gs : List (Int × Int)} {o : Int × Int} (h : Srt gs) (c : Nat) (h1 : ∀ g ∈ gs.take c, ¬ LeF o g) (h2 : ∀ g ∈ gs.drop c, ¬ LeF g o) (po : 0 < o.2) (hp : ∀ g ∈ gs, 0 < g.2) : Srt (gs.take c ++ o :: gs.drop c) := by
  unfold Srt at *
  have e := h
  rw [← List.take_append_drop c gs] at e
  obtain ⟨a, b, d⟩ := List.pairwise_append.mp e
  refine List.pairwise_append.mpr ⟨a, List.pairwise_cons.mpr ⟨h2, b⟩, fun g hg k hk => ?_⟩
  rcases List.mem_cons.mp hk with rfl | hk
  · exact h1 g hg
  · exact d g hg k hk
def spAscL (K : PySem.W.Frag) : Sp := fun vs H Q _ => ∃ (a : Addr) (xs : List V) (fs : List (Int × Int)), vs = [.ref a] ∧ SqL K H a xs ∧ RowF K H xs fs ∧ (∀ f ∈ fs, OkF f) ∧ fs.length ≤ 200 ∧
  ∀ p H' ys gs, Same H H' → H' p = some (.lst ys) → RowF K H' ys gs → (∀ g ∈ gs, g ∈ fs) → (∀ g ∈ fs, g ∈ gs) → Srt gs → gs.length ≤ fs.length → Q (.ref p) H'
section
variable {P : Program} {w : World} {K : PySem.W.Frag} {mg : Str → Option Value} {base : Heap}
abbrev s_law_ascending : Stmt := topS 54
theorem sc__law_ascending : FnScope ["fractions", "found", "one", "at", "other"] ["fractions"] (defScope s_law_ascending) := ⟨rfl, rfl, rfl, by decide +kernel, rfl, by decide +kernel, by decide +kernel⟩
theorem ok__law_ascending {f : Addr} {fd : FuncData} (F : Fun K "_law_ascending" "_law_ascending" s_law_ascending f fd) (B : Bt mg) (c__law_is_below : CalG P w K mg base 1 "_law_is_below" (spBelow K)) : FnG P w K mg base 2 f fd ["fractions"] (spAscL K) := by
  refine Fun.okG F sc__law_ascending (fun vs H Q E h => ?_) (fun cdv A outer s H vs Q E hg hr h => ?_)
  · obtain ⟨_, _, _, rfl, _⟩ := h
    rfl
  obtain ⟨a, xs, fs, rfl, hq, hr0, hs, hl, k⟩ := h
  have hu := Room.u64 hr
  refine ⟨_, (pss_cons (ps_set (i := 1) sc__law_ascending.nd rfl (Or.inl rfl) (pe_lst pa_nil))
    (pss_cons (ps_for PassesOwn.never rfl (pi_list (pv 0)) (pg_name (i := 2) sc__law_ascending.nd rfl (Or.inr rfl))
      (pss_cons (ps_set (i := 3) sc__law_ascending.nd rfl (Or.inl rfl) (pe_callB call_lenA (by rfl) B.len boot_len (pa_cons (pe_lc (own := [("other", 4)]) rfl sc__law_ascending.nd (pi_list (pv 1)) (blkOk_by (own := [("other", 4)]) (N := ["fractions", "found", "one", "at", "other"]) (sc := (defScope s_law_ascending)) (by decide +kernel)) (fun _ _ _ _ _ => (pg_name (i := 4) sc__law_ascending.nd rfl (Or.inl rfl))) (fun _ _ _ _ _ => (pts_one (pt_val (pc c__law_is_below hg hr (by decide) (by rfl) (pa_cons (pv 4) (pa_cons (pv 2) pa_nil)))))) (fun _ _ _ _ _ => pe_int)) pa_nil)))
      (pss_one (ps_if (PW.pt (pw_or (pt_cmpR op_eq (pv 3) (pe_callB call_lenA (by rfl) B.len boot_len (pa_cons (pv 1) pa_nil)) (nomark _)) (pw_or1 (pt_cmpR (op_neW hu) (pe_ix ix_list (pv 1) (pv 3) (fun _ _ => rfl)) (pv 2) (nomark _)))))
        (pss_one (ps_expr (pe_bm PySem.F.plainAttrs_list PySem.F.slot_list_insert PySem.F.type_list_insert mt_insert (pv 1) (pa_cons (pv 3) (pa_cons (pv 2) pa_nil)))))
        pss_nil))))
    (pss_one (ps_ret (pv 1))))), ?_⟩
  refine ⟨Nat.zero_le _, fun p np => ?_⟩
  have s0 := same_upd (o := .lst []) np
  refine ⟨_, rfl, a, rfl, ⟨_, s0.seq hq⟩, for_it (walk_list (K := K) (xs := xs) (a := a)) (fun i σ H' => ∃ o2 o3 ys gs, σ = [some (.ref a), some (.ref p), o2, o3, none] ∧ Same H H' ∧ H' p = some (.lst ys) ∧ RowF K H' ys gs ∧ (∀ g ∈ gs, g ∈ fs.take i) ∧ (∀ g ∈ fs.take i, g ∈ gs) ∧ Srt gs ∧ gs.length ≤ i)
    ⟨none, none, [], [], rfl, s0, upd_same, True.intro, (fun g h => nomatch h), (fun g h => by simp at h), .nil, Nat.le_refl _⟩ (fun i σ H' _ h => by
      obtain ⟨_, _, _, _, _, s, _⟩ := h
      exact s.seq hq) (fun i x σ H1 H2 hi h y => ?_) fun σ H1 h => ?_⟩
  · obtain ⟨o2, o3, ys, gs, rfl, s1, hp, hrow, g1, g2, srt, gl⟩ := h
    obtain ⟨rfl, hx⟩ := y
    obtain ⟨o, eo, co⟩ := hr0.get hx
    have om := List.mem_of_getElem? eo
    have so := hs o om
    have et : fs.take (i + 1) = fs.take i ++ [o] := by
      rw [List.take_add_one, eo]
      rfl
    have hi10 : i ≤ 200 := by rw [hr0.len] at hi; omega
    have co1 := co.same s1
    have gsm : ∀ g ∈ gs, OkF g := fun g h => hs g (List.mem_of_mem_take (g1 g h))
    -- at
    refine ⟨_, rfl, p, rfl, ⟨_, .inl (.inl hp)⟩, fun D nD => ?_⟩
    have nDp : p ≠ D := fun z => by
      rw [← z, hp] at nD
      cases nD
    refine lc_it (walk_list (K := K) (xs := ys) (a := p)) (fun j H' => Same H2 H' ∧ H' D = some (.lst (List.replicate ((gs.take j).filter (below o)).length (.int 1)))) ⟨same_upd nD, by rw [upd_same]; rfl⟩ (fun _ _ _ h => .inl (.inl (h.1 _ _ hp))) (fun j y H3 H4 hj h y' => ?_) fun H3 h => ?_
    · obtain ⟨h1, h2⟩ := h
      obtain ⟨rfl, hy⟩ := y'
      obtain ⟨g, eg, cg⟩ := hrow.get hy
      have sg := gsm g (List.mem_of_getElem? eg)
      have ej : gs.take (j + 1) = gs.take j ++ [g] := by
        rw [List.take_add_one, eg]
        rfl
      have hlen : ((gs.take j).filter (below o)).length ≤ 200 := Nat.le_trans (List.length_filter_le _ _) (by rw [List.length_take]; omega)
      refine ⟨rfl, _, rfl, _, rfl, y, x, g.1, g.2, o.1, o.2, rfl, cg.same h1, co1.same h1, sg.bn, sg.bd, so.bn, so.bd, _, rfl, ?_⟩
      show if below o g = true then _ else _
      have sD : ∀ {ob : HO}, Same H2 (upd H4 D ob) := fun {ob} q u e => by
        rw [upd_ne (ne_of_none e nD)]
        exact h1 q u e
      cases hb : below o g with
      | true =>
        refine iteT ⟨_, h2, Nat.lt_of_le_of_lt (by rw [List.length_replicate]; exact Nat.le_refl _) (small1000 (by omega)), sD, ?_⟩
        rw [upd_same, ej, List.filter_append, List.filter_cons_of_pos hb, List.length_append]
        show _ = some (HO.lst (List.replicate (_ + 1) _))
        rw [List.replicate_succ']
      | false =>
        refine iteF ⟨h1, ?_⟩
        rw [h2, ej, List.filter_append, List.filter_cons_of_neg (by rw [hb]; exact Bool.false_ne_true), List.filter_nil, List.append_nil]
    obtain ⟨h1, h2⟩ := h
    rw [hrow.len, List.take_length] at h2
    refine ⟨_, _, rfl, .inl ⟨_, .inl (.inl h2), rfl⟩, ?_⟩
    obtain ⟨t1, t2⟩ := cut_at o so.fr.pos gs srt fun g h => (gsm g h).fr.pos
    have cle : (gs.filter (below o)).length ≤ gs.length := List.length_filter_le _ _
    rw [List.length_replicate]
    generalize (gs.filter (below o)).length = c at t1 t2 cle
    have hp3 := h1 _ _ hp
    have hrow3 := hrow.same h1
    have co3 := co1.same h1
    have s3 := s1.trans h1
    -- found.insert
    have ins : (∀ g ∈ gs.drop c, ¬ LeF g o) → ∃ ys' gs', ys.take c ++ [x] ++ ys.drop c = ys' ∧ Same H (upd H3 p (.lst ys')) ∧ RowF K (upd H3 p (.lst ys')) ys' gs' ∧ (∀ g ∈ gs', g ∈ fs.take (i + 1)) ∧ (∀ g ∈ fs.take (i + 1), g ∈ gs') ∧ Srt gs' ∧ gs'.length ≤ i + 1 := fun hgt => by
      refine ⟨_, gs.take c ++ o :: gs.drop c, rfl, fun q u e => ?_, ?_, fun g h => ?_, fun g h => ?_, ?_, ?_⟩
      · rw [upd_ne (ne_of_none e np)]
        exact s3 q u e
      · have z := (RowF.ins co3 c hrow3).fut (fut_at (o' := .lst (ys.take c ++ [x] ++ ys.drop c)) hp3)
        have e : ys.take c ++ x :: ys.drop c = ys.take c ++ [x] ++ ys.drop c := by simp
        rw [e] at z
        exact z
      · rw [et]
        rcases List.mem_append.mp h with h | h
        · exact List.mem_append.mpr (.inl (g1 g (List.mem_of_mem_take h)))
        · rcases List.mem_cons.mp h with rfl | h
          · exact List.mem_append.mpr (.inr List.mem_cons_self)
          · exact List.mem_append.mpr (.inl (g1 g (List.mem_of_mem_drop h)))
      · rw [et] at h
        rcases List.mem_append.mp h with h | h
        · have z := g2 g h
          rw [← List.take_append_drop c gs] at z
          rcases List.mem_append.mp z with z | z
          · exact List.mem_append.mpr (.inl z)
          · exact List.mem_append.mpr (.inr (List.mem_cons_of_mem _ z))
        · rw [List.mem_singleton.mp h]
          exact List.mem_append.mpr (.inr List.mem_cons_self)
      · exact srt.ins c (fun g h => below_iff.mp (t1 g h)) hgt so.fr.pos fun g h => (gsm g h).fr.pos
      · rw [List.length_append, List.length_cons, List.length_take, List.length_drop]
        omega
    have put : (∀ g ∈ gs.drop c, ¬ LeF g o) → ∃ (l : Addr) (zs : List V) (j : Int) (y : V), V.ref p = .ref l ∧ [V.int (c : Int), x] = [.int j, y] ∧ H3 l = some (.lst zs) ∧ zs.length < sizeLine ∧ 0 ≤ j ∧ j < 2 ^ 63 ∧
        ∃ o2 o3 ys gs, [some (.ref a), some (.ref p), some x, some (.int (c : Int)), none] = [some (.ref a), some (.ref p), o2, o3, none] ∧ Same H (upd H3 l (.lst (zs.take j.toNat ++ [y] ++ zs.drop j.toNat))) ∧ (upd H3 l (.lst (zs.take j.toNat ++ [y] ++ zs.drop j.toNat))) p = some (.lst ys) ∧ RowF K (upd H3 l (.lst (zs.take j.toNat ++ [y] ++ zs.drop j.toNat))) ys gs ∧ (∀ g ∈ gs, g ∈ fs.take (i + 1)) ∧ (∀ g ∈ fs.take (i + 1), g ∈ gs) ∧ Srt gs ∧ gs.length ≤ i + 1 := fun hgt => by
      obtain ⟨ys', gs', e, z1, z2, z3, z4, z5, z6⟩ := ins hgt
      refine ⟨p, ys, c, x, rfl, rfl, hp3, small1000 (by rw [hrow.len]; omega), by omega, by omega, _, _, ys', gs', rfl, ?_⟩
      rw [Int.toNat_natCast, e]
      exact ⟨z1, upd_same, z2, z3, z4, z5, z6⟩
    refine ⟨_, rfl, _, rfl, _, ys.length, rfl, .inl ⟨_, .inl (.inl hp3), rfl⟩, rfl, _, rfl, iteEq (fun e => ?_) fun e => ?_⟩
    · -- at the end
      refine iteT ⟨_, rfl, .inl ⟨rfl, _, .inl (.inl hp3)⟩, _, rfl, _, rfl, ?_⟩
      refine put fun g h => ?_
      have : c = gs.length := by rw [hrow.len] at e; omega
      rw [this, List.drop_length] at h
      cases h
    · have hc : c < gs.length := by rw [hrow.len] at e; omega
      obtain ⟨v, ev, cv⟩ := hrow3.getD (List.getElem?_eq_getElem hc)
      have hgc : gs[c] ∈ gs.drop c := by
        rw [List.drop_eq_getElem_cons hc]
        exact List.mem_cons_self
      refine ⟨_, rfl, _, rfl, p, ys, c, v, rfl, rfl, .inl (.inl hp3), atI_nat ev, _, rfl, (fun _ => False), _, _, cv.dt, co3.dt, shaped_cpl _ _, shaped_cpl _ _, ?_⟩
      rw [eqv_cpl]
      refine ⟨_, rfl, iteN (fun z => ?_) fun z => ?_⟩
      · have ne : gs[c] ≠ o := fun q => by
          rw [decide_eq_false_iff_not] at z
          exact z (by rw [q])
        refine ⟨_, rfl, .inl ⟨rfl, _, .inl (.inl hp3)⟩, _, rfl, _, rfl, ?_⟩
        refine put fun g h hle => ?_
        have pc := (gsm _ (List.getElem_mem hc)).fr
        have nb := t2 _ hgc
        have ole : LeF o gs[c] := Classical.not_not.mp fun q => by
          rw [below_iff.mpr q] at nb
          cases nb
        rw [List.drop_eq_getElem_cons hc] at h
        rcases List.mem_cons.mp h with rfl | h
        · exact ne (leF_anti pc so.fr hle ole)
        · have sr := srt
          unfold Srt at sr
          rw [← List.take_append_drop c gs, List.drop_eq_getElem_cons hc] at sr
          have lt := (List.pairwise_cons.mp (List.pairwise_append.mp sr).2.1).1 g h
          have pg := (gsm g (List.mem_of_mem_drop h)).fr
          exact lt (leF_trans pg.pos so.fr.pos pc.pos hle ole)
      · have q : gs[c] = o := by
          have := of_decide_eq_true z
          exact Prod.ext (congrArg Prod.fst this) (congrArg Prod.snd this)
        have oin : o ∈ gs := by
          rw [← q]
          exact List.getElem_mem hc
        refine ⟨_, _, ys, gs, rfl, s3, hp3, hrow3, fun g h => ?_, fun g h => ?_, srt, by omega⟩
        · rw [et]
          exact List.mem_append.mpr (.inl (g1 g h))
        · rw [et] at h
          rcases List.mem_append.mp h with h | h
          · exact g2 g h
          · rw [List.mem_singleton.mp h]
            exact oin
  · obtain ⟨o2, o3, ys, gs, rfl, s1, hp, hrow, g1, g2, srt, gl⟩ := h
    rw [hr0.len] at gl
    rw [hr0.len, List.take_length] at g1 g2
    exact ⟨_, rfl, k p _ ys gs s1 hp hrow g1 g2 srt gl⟩
/-- the same of rational numbers -/
def spAscQ (K : PySem.W.Frag) : Sp := fun vs H Q _ => ∃ (a : Addr) (xs : List V) (qs : List Rat), vs = [.ref a] ∧ SqL K H a xs ∧ DtA K mT H xs (qs.map frD) ∧ (∀ q ∈ qs, Bq q) ∧ qs.length ≤ 200 ∧
  ∀ p H' ys (ls : List Rat), Same H H' → H' p = some (.lst ys) → DtA K mT H' ys (ls.map frD) → ls.Pairwise (· < ·) → (∀ q, q ∈ ls ↔ q ∈ qs) → ls.length ≤ qs.length → Q (.ref p) H'
theorem rowF_of {K : PySem.W.Frag} {H : Hp} : ∀ {xs : List V} {qs : List Rat}, DtA K mT H xs (qs.map frD) → RowF K H xs (qs.map rF)
  | [], [], _ => trivial
  | x :: xs, q :: qs, h => by
    cases h with
    | cons h t => exact ⟨dt_ql h, rowF_of t⟩
  | [], _ :: _, h => by cases h
  | _ :: _, [], h => by cases h
theorem asc_q {K : PySem.W.Frag} : ∀ vs H Q E, spAscQ K vs H Q E → spAscL K vs H Q E := fun vs H Q E z => by
  obtain ⟨a, xs, qs, rfl, hS, hA, hb, hl, k⟩ := z
  refine ⟨a, xs, qs.map rF, rfl, hS, rowF_of hA, fun f hf => ?_, by rw [List.length_map]; exact hl, fun p H' ys gs s e r g1 g2 srt gl => ?_⟩
  · obtain ⟨q, hq, rfl⟩ := List.mem_map.mp hf
    obtain ⟨b1, b2⟩ := bg_of (hb q hq)
    exact ⟨rF_fr q, b1, b2⟩
  · have hg : ∀ g ∈ gs, ∃ q ∈ qs, g = rF q := fun g h => by
      obtain ⟨q, hq, e⟩ := List.mem_map.mp (g1 g h)
      exact ⟨q, hq, e.symm⟩
    have hv : gs = (gs.map vf).map rF := by
      rw [List.map_map]
      refine (List.map_id gs).symm.trans (List.map_congr_left fun g h => ?_)
      obtain ⟨q, _, rfl⟩ := hg g h
      show rF q = rF (vf (rF q))
      rw [vf_rF]
    refine k p H' ys (gs.map vf) s e ?_ ?_ (fun q => ⟨fun h => ?_, fun h => ?_⟩) (by rw [List.length_map] at gl ⊢; exact gl)
    · have := r.dt (mu := mT)
      rw [hv, List.map_map] at this
      exact this
    · rw [List.pairwise_map]
      refine List.Pairwise.imp_of_mem (fun {f g} hf hg' h => ?_) srt
      obtain ⟨p, _, rfl⟩ := hg f hf
      obtain ⟨q, _, rfl⟩ := hg g hg'
      rw [vf_rF, vf_rF]
      refine rF_lt.mp ?_
      unfold LeF at h
      omega
    · obtain ⟨g, hg', rfl⟩ := List.mem_map.mp h
      obtain ⟨q, hq, rfl⟩ := hg g hg'
      rw [vf_rF]
      exact hq
    · exact List.mem_map.mpr ⟨rF q, g2 _ (List.mem_map.mpr ⟨q, h, rfl⟩), vf_rF q⟩
end
end K33
namespace K33
open PySem PySem.Spec PyProof.Rows L2 Sw MC LamX
/-! the law's curves -/
def spCurve (K : PySem.W.Frag) : Sp := fun vs H Q _ => ∃ (a : Addr) (xs : List V) (ps : List Pt) (y : V) (sl : Rat), vs = [.ref a, y] ∧ H a = some (.lst xs) ∧ DtA K mT H xs (ps.map ptD) ∧ Ql K H y sl ∧ (∀ p ∈ ps, PBk 400 p) ∧ MC.Asc ps ∧ ps[0]? = some (0, 0) ∧ ps.length ≤ 100 ∧
  ∀ v H' (qs : List Pt), Same H H' → Dt K mT H' v (cvD ⟨qs, sl⟩) → qs.Sublist ps → qs[0]? = some (0, 0) → Q v H'
section
variable {P : Program} {w : World} {K : PySem.W.Frag} {mg : Str → Option Value} {base : Heap}
abbrev s_law_curve : Stmt := topS 56
theorem sc__law_curve : FnScope ["points", "slope", "kept", "at", "low", "here", "came", "goes", "high"] ["points", "slope"] (defScope s_law_curve) := ⟨rfl, rfl, rfl, by decide +kernel, rfl, by decide +kernel, by decide +kernel⟩
theorem ok__law_curve {f : Addr} {fd : FuncData} (F : Fun K "_law_curve" "_law_curve" s_law_curve f fd) (B : Bt mg) (c__law_lessened : CalG P w K mg base 3 "_law_lessened" (spQ2 K (· - ·))) (c__law_divided : CalG P w K mg base 3 "_law_divided" (spQd K)) : FnG P w K mg base 4 f fd ["points", "slope"] (spCurve K) := by
  refine Fun.okG F sc__law_curve (fun vs H Q E h => ?_) (fun cdv A outer s H vs Q E hg hr h => ?_)
  · obtain ⟨_, _, _, _, _, rfl, _⟩ := h
    rfl
  obtain ⟨a, xs, ps, y, sl, rfl, hS, hA, hy, hb, asc, h0, hl, k⟩ := h
  have hu := Room.u64 hr
  refine ⟨_, (pss_cons (ps_set (i := 2) sc__law_curve.nd rfl (Or.inl rfl) (pe_slice sl_list (pv 0) po_none (po_some pe_int)))
    (pss_cons (ps_for PassesOwn.never rfl (pi_range2 (by rfl) B.range (pa_cons pe_int (pa_cons (pe_callB call_lenA (by rfl) B.len boot_len (pa_cons (pv 0) pa_nil)) pa_nil))) (pg_name (i := 3) sc__law_curve.nd rfl (Or.inl rfl))
      (pss_cons (ps_par (i := 4) (j := 5) rfl sc__law_curve.nd rfl rfl (by decide) rfl rfl (pa_cons (pe_ix ix_list (pv 2) (pe_un un_neg pe_int) (fun _ _ => rfl)) (pa_cons (pe_ix ix_list (pv 0) (pv 3) (fun _ _ => rfl)) pa_nil)) (by rfl))
      (pss_cons (ps_set (i := 6) sc__law_curve.nd rfl (Or.inl rfl) (pc c__law_divided hg hr (by decide) (by rfl) (pa_cons (pc c__law_lessened hg hr (by decide) (by rfl) (pa_cons (pe_ix ix_tup (pv 5) pe_int (fun _ _ => rfl)) (pa_cons (pe_ix ix_tup (pv 4) pe_int (fun _ _ => rfl)) pa_nil))) (pa_cons (pc c__law_lessened hg hr (by decide) (by rfl) (pa_cons (pe_ix ix_tup (pv 5) pe_int (fun _ _ => rfl)) (pa_cons (pe_ix ix_tup (pv 4) pe_int (fun _ _ => rfl)) pa_nil))) pa_nil))))
      (pss_cons (ps_set (i := 7) sc__law_curve.nd rfl (Or.inl rfl) (pv 1))
      (C8.pss_cut (ps_if (pt_cmpR op_lt (pe_op op_add (pv 3) pe_int) (pe_callB call_lenA (by rfl) B.len boot_len (pa_cons (pv 0) pa_nil)) (nomark _))
        (pss_cons (ps_set (i := 8) sc__law_curve.nd rfl (Or.inl rfl) (pe_ix ix_list (pv 0) (pe_op op_add (pv 3) pe_int) (fun _ _ => rfl)))
        (pss_one (ps_set (i := 7) sc__law_curve.nd rfl (Or.inl rfl) (pc c__law_divided hg hr (by decide) (by rfl) (pa_cons (pc c__law_lessened hg hr (by decide) (by rfl) (pa_cons (pe_ix ix_tup (pv 8) pe_int (fun _ _ => rfl)) (pa_cons (pe_ix ix_tup (pv 5) pe_int (fun _ _ => rfl)) pa_nil))) (pa_cons (pc c__law_lessened hg hr (by decide) (by rfl) (pa_cons (pe_ix ix_tup (pv 8) pe_int (fun _ _ => rfl)) (pa_cons (pe_ix ix_tup (pv 5) pe_int (fun _ _ => rfl)) pa_nil))) pa_nil))))))
        pss_nil)
      (pss_one (ps_if (pt_cmpR (op_neW hu) (pv 6) (pv 7) (nomark _))
        (pss_one (ps_set (i := 2) sc__law_curve.nd rfl (Or.inl rfl) (pe_op op_cat (pv 2) (pe_lst (pa_cons (pv 5) pa_nil)))))
        pss_nil)))))))
    (pss_one (ps_ret (pe_tup (pa_cons (pe_callTy call_tuple_of (by rfl) B.tuple bb_tuple (pa_cons (pv 2) pa_nil)) (pa_cons (pv 1) pa_nil))))))), ?_⟩
  have hlen := hA.length
  rw [List.length_map] at hlen
  obtain ⟨x0, hx0, d0⟩ := pts_get hA h0
  have pos : 0 < ps.length := (List.getElem?_eq_some_iff.mp h0).1
  have cut : cutV xs none (some 1) = [x0] := by
    cases xs with
    | nil => simp at hx0
    | cons x xs =>
      cases hx0
      simp [cutV, HT.sIx]
  have t1 : ps.take 1 = [(0, 0)] := by
    rw [get_take h0]
    rfl
  refine ⟨_, rfl, _, rfl, a, xs, rfl, .inl (.inl hS), fun t nt => ?_⟩
  rw [cut]
  have s0 := same_upd (o := .lst [x0]) nt
  refine ⟨_, rfl, _, ps.length, rfl, .inl ⟨xs, .inl (.inl (s0 _ _ hS)), hlen.symm⟩, _, _, rfl, ⟨by omega, by omega, by omega, by omega⟩, for_it (walk_range (lo := 1) (n := ((ps.length : Int) - 1).toNat)) (fun i σ H' => ∃ o3 o4 o5 o6 o7 o8 t us v ks kk, σ = [some (.ref a), some y, some (.ref t), o3, o4, o5, o6, o7, o8] ∧ Same H H' ∧
    H' t = some (.lst (us ++ [v])) ∧ DtA K mT H' (us ++ [v]) ((ks ++ [kk]).map ptD) ∧ (ks ++ [kk]).Sublist (ps.take (i + 1)) ∧ (ks ++ [kk])[0]? = some (0, 0))
    ⟨_, _, _, _, _, _, t, [], x0, [], (0, 0), rfl, s0, upd_same, .cons (dt_same d0 s0) .nil, by rw [t1]; exact List.Sublist.refl _, rfl⟩ (fun i σ H' _ h => trivial) (fun i x σ H1 H2 hi h y' => ?_) fun σ H1 h => ?_⟩
  · obtain ⟨o3, o4, o5, o6, o7, o8, t, us, v, ks, kk, rfl, s1, e1, a1, sub, z1⟩ := h
    obtain ⟨rfl, hx⟩ := y'
    have hx : x = .int ((i + 1 : Nat) : Int) := hx.trans (congrArg V.int (by omega))
    subst hx
    obtain ⟨p, hp⟩ : ∃ p, ps[i + 1]? = some p := ⟨_, List.getElem?_eq_getElem (by omega)⟩
    have mk : kk ∈ ps.take (i + 1) := sub.subset (List.mem_append_right _ (List.mem_singleton.mpr rfl))
    have lt : kk.1 < p.1 := by
      obtain ⟨j, hj⟩ := List.mem_iff_getElem?.mp mk
      rw [List.getElem?_take] at hj
      split at hj
      · exact (asc_lt asc hj hp (by omega)).1
      · cases hj
    have bk := hb kk (List.mem_of_mem_take mk)
    have bp := hb p (List.mem_of_getElem? hp)
    have al := a1.length
    simp only [List.length_map, List.length_append, List.length_singleton] at al
    have kl : ks.length ≤ 100 := by
      have := sub.length_le
      simp only [List.length_append, List.length_singleton, List.length_take] at this
      omega
    obtain ⟨v', w', dk⟩ := a1.getD (i := ks.length) (d := ptD kk) (by simp)
    have ev : v' = v := by
      have : (us ++ [v])[us.length]? = some v := by simp
      rw [show ks.length = us.length by omega, this] at w'
      exact (Option.some.inj w').symm
    subst ev
    obtain ⟨tk, k1, k2, rfl, hk, gk1, gk2⟩ := pt_at dk
    obtain ⟨vp, wp, dp⟩ := pts_get hA hp
    obtain ⟨tp, p1, p2, rfl, hp', gp1, gp2⟩ := pt_at (dt_same dp s1)
    refine ⟨_, rfl, 1, rfl, t, _, -1, _, rfl, rfl, .inl (.inl e1), atI_last us _, _, rfl, _, rfl, a, xs, ((i + 1 : Nat) : Int), _, rfl, rfl, .inl (.inl (s1 _ _ hS)), atI_nat (j := i + 1) wp, _, _, rfl, ?_⟩
    refine ⟨_, rfl, tp, _, 1, p2, rfl, rfl, hp', atI_nat (j := 1) rfl, _, rfl, tk, _, 1, k2, rfl, rfl, hk, atI_nat (j := 1) rfl, p2, k2, p.2, kk.2, rfl, gp2, gk2, bp.2.bq (by decide) (by decide), bk.2.bq (by decide) (by decide), fun v3 H3 s3 h3 => ?_⟩
    refine ⟨_, rfl, tp, _, 0, p1, rfl, rfl, s3.seqT hp', atI_nat (j := 0) rfl, _, rfl, tk, _, 0, k1, rfl, rfl, s3.seqT hk, atI_nat (j := 0) rfl, p1, k1, p.1, kk.1, rfl, gp1.same s3, gk1.same s3, bp.1.bq (by decide) (by decide), bk.1.bq (by decide) (by decide), fun v4 H4 s4 h4 => ?_⟩
    refine ⟨v3, v4, _, _, rfl, h3.same s4, h4, (bp.2.sub bk.2 (c := 801) (by decide) (by decide)).bq (by decide) (by decide), (bp.1.sub bk.1 (c := 801) (by decide) (by decide)).bq (by decide) (by decide), by grind, fun v5 H5 s5 h5 => ?_⟩
    have s25 := (s3.trans s4).trans s5
    have s15 := s1.trans s25
    refine ⟨_, rfl, ⟨fun σ H' => ∃ o8 vg qg, σ = [some (.ref a), some y, some (.ref t), some (.int ((i + 1 : Nat) : Int)), some (.ref tk), some (.ref tp), some v5, some vg, o8] ∧ Same H5 H' ∧ Ql K H' vg qg, ?_, ?_⟩⟩
    · refine ⟨_, rfl, _, _, rfl, rfl, _, rfl, _, ps.length, rfl, .inl ⟨xs, .inl (.inl (s15 _ _ hS)), hlen.symm⟩, _, _, rfl, rfl, _, rfl, iteP (fun h => ?_) fun h => ?_⟩
      · obtain ⟨r, hr'⟩ : ∃ r, ps[i + 2]? = some r := ⟨_, List.getElem?_eq_getElem (by omega)⟩
        have lt2 := (asc_lt asc hp hr' (by omega)).1
        have br := hb r (List.mem_of_getElem? hr')
        obtain ⟨vr, wr, dr⟩ := pts_get hA hr'
        obtain ⟨tr, r1, r2, rfl, hr2, gr1, gr2⟩ := pt_at (dt_same dr s15)
        refine ⟨_, rfl, _, rfl, _, _, rfl, rfl, a, xs, ((i + 2 : Nat) : Int), _, rfl, by congr 1, .inl (.inl (s15 _ _ hS)), atI_nat (j := i + 2) wr, ?_⟩
        refine ⟨_, rfl, tr, _, 1, r2, rfl, rfl, hr2, atI_nat (j := 1) rfl, _, rfl, tp, _, 1, p2, rfl, rfl, s25.seqT hp', atI_nat (j := 1) rfl, r2, p2, r.2, p.2, rfl, gr2, gp2.same s25, br.2.bq (by decide) (by decide), bp.2.bq (by decide) (by decide), fun v6 H6 s6 h6 => ?_⟩
        refine ⟨_, rfl, tr, _, 0, r1, rfl, rfl, s6.seqT hr2, atI_nat (j := 0) rfl, _, rfl, tp, _, 0, p1, rfl, rfl, s6.seqT (s25.seqT hp'), atI_nat (j := 0) rfl, r1, p1, r.1, p.1, rfl, gr1.same s6, (gp1.same s25).same s6, br.1.bq (by decide) (by decide), bp.1.bq (by decide) (by decide), fun v7 H7 s7 h7 => ?_⟩
        exact ⟨v6, v7, _, _, rfl, h6.same s7, h7, (br.2.sub bp.2 (c := 801) (by decide) (by decide)).bq (by decide) (by decide), (br.1.sub bp.1 (c := 801) (by decide) (by decide)).bq (by decide) (by decide), by grind, fun v8 H8 s8 h8 => ⟨_, v8, _, rfl, (s6.trans s7).trans s8, h8⟩⟩
      · exact ⟨_, y, sl, rfl, .refl _, hy.same s15⟩
    · rintro σ H6 ⟨o8, vg, qg, rfl, s6, hg6⟩
      have s26 := s25.trans s6
      refine ⟨_, rfl, _, rfl, ⟨mT, frD _, frD _, (h5.same s6).dt, hg6.dt, fr_shaped _, fr_shaped _, _, rfl, ?_⟩⟩
      rw [eqv_fr]
      have s16 := s1.trans s26
      have e6 := s26 _ _ e1
      by_cases e3 : (p.2 - kk.2) / (p.1 - kk.1) = qg
      · rw [decide_eq_true e3]
        refine iteF ⟨_, _, _, _, _, _, t, us, _, ks, kk, rfl, s16, e6, a1.fut (.of_same s26), sub.trans ?_, z1⟩
        rw [get_take hp]
        exact List.sublist_append_left _ _
      · rw [decide_eq_false e3]
        refine iteT ⟨_, rfl, _, rfl, sz8 (by simp), fun L nL => ?_⟩
        have sL := same_upd (o := .lst [V.ref tp]) nL
        refine ⟨t, L, _, _, rfl, rfl, sL _ _ e6, upd_same, by have := sizeLine_eq; simp only [List.length_append, List.length_cons, List.length_nil]; omega, fun L2 n2 => ?_⟩
        have sL2 := same_upd (o := .lst (us ++ [V.ref tk] ++ [V.ref tp])) n2
        have sLL := (s26.trans sL).trans sL2
        refine ⟨_, _, _, _, _, _, L2, us ++ [V.ref tk], .ref tp, ks ++ [kk], p, rfl, s1.trans sLL, upd_same, ?_, ?_, ?_⟩
        · rw [List.map_append]
          exact (a1.fut (.of_same sLL)).append (.cons (dt_same dp (s1.trans sLL)) .nil)
        · rw [get_take hp]
          exact sub.append (List.Sublist.refl _)
        · rw [List.getElem?_append_left (by simp)]
          exact z1
  · obtain ⟨o3, o4, o5, o6, o7, o8, t, us, v, ks, kk, rfl, s1, e1, a1, sub, z1⟩ := h
    refine ⟨_, rfl, t, _, rfl, .inl ⟨.inl (.inl e1), fun T nT => ⟨_, rfl, sz8 (by simp), fun R nR => ?_⟩⟩⟩
    have sT := same_upd (o := .tup (us ++ [v])) nT
    have uT := upd_same (H := H1) (a := T) (o := .tup (us ++ [v]))
    have sR := same_upd (o := .tup [V.ref T, y]) nR
    have sTR := sT.trans sR
    exact k _ _ (ks ++ [kk]) (s1.trans sTR) (.tup (.inl upd_same) (.cons (.tup (.inl (sR _ _ uT)) (a1.fut (.of_same sTR))) (.cons (Ql.dt (hy.same (s1.trans sTR))) .nil))) (sub.trans (List.take_sublist _ _)) z1
end
end K33
namespace K33
open PySem PySem.Spec PyProof.Rows L2 Sw MC LamX
section
variable {P : Program} {w : World} {K : PySem.W.Frag} {mg : Str → Option Value} {base : Heap}
abbrev s_law_paid_at : Stmt := topS 57
theorem sc__law_paid_at : FnScope ["one", "level", "corners", "slope", "at", "corner", "low", "pay", "high", "more"] ["one", "level"] (defScope s_law_paid_at) := ⟨rfl, rfl, rfl, by decide +kernel, rfl, by decide +kernel, by decide +kernel⟩
theorem ok__law_paid_at {f : Addr} {fd : FuncData} (F : Fun K "_law_paid_at" "_law_paid_at" s_law_paid_at f fd) (B : Bt mg) (c__law_is_below : CalG P w K mg base 1 "_law_is_below" (spQb K)) (c__law_lessened : CalG P w K mg base 3 "_law_lessened" (spQ2 K (· - ·))) (c__law_divided : CalG P w K mg base 3 "_law_divided" (spQd K))
    (c__law_added : CalG P w K mg base 3 "_law_added" (spQ2 K (· + ·))) (c__law_multiplied : CalG P w K mg base 3 "_law_multiplied" (spQ2 K (· * ·))) : FnG P w K mg base 4 f fd ["one", "level"] (spPay K) := by
  refine Fun.okG F sc__law_paid_at (fun vs H Q E h => ?_) (fun cdv A outer s H vs Q E hg hr h => ?_)
  · obtain ⟨_, _, _, _, rfl, _⟩ := h
    rfl
  obtain ⟨v, y, c, x, rfl, hv, hy, ok, cb, bx, x0, hl, k⟩ := h
  have hu := Room.u64 hr
  refine ⟨_, (pss_cons (ps_asg (pv 0) (pg_tup (n := 2) rfl (pgs_cons (pg_name (i := 2) sc__law_paid_at.nd rfl (Or.inl rfl)) (pgs_cons (pg_name (i := 3) sc__law_paid_at.nd rfl (Or.inl rfl)) pgs_nil))))
    (pss_cons (ps_set (i := 4) sc__law_paid_at.nd rfl (Or.inl rfl) (pe_op op_sub (pe_callB call_lenA (by rfl) B.len boot_len (pa_cons (pe_lc (own := [("corner", 5)]) rfl sc__law_paid_at.nd (pi_tup (pv 2)) (blkOk_by (own := [("corner", 5)]) (N := ["one", "level", "corners", "slope", "at", "corner", "low", "pay", "high", "more"]) (sc := (defScope s_law_paid_at)) (by decide +kernel)) (fun _ _ _ _ _ => (pg_name (i := 5) sc__law_paid_at.nd rfl (Or.inl rfl))) (fun _ _ _ _ _ => (pts_one (pt_not (pt_val (pc c__law_is_below hg hr (by decide) (by rfl) (pa_cons (pv 1) (pa_cons (pe_ix (ix_tupK (K := K) rfl) (pv 5) pe_int (fun _ _ => rfl)) pa_nil))))))) (fun _ _ _ _ _ => pe_int)) pa_nil)) pe_int))
    (pss_cons (ps_asg (pe_ix ix_tup (pv 2) (pv 4) (fun _ _ => rfl)) (pg_tup (n := 2) rfl (pgs_cons (pg_name (i := 6) sc__law_paid_at.nd rfl (Or.inl rfl)) (pgs_cons (pg_name (i := 7) sc__law_paid_at.nd rfl (Or.inl rfl)) pgs_nil))))
    (C8.pss_cut (ps_if (pt_cmpR op_lt (pe_op op_add (pv 4) pe_int) (pe_callB call_lenA (by rfl) B.len boot_len (pa_cons (pv 2) pa_nil)) (nomark _))
      (pss_cons (ps_asg (pe_ix ix_tup (pv 2) (pe_op op_add (pv 4) pe_int) (fun _ _ => rfl)) (pg_tup (n := 2) rfl (pgs_cons (pg_name (i := 8) sc__law_paid_at.nd rfl (Or.inl rfl)) (pgs_cons (pg_name (i := 9) sc__law_paid_at.nd rfl (Or.inl rfl)) pgs_nil))))
      (pss_one (ps_set (i := 3) sc__law_paid_at.nd rfl (Or.inl rfl) (pc c__law_divided hg hr (by decide) (by rfl) (pa_cons (pc c__law_lessened hg hr (by decide) (by rfl) (pa_cons (pv 9) (pa_cons (pv 7) pa_nil))) (pa_cons (pc c__law_lessened hg hr (by decide) (by rfl) (pa_cons (pv 8) (pa_cons (pv 6) pa_nil))) pa_nil))))))
      pss_nil)
    (pss_one (ps_ret (pc c__law_added hg hr (by decide) (by rfl) (pa_cons (pv 7) (pa_cons (pc c__law_multiplied hg hr (by decide) (by rfl) (pa_cons (pv 3) (pa_cons (pc c__law_lessened hg hr (by decide) (by rfl) (pa_cons (pv 1) (pa_cons (pv 6) pa_nil))) pa_nil))) pa_nil))))))))), ?_⟩
  obtain ⟨a, b, xs, u, rfl, ha, hb, hA, hsl⟩ := cv_at hv
  have hlen := hA.length
  rw [List.length_map] at hlen
  refine ⟨_, rfl, a, _, rfl, ha, rfl, _, _, rfl, _, _, rfl, rfl, ?_⟩
  refine ⟨_, rfl, b, rfl, ⟨xs, hb⟩, fun D nD => ?_⟩
  refine lc_it (walk_tup (K := K) (xs := xs) (a := b)) (fun i H' => Same H H' ∧ H' D = some (.lst (List.replicate (cnt x (c.pts.take i)) (.int 1)))) ⟨same_upd nD, upd_same⟩ (fun i H' _ h => h.1.seqT hb) ?_ ?_
  · rintro i x1 H1 H2 hi ⟨s1, e1⟩ ⟨rfl, gx⟩
    obtain ⟨p, hp⟩ : ∃ p, c.pts[i]? = some p := ⟨_, List.getElem?_eq_getElem (by omega)⟩
    obtain ⟨v, w1, dv⟩ := pts_get hA hp
    rw [gx] at w1
    cases w1
    obtain ⟨tp, p1, p2, rfl, hp', gp1, gp2⟩ := pt_at (dt_same dv s1)
    refine ⟨rfl, _, rfl, _, rfl, tp, _, 0, p1, rfl, rfl, hp', atI_nat (j := 0) rfl, y, p1, x, p.1, rfl, hy.same s1, gp1, bx.bq (by decide) (by decide), (cb.at hp).1.bq (by decide) (by decide), fun H3 s3 => ?_⟩
    have e3 := s3 _ _ e1
    have ct := cnt_take (x := x) hp
    have cl := cnt_le x (c.pts.take i)
    have tl := List.length_take_le i c.pts
    refine ⟨_, rfl, ?_⟩
    by_cases q : x < p.1
    · rw [decide_eq_true q]
      rw [if_pos q] at ct
      refine iteF ⟨s1.trans s3, ?_⟩
      rw [ct]
      exact e3
    · rw [decide_eq_false q]
      rw [if_neg q] at ct
      refine iteT ⟨_, e3, by rw [List.length_replicate]; exact Nat.lt_of_le_of_lt (Nat.le_trans cl (by rw [List.length_take]; omega)) (small1000 (Nat.le_refl _)), same_at (s1.trans s3) nD, ?_⟩
      rw [ct, List.replicate_succ']
      exact upd_same
  · rintro H1 ⟨s1, e1⟩
    rw [List.take_of_length_le (by omega)] at e1
    obtain ⟨rst, er⟩ := ok.hd
    have hp0 : c.pts[0]? = some (0, 0) := by rw [er]; rfl
    have c0 : 0 < cnt x c.pts := by
      refine Nat.pos_of_ne_zero fun z => ?_
      have := (cnt_asc (x := x) ok.asc 0 _ hp0).2 (by omega)
      grind
    have cl := cnt_le x c.pts
    obtain ⟨i, hi⟩ : ∃ i, cnt x c.pts = i + 1 := ⟨cnt x c.pts - 1, by omega⟩
    rw [hi] at e1
    obtain ⟨p, hp⟩ : ∃ p, c.pts[i]? = some p := ⟨_, List.getElem?_eq_getElem (by omega)⟩
    have h1 := (cnt_asc (x := x) ok.asc i p hp).1 (by omega)
    have h2 : ∀ q, c.pts[i + 1]? = some q → x < q.1 := fun q hq => (cnt_asc (x := x) ok.asc (i + 1) q hq).2 (by omega)
    have pay := ok.at hp h1 h2
    obtain ⟨vp, wp, dp⟩ := pts_get hA hp
    obtain ⟨tp, p1, p2, rfl, hp', gp1, gp2⟩ := pt_at (dt_same dp s1)
    have bi := cb.at hp
    have br := cb.rise i
    refine ⟨_, i + 1, rfl, .inl ⟨_, .inl (.inl e1), by rw [List.length_replicate]⟩, _, _, rfl, rfl, ?_⟩
    have ei : (fun i j : Int => V.int (i - j)) ((i + 1 : Nat) : Int) 1 = .int (i : Int) := congrArg V.int (by omega)
    rw [ei]
    refine ⟨_, rfl, _, rfl, b, xs, (i : Int), _, rfl, rfl, s1.seqT hb, atI_nat (j := i) wp, tp, _, rfl, hp', rfl, _, _, rfl, _, _, rfl, rfl, ?_⟩
    refine ⟨fun σ H' => ∃ vs o8 o9, σ = [some (.ref a), some y, some (.ref b), some vs, some (.int (i : Int)), none, some p1, some p2, o8, o9] ∧ Same H1 H' ∧ Ql K H' vs (rise c.slope c.pts i), ?_, ?_⟩
    · refine ⟨_, rfl, _, _, rfl, rfl, _, rfl, _, c.pts.length, rfl, .inr ⟨xs, s1.seqT hb, hlen.symm⟩, _, _, rfl, rfl, _, rfl, iteP (fun h => ?_) fun h => ?_⟩
      · obtain ⟨r, hr'⟩ : ∃ r, c.pts[i + 1]? = some r := ⟨_, List.getElem?_eq_getElem (by omega)⟩
        have lt2 := (asc_lt ok.asc hp hr' (by omega)).1
        have br := cb.at hr'
        obtain ⟨vr, wr, dr⟩ := pts_get hA hr'
        obtain ⟨tr, r1, r2, rfl, hr2, gr1, gr2⟩ := pt_at (dt_same dr s1)
        refine ⟨_, rfl, _, rfl, _, _, rfl, rfl, b, xs, ((i + 1 : Nat) : Int), _, rfl, by congr 1, s1.seqT hb, atI_nat (j := i + 1) wr, tr, _, rfl, hr2, rfl, _, _, rfl, _, _, rfl, rfl, ?_⟩
        refine ⟨_, rfl, _, rfl, r2, p2, r.2, p.2, rfl, gr2, gp2, br.2.bq (by decide) (by decide), bi.2.bq (by decide) (by decide), fun v6 H6 s6 h6 => ?_⟩
        refine ⟨_, rfl, _, rfl, r1, p1, r.1, p.1, rfl, gr1.same s6, gp1.same s6, br.1.bq (by decide) (by decide), bi.1.bq (by decide) (by decide), fun v7 H7 s7 h7 => ?_⟩
        refine ⟨v6, v7, _, _, rfl, h6.same s7, h7, (br.2.sub bi.2 (c := 801) (by decide) (by decide)).bq (by decide) (by decide), (br.1.sub bi.1 (c := 801) (by decide) (by decide)).bq (by decide) (by decide), by grind, fun v8 H8 s8 h8 => ⟨v8, _, _, rfl, (s6.trans s7).trans s8, ?_⟩⟩
        rw [rise_in hp hr']
        exact h8
      · refine ⟨u, _, _, rfl, .refl _, ?_⟩
        rw [rise_last (List.getElem?_eq_none (by omega))]
        exact hsl.same s1
    · rintro σ H2 ⟨vs, o8, o9, rfl, s2, h2'⟩
      have s12 := s1.trans s2
      have bd := bx.sub bi.1 (c := 2101) (by decide) (by decide)
      have bm := br.mul bd
      refine ⟨_, rfl, _, rfl, _, rfl, _, rfl, y, p1, x, p.1, rfl, hy.same s12, gp1.same s2, bx.bq (by decide) (by decide), bi.1.bq (by decide) (by decide), fun v4 H4 s4 h4 => ?_⟩
      refine ⟨vs, v4, _, _, rfl, h2'.same s4, h4, br.bq (by decide) (by decide), bd.bq (by decide) (by decide), fun v5 H5 s5 h5 => ?_⟩
      refine ⟨p2, v5, p.2, _, rfl, ((gp2.same s2).same s4).same s5, h5, bi.2.bq (by decide) (by decide), bm.bq (by decide) (by decide), fun v6 H6 s6 h6 => k v6 H6 (((s12.trans s4).trans s5).trans s6) ?_⟩
      rw [pay]
      exact h6
end
end K33
namespace K33
open PySem PySem.Spec PyProof.Rows L2 Sw MC LamX
/-! the law's least level -/
def spTotQ (K : PySem.W.Frag) : Sp := fun vs H Q _ => ∃ (a : Addr) (xs : List V) (qs : List Rat), vs = [.ref a] ∧ SqL K H a xs ∧ DtA K mT H xs (qs.map frD) ∧ (∀ q ∈ qs, Bq q) ∧ (∀ i, i < qs.length → Bq (qs.take i).sum) ∧ ∀ v H', Same H H' → Ql K H' v qs.sum → Q v H'
theorem sum_take {qs : List Rat} {i : Nat} {q : Rat} (h : qs[i]? = some q) : (qs.take (i + 1)).sum = (qs.take i).sum + q := by
  rw [get_take h, List.sum_append, List.sum_cons, List.sum_nil]
  grind
theorem sumF_q (qs : List Rat) : ∀ i, i ≤ qs.length → sumF ((qs.map rF).take i) = rF (qs.take i).sum
  | 0, _ => rfl
  | i + 1, h => by
    obtain ⟨q, hq⟩ : ∃ q, qs[i]? = some q := ⟨_, List.getElem?_eq_getElem (by omega)⟩
    have e : (qs.map rF).take (i + 1) = (qs.map rF).take i ++ [rF q] := get_take (by rw [List.getElem?_map, hq]; rfl)
    rw [e, sumF_snoc, sumF_q qs i (by omega), rF_add, sum_take hq]
theorem tot_q {K : PySem.W.Frag} : ∀ vs H Q E, spTotQ K vs H Q E → spTotal K vs H Q E := fun vs H Q E z => by
  obtain ⟨a, xs, qs, rfl, hS, hA, hb, hs, k⟩ := z
  refine ⟨a, qs.map rF, rfl, ⟨xs, .inl hS, rowF_of hA⟩, fun f hf => ?_, fun i hi => ?_, fun v H' s h => k v H' s ?_⟩
  · obtain ⟨q, hq, rfl⟩ := List.mem_map.mp hf
    obtain ⟨b1, b2⟩ := bg_of (hb q hq)
    exact ⟨rF_fr q, b1, b2⟩
  · rw [List.length_map] at hi
    rw [sumF_q qs i (by omega)]
    obtain ⟨b1, b2⟩ := bg_of (hs i hi)
    exact ⟨rF_fr _, b1, b2⟩
  · have e := sumF_q qs qs.length (Nat.le_refl _)
    rw [List.take_length, List.take_of_length_le (by rw [List.length_map]; exact Nat.le_refl _)] at e
    rw [e] at h
    exact h
def spCorn (K : PySem.W.Frag) : Sp := fun vs H Q _ => ∃ (a : Addr) (xs : List V) (cs : List Cv), vs = [.ref a] ∧ SqL K H a xs ∧ DtA K mT H xs (cs.map cvD) ∧ Sm cs ∧
  ∀ p H' ys (ls : List Rat), Same H H' → H' p = some (.lst ys) → DtA K mT H' ys (ls.map frD) → ls.Pairwise (· < ·) → (∀ q, q ∈ ls ↔ q = 0 ∨ ∃ c ∈ cs, ∃ p ∈ c.pts, p.1 = q) → ls.length ≤ 100 → Q (.ref p) H'
def spSumAt (K : PySem.W.Frag) : Sp := fun vs H Q _ => ∃ (a : Addr) (xs : List V) (cs : List Cv) (y : V) (x : Rat), vs = [.ref a, y] ∧ SqL K H a xs ∧ DtA K mT H xs (cs.map cvD) ∧ Sm cs ∧ Ql K H y x ∧ Rb 200 200 x ∧ 0 ≤ x ∧ ∀ v H', Same H H' → Ql K H' v (sumE cs x) → Q v H'
def spLeast (K : PySem.W.Frag) : Sp := fun vs H Q _ => ∃ (a : Addr) (xs : List V) (cs : List Cv) (y : V) (x : Rat), vs = [.ref a, y] ∧ SqL K H a xs ∧ DtA K mT H xs (cs.map cvD) ∧ Sm cs ∧ Ql K H y x ∧ Rb 600 600 x ∧ 0 ≤ x ∧ ∀ o v H', Same H H' → Lst (sumE cs) x o → OQ K H' v o → Q v H'
theorem place_ex {c : Cv} (ok : c.Ok) {x : Rat} (x0 : 0 ≤ x) : ∃ i p, c.pts[i]? = some p ∧ p.1 ≤ x ∧ ∀ q, c.pts[i + 1]? = some q → x < q.1 := by
  obtain ⟨rst, er⟩ := ok.hd
  have hp0 : c.pts[0]? = some (0, 0) := by rw [er]; rfl
  have c0 : 0 < cnt x c.pts := by
    refine Nat.pos_of_ne_zero fun z => ?_
    have := (cnt_asc (x := x) ok.asc 0 _ hp0).2 (by omega)
    grind
  have cl := cnt_le x c.pts
  obtain ⟨i, hi⟩ : ∃ i, cnt x c.pts = i + 1 := ⟨cnt x c.pts - 1, by omega⟩
  obtain ⟨p, hp⟩ : ∃ p, c.pts[i]? = some p := ⟨_, List.getElem?_eq_getElem (by omega)⟩
  exact ⟨i, p, hp, (cnt_asc (x := x) ok.asc i p hp).1 (by omega), fun q hq => (cnt_asc (x := x) ok.asc (i + 1) q hq).2 (by omega)⟩
theorem ev_rb {c : Cv} (ok : c.Ok) (cb : CBk 100 100 c) {x : Rat} (x0 : 0 ≤ x) (bx : Rb 200 200 x) : Rb 502 500 (c.ev x) := by
  obtain ⟨i, p, hp, h1, h2⟩ := place_ex ok x0
  rw [ok.at hp h1 h2]
  have bi := cb.at hp
  exact (bi.2.add ((cb.rise i).mul (bx.sub bi.1 (c := 301) (by decide) (by decide))) (c := 502) (by decide) (by decide)).mono (by decide) (by decide)
theorem sum_rb {a b : Nat} : ∀ {qs : List Rat}, (∀ q ∈ qs, Rb a b q) → Rb (a + qs.length * (b + 1) + 1) (1 + qs.length * b) qs.sum
  | [], _ => rb_zero.mono (by omega) (by omega)
  | q :: qs, h => by
    have h1 := h q List.mem_cons_self
    have h2 := sum_rb (qs := qs) fun r hr => h r (List.mem_cons_of_mem _ hr)
    rw [List.sum_cons, List.length_cons, Nat.succ_mul, Nat.succ_mul]
    have e : qs.length * (b + 1) = qs.length * b + qs.length := Nat.mul_succ _ _
    exact (h1.add h2 (c := a + (qs.length * (b + 1) + (b + 1)) + 1) (by omega) (by omega)).mono (Nat.le_refl _) (by omega)
section
variable {P : Program} {w : World} {K : PySem.W.Frag} {mg : Str → Option Value} {base : Heap}
abbrev s_law_corner_levels : Stmt := topS 58
theorem sc__law_corner_levels : FnScope ["curves", "found", "one", "corner"] ["curves"] (defScope s_law_corner_levels) := ⟨rfl, rfl, rfl, by decide +kernel, rfl, by decide +kernel, by decide +kernel⟩
theorem ok__law_corner_levels {f : Addr} {fd : FuncData} (F : Fun K "_law_corner_levels" "_law_corner_levels" s_law_corner_levels f fd) (B : Bt mg) (c__law_ascending : CalG P w K mg base 2 "_law_ascending" (spAscQ K)) : FnG P w K mg base 3 f fd ["curves"] (spCorn K) := by
  refine Fun.okG F sc__law_corner_levels (fun vs H Q E h => ?_) (fun cdv A outer s H vs Q E hg hr h => ?_)
  · obtain ⟨_, _, _, rfl, _⟩ := h
    rfl
  obtain ⟨a, xs, cs, rfl, hS, hA, sm, k⟩ := h
  refine ⟨_, (pss_cons (ps_set (i := 1) sc__law_corner_levels.nd rfl (Or.inl rfl) (pe_lst (pa_cons (pe_tup (pa_cons pe_int (pa_cons pe_int pa_nil))) pa_nil)))
    (pss_cons (ps_for PassesOwn.never rfl (pi_list (pv 0)) (pg_name (i := 2) sc__law_corner_levels.nd rfl (Or.inl rfl))
      (pss_one (ps_expr (pe_bm PySem.F.plainAttrs_list PySem.F.slot_list_extend PySem.F.type_list_extend mt_extend (pv 1) (pa_cons (pe_lc (own := [("corner", 3)]) rfl sc__law_corner_levels.nd (pi_tup (pe_ix ix_tup (pv 2) pe_int (fun _ _ => rfl))) (blkOk_by (own := [("corner", 3)]) (N := ["curves", "found", "one", "corner"]) (sc := (defScope s_law_corner_levels)) (by decide +kernel)) (fun _ _ _ _ _ => (pg_name (i := 3) sc__law_corner_levels.nd rfl (Or.inl rfl))) (fun _ _ _ _ _ => pts_nil) (fun _ _ _ _ _ => (pe_ix (ix_tupK (K := K) rfl) (pv 3) pe_int (fun _ _ => rfl)))) pa_nil)))))
    (pss_one (ps_ret (pc c__law_ascending hg hr (by decide) (by rfl) (pa_cons (pv 1) pa_nil)))))), ?_⟩
  have hlen := hA.length
  rw [List.length_map] at hlen
  refine ⟨by show 2 ≤ sizeLine; decide, fun z nz => ⟨sz8 (by simp), fun F nF => ?_⟩⟩
  have sz := same_upd (o := .tup [V.int 0, V.int 1]) nz
  have sF := same_upd (o := .lst [V.ref z]) nF
  have uz := sF _ _ (upd_same (H := H) (a := z) (o := .tup [V.int 0, V.int 1]))
  have uF := upd_same (H := upd H z (.tup [V.int 0, V.int 1])) (a := F) (o := .lst [V.ref z])
  have s0 := sz.trans sF
  have nHF : H F = none := by
    cases q : H F with
    | none => rfl
    | some u => rw [sz _ _ q] at nF; cases nF
  generalize upd (upd H z (.tup [V.int 0, V.int 1])) F (.lst [V.ref z]) = H0 at s0 uz uF
  have q0 : Ql K H0 (.ref z) 0 := ⟨z, rfl, .inl (.inl uz)⟩
  refine ⟨_, rfl, a, rfl, ⟨xs, SqL.exN hS (exN_same s0)⟩, for_it (walk_list (K := K) (xs := xs) (a := a)) (fun i σ H' => ∃ o2 o3 us qs, σ = [some (.ref a), some (.ref F), o2, o3] ∧ Same H H' ∧ H' F = some (.lst us) ∧ DtA K mT H' us (qs.map frD) ∧ qs.length ≤ 1 + 8 * i ∧ (∀ q, q ∈ qs ↔ q = 0 ∨ ∃ c ∈ cs.take i, ∃ p ∈ c.pts, p.1 = q))
    ⟨_, _, [V.ref z], [0], rfl, s0, uF, .cons q0.dt .nil, Nat.le_refl _, fun q => by simp⟩ (fun i σ H' _ h => ?_) (fun i x σ H1 H2 hi h y' => ?_) fun σ H1 h => ?_⟩
  · obtain ⟨_, _, _, _, _, s, _⟩ := h
    exact SqL.exN hS (exN_same s)
  · obtain ⟨o2, o3, us, qs, rfl, s1, e1, a1, l1, m1⟩ := h
    obtain ⟨rfl, gx⟩ := y'
    obtain ⟨c, hc⟩ : ∃ c, cs[i]? = some c := ⟨_, List.getElem?_eq_getElem (by omega)⟩
    have mc := List.mem_of_getElem? hc
    have nc := sm.n c mc
    have l5 := sm.len
    obtain ⟨v, w1, dv⟩ := hA.getD (i := i) (d := cvD c) (by rw [List.getElem?_map, hc]; rfl)
    rw [gx] at w1
    cases w1
    obtain ⟨t, b, ys, u, rfl, ht, hb, hP, hu'⟩ := cv_at (dt_same dv s1)
    have pl := hP.length
    rw [List.length_map] at pl
    refine ⟨_, rfl, ty_lst e1, _, rfl, t, _, 0, .ref b, rfl, rfl, ht, atI_nat (j := 0) rfl, b, rfl, ⟨ys, hb⟩, fun D nD => ?_⟩
    refine lc_it (walk_tup (K := K) (xs := ys) (a := b)) (fun j H' => Same H2 H' ∧ ∃ ws, H' D = some (.lst ws) ∧ DtA K mT H' ws (((c.pts.take j).map (·.1)).map frD)) ⟨same_upd nD, [], upd_same, .nil⟩ (fun j H' _ h => h.1.seqT hb) ?_ ?_
    · rintro j x2 H3 H4 hj ⟨s3, ws, e3, a3⟩ ⟨rfl, gx⟩
      obtain ⟨p, hp⟩ : ∃ p, c.pts[j]? = some p := ⟨_, List.getElem?_eq_getElem (by omega)⟩
      obtain ⟨v, w1, dv⟩ := pts_get hP hp
      rw [gx] at w1
      cases w1
      obtain ⟨tp, p1, p2, rfl, hp', gp1, gp2⟩ := pt_at (dt_same dv s3)
      have l3 := a3.length
      rw [List.length_map, List.length_map, List.length_take] at l3
      refine ⟨rfl, _, rfl, tp, _, 0, p1, rfl, rfl, hp', atI_nat (j := 0) rfl, ws, e3, small1000 (by omega), same_at s3 nD, ws ++ [p1], upd_same, ?_⟩
      rw [take_snoc hp, List.map_append]
      exact dtA_at (a3.append (.cons gp1.dt .nil)) e3
    · rintro H3 ⟨s3, ws, e3, a3⟩
      rw [List.take_of_length_le (by omega)] at a3
      have l3 := a3.length
      rw [List.length_map, List.length_map] at l3
      have l1' := a1.length
      rw [List.length_map] at l1'
      refine ⟨F, D, us, ws, rfl, rfl, s3 _ _ e1, e3, by have := sizeLine_eq; omega, _, _, us ++ ws, qs ++ c.pts.map (·.1), rfl, same_at (s1.trans s3) nHF, upd_same, ?_, by rw [List.length_append, List.length_map]; omega, fun q => ?_⟩
      · rw [List.map_append]
        exact dtA_at ((a1.fut (.of_same s3)).append a3) (s3 _ _ e1)
      · rw [List.mem_append, m1, get_take hc]
        constructor
        · rintro ((h | ⟨d, hd, h⟩) | h)
          · exact .inl h
          · exact .inr ⟨d, List.mem_append_left _ hd, h⟩
          · obtain ⟨p, hp, h⟩ := List.mem_map.mp h
            exact .inr ⟨c, List.mem_append_right _ (List.mem_singleton.mpr rfl), p, hp, h⟩
        · rintro (h | ⟨d, hd, p, hp, h⟩)
          · exact .inl (.inl h)
          · rcases List.mem_append.mp hd with hd | hd
            · exact .inl (.inr ⟨d, hd, p, hp, h⟩)
            · rw [List.mem_singleton.mp hd] at hp
              exact .inr (List.mem_map.mpr ⟨p, hp, h⟩)
  · obtain ⟨o2, o3, us, qs, rfl, s1, e1, a1, l1, m1⟩ := h
    have l5 := sm.len
    rw [List.take_of_length_le (by omega)] at m1
    refine ⟨_, rfl, F, us, qs, rfl, .inl (.inl e1), a1, fun q hq => ((sm.lv q ((m1 q).mp hq)).1).bq (by decide) (by decide), by omega, fun p H' ys ls s e d pw mem ml => k p H' ys ls (s1.trans s) e d pw (fun q => (mem q).trans (m1 q)) (by omega)⟩
abbrev s_law_sum_at : Stmt := topS 59
theorem sc__law_sum_at : FnScope ["curves", "level", "one"] ["curves", "level"] (defScope s_law_sum_at) := ⟨rfl, rfl, rfl, by decide +kernel, rfl, by decide +kernel, by decide +kernel⟩
theorem ok__law_sum_at {f : Addr} {fd : FuncData} (F : Fun K "_law_sum_at" "_law_sum_at" s_law_sum_at f fd) (B : Bt mg) (c__law_total : CalG P w K mg base 4 "_law_total" (spTotQ K)) (c__law_paid_at : CalG P w K mg base 4 "_law_paid_at" (spPay K)) : FnG P w K mg base 5 f fd ["curves", "level"] (spSumAt K) := by
  refine Fun.okG F sc__law_sum_at (fun vs H Q E h => ?_) (fun cdv A outer s H vs Q E hg hr h => ?_)
  · obtain ⟨_, _, _, _, _, rfl, _⟩ := h
    rfl
  obtain ⟨a, xs, cs, y, x, rfl, hS, hA, sm, hy, bx, x0, k⟩ := h
  refine ⟨_, (pss_one (ps_ret (pc c__law_total hg hr (by decide) (by rfl) (pa_cons (pe_lc (own := [("one", 2)]) rfl sc__law_sum_at.nd (pi_list (pv 0)) (blkOk_by (own := [("one", 2)]) (N := ["curves", "level", "one"]) (sc := (defScope s_law_sum_at)) (by decide +kernel)) (fun _ _ _ _ _ => (pg_name (i := 2) sc__law_sum_at.nd rfl (Or.inl rfl))) (fun _ _ _ _ _ => pts_nil) (fun _ _ _ _ _ => (pc c__law_paid_at hg hr (by decide) (by rfl) (pa_cons (pv 2) (pa_cons (pv 1) pa_nil))))) pa_nil)))), ?_⟩
  have hlen := hA.length
  rw [List.length_map] at hlen
  have l5 := sm.len
  refine ⟨_, rfl, a, rfl, ⟨xs, hS⟩, fun D nD => ?_⟩
  refine lc_it (walk_list (K := K) (a := a) (xs := xs)) (fun i H' => Same H H' ∧ ∃ us, H' D = some (.lst us) ∧ DtA K mT H' us (((cs.take i).map fun c => c.ev x).map frD)) ⟨same_upd nD, [], upd_same, .nil⟩ (fun i H' _ h => SqL.exN hS (exN_same h.1)) ?_ ?_
  · rintro i x1 H1 H2 hi ⟨s1, us, e1, a1⟩ ⟨rfl, gx⟩
    obtain ⟨c, hc⟩ : ∃ c, cs[i]? = some c := ⟨_, List.getElem?_eq_getElem (by omega)⟩
    have mc := List.mem_of_getElem? hc
    obtain ⟨v, w1, dv⟩ := hA.getD (i := i) (d := cvD c) (by rw [List.getElem?_map, hc]; rfl)
    rw [gx] at w1
    cases w1
    have l1 := a1.length
    rw [List.length_map, List.length_map, List.length_take] at l1
    refine ⟨rfl, _, rfl, _, rfl, x1, y, c, x, rfl, dt_same dv s1, hy.same s1, sm.ok c mc, (sm.cb c mc).mono (by decide) (by decide), bx.mono (by decide) (by decide), x0, Nat.le_trans (sm.n c mc) (by decide), fun v3 H3 s3 h3 => ?_⟩
    have e3 := s3 _ _ e1
    refine ⟨us, e3, small1000 (by omega), same_at (s1.trans s3) nD, us ++ [v3], upd_same, ?_⟩
    rw [take_snoc hc, List.map_append]
    exact dtA_at ((a1.fut (.of_same s3)).append (.cons h3.dt .nil)) e3
  · rintro H1 ⟨s1, us, e1, a1⟩
    rw [List.take_of_length_le (by omega)] at a1
    have be : ∀ q ∈ cs.map fun c => c.ev x, Rb 502 500 q := fun q hq => by
      obtain ⟨c, hc, rfl⟩ := List.mem_map.mp hq
      exact ev_rb (sm.ok c hc) (sm.cb c hc) x0 bx
    refine ⟨D, us, cs.map (fun c : Cv => c.ev x), rfl, .inl (.inl e1), a1, fun q hq => (be q hq).bq (by decide) (by decide), fun i hi => ?_, fun v H2 s2 h2 => k v H2 (s1.trans s2) h2⟩
    have := sum_rb (qs := (cs.map fun c => c.ev x).take i) fun q hq => be q (List.mem_of_mem_take hq)
    rw [List.length_map] at hi
    rw [List.length_take, List.length_map, Nat.min_eq_left (by omega)] at this
    exact this.bq (by omega) (by omega)
end
end K33
namespace K33
open PySem PySem.Spec PyProof.Rows L2 Sw MC LamX
theorem pw_idx {ls : List Rat} (pw : ls.Pairwise (· < ·)) {i j : Nat} {a b : Rat} (ha : ls[i]? = some a) (hb : ls[j]? = some b) (h : i < j) : a < b := by
  obtain ⟨l1, e1⟩ := List.getElem?_eq_some_iff.mp ha
  obtain ⟨l2, e2⟩ := List.getElem?_eq_some_iff.mp hb
  have := List.pairwise_iff_getElem.mp pw i j l1 l2 h
  rw [e1, e2] at this
  exact this
structure Lv (cs : List Cv) (ls : List Rat) : Prop where
  pw : ls.Pairwise (· < ·)
  mem : ∀ q, q ∈ ls ↔ q = 0 ∨ ∃ c ∈ cs, ∃ p ∈ c.pts, p.1 = q
theorem Lv.nn {cs : List Cv} {ls : List Rat} (h : Lv cs ls) (ok : ∀ c ∈ cs, c.Ok) : ∀ l ∈ ls, 0 ≤ l := fun l hl => by
  rcases (h.mem l).mp hl with q | ⟨c, hc, r, hr', q⟩
  · grind
  · obtain ⟨i, hi⟩ := List.mem_iff_getElem?.mp hr'
    have := ((ok c hc).pay hi).1
    grind
theorem Lv.zero {cs : List Cv} {ls : List Rat} (h : Lv cs ls) (ok : ∀ c ∈ cs, c.Ok) : ls[0]? = some 0 := by
  have m0 := (h.mem 0).mpr (.inl rfl)
  have nn := h.nn ok
  have pw := h.pw
  cases ls with
  | nil => cases m0
  | cons k M =>
    rcases List.mem_cons.mp m0 with q | q
    · rw [← q]
      rfl
    · have a1 := (List.pairwise_cons.mp pw).1 0 q
      have a2 := nn k List.mem_cons_self
      grind
theorem Lv.aff {cs : List Cv} {ls : List Rat} (h : Lv cs ls) (ok : ∀ c ∈ cs, c.Ok) {i : Nat} {lo hi : Rat} (hl : ls[i]? = some lo) (hn : ∀ q, ls[i + 1]? = some q → hi ≤ q) (lt : lo < hi) : ∀ x, lo ≤ x → x ≤ hi → sumE cs x * (hi - lo) = sumE cs lo * (hi - x) + sumE cs hi * (x - lo) := fun x h1 h2 => by
  have n0 := h.nn ok lo (List.mem_of_getElem? hl)
  rw [← bendsA_sum ok x (by grind), ← bendsA_sum ok lo n0, ← bendsA_sum ok hi (by grind)]
  refine sumR_aff h1 h2 lt fun e he => ?_
  have me : e.1 ∈ ls := (h.mem _).mpr (.inr (bendsA_mem.mp ⟨e, he, rfl⟩))
  obtain ⟨j, hj⟩ := List.mem_iff_getElem?.mp me
  rcases Nat.lt_trichotomy j i with z | z | z
  · exact .inl (by have := pw_idx h.pw hj hl z; grind)
  · subst z
    rw [hl] at hj
    cases hj
    exact .inl (by grind)
  · refine .inr ?_
    obtain ⟨q, hq⟩ : ∃ q, ls[i + 1]? = some q := ⟨_, List.getElem?_eq_getElem (by have := (List.getElem?_eq_some_iff.mp hj).1; omega)⟩
    have h3 := hn q hq
    rcases Nat.lt_or_ge (i + 1) j with w | w
    · have := pw_idx h.pw hq hj w
      grind
    · have : j = i + 1 := by omega
      subst this
      rw [hq] at hj
      cases hj
      exact h3
theorem Lv.far {cs : List Cv} {ls : List Rat} (h : Lv cs ls) (ok : ∀ c ∈ cs, c.Ok) {i : Nat} {lo : Rat} (hl : ls[i]? = some lo) (hn : ls[i + 1]? = none) : ∀ x, lo ≤ x → sumE cs x = sumE cs lo + (sumE cs (lo + 1) - sumE cs lo) * (x - lo) := fun x h1 => by
  have n0 := h.nn ok lo (List.mem_of_getElem? hl)
  rw [← bendsA_sum ok x (by grind), ← bendsA_sum ok lo n0, ← bendsA_sum ok (lo + 1) (by grind)]
  refine sumR_far h1 fun e he => ?_
  have me : e.1 ∈ ls := (h.mem _).mpr (.inr (bendsA_mem.mp ⟨e, he, rfl⟩))
  obtain ⟨j, hj⟩ := List.mem_iff_getElem?.mp me
  have lj := (List.getElem?_eq_some_iff.mp hj).1
  rw [List.getElem?_eq_none_iff] at hn
  rcases Nat.lt_trichotomy j i with z | z | z
  · have := pw_idx h.pw hj hl z
    grind
  · subst z
    rw [hl] at hj
    cases hj
    grind
  · omega
section
variable {P : Program} {w : World} {K : PySem.W.Frag} {mg : Str → Option Value} {base : Heap}
abbrev s_law_least_level : Stmt := topS 60
theorem sc__law_least_level : FnScope ["curves", "amount", "levels", "at", "low", "begin", "high", "end", "is_between", "part"] ["curves", "amount"] (defScope s_law_least_level) := ⟨rfl, rfl, rfl, by decide +kernel, rfl, by decide +kernel, by decide +kernel⟩
theorem ok__law_least_level {f : Addr} {fd : FuncData} (F : Fun K "_law_least_level" "_law_least_level" s_law_least_level f fd) (B : Bt mg) (c__law_corner_levels : CalG P w K mg base 3 "_law_corner_levels" (spCorn K)) (c__law_sum_at : CalG P w K mg base 5 "_law_sum_at" (spSumAt K)) (c__law_is_below : CalG P w K mg base 1 "_law_is_below" (spQb K))
    (c__law_lessened : CalG P w K mg base 3 "_law_lessened" (spQ2 K (· - ·))) (c__law_divided : CalG P w K mg base 3 "_law_divided" (spQd K)) (c__law_added : CalG P w K mg base 3 "_law_added" (spQ2 K (· + ·))) (c__law_multiplied : CalG P w K mg base 3 "_law_multiplied" (spQ2 K (· * ·))) : FnG P w K mg base 6 f fd ["curves", "amount"] (spLeast K) := by
  refine Fun.okG F sc__law_least_level (fun vs H Q E h => ?_) (fun cdv A outer s H vs Q E hg hr h => ?_)
  · obtain ⟨_, _, _, _, _, rfl, _⟩ := h
    rfl
  obtain ⟨a, xs, cs, y, x, rfl, hS, hA, sm, hy, bx, x0, k⟩ := h
  have hu := Room.u64 hr
  refine ⟨_, (pss_cons (ps_set (i := 2) sc__law_least_level.nd rfl (Or.inl rfl) (pc c__law_corner_levels hg hr (by decide) (by rfl) (pa_cons (pv 0) pa_nil)))
    (pss_cons (ps_for PassesOwn.never rfl (pi_enum (by rfl) B.enum (pa_cons (pv 2) pa_nil)) (pg_tup (n := 2) rfl (pgs_cons (pg_name (i := 3) sc__law_least_level.nd rfl (Or.inl rfl)) (pgs_cons (pg_name (i := 4) sc__law_least_level.nd rfl (Or.inl rfl)) pgs_nil)))
      (pss_cons (ps_set (i := 5) sc__law_least_level.nd rfl (Or.inl rfl) (pc c__law_sum_at hg hr (by decide) (by rfl) (pa_cons (pv 0) (pa_cons (pv 4) pa_nil))))
      (pss_cons (ps_if (pt_cmpR (op_eqW hu) (pv 5) (pv 1) (nomark _))
        (pss_one (ps_ret (pv 4)))
        pss_nil)
      (C8.pss_cut (ps_set (i := 6) sc__law_least_level.nd rfl (Or.inl rfl) (pe_ifExp (pt_cmpR op_lt (pe_op op_add (pv 3) pe_int) (pe_callB call_lenA (by rfl) B.len boot_len (pa_cons (pv 2) pa_nil)) (nomark _)) (pe_ix ix_list (pv 2) (pe_op op_add (pv 3) pe_int) (fun _ _ => rfl)) (pc c__law_added hg hr (by decide) (by rfl) (pa_cons (pv 4) (pa_cons (pe_tup (pa_cons pe_int (pa_cons pe_int pa_nil))) pa_nil)))))
      (pss_cons (ps_set (i := 7) sc__law_least_level.nd rfl (Or.inl rfl) (pc c__law_sum_at hg hr (by decide) (by rfl) (pa_cons (pv 0) (pa_cons (pv 6) pa_nil))))
      (C8.pss_cut (ps_set (i := 8) sc__law_least_level.nd rfl (Or.inl rfl) (pe_or (pe_cmpR op_eq (pe_op op_add (pv 3) pe_int) (pe_callB call_lenA (by rfl) B.len boot_len (pa_cons (pv 2) pa_nil)) (nomark _)) (pe_one (pe_not (pc c__law_is_below hg hr (by decide) (by rfl) (pa_cons (pv 7) (pa_cons (pv 1) pa_nil)))))))
      (pss_one (ps_if (PW.pt (pw_and (pt_val (pc c__law_is_below hg hr (by decide) (by rfl) (pa_cons (pv 5) (pa_cons (pv 7) pa_nil)))) (pw_and (pt_val (pc c__law_is_below hg hr (by decide) (by rfl) (pa_cons (pv 5) (pa_cons (pv 1) pa_nil)))) (pw_and1 (pt_val (pv 8))))))
        (pss_cons (ps_set (i := 9) sc__law_least_level.nd rfl (Or.inl rfl) (pc c__law_divided hg hr (by decide) (by rfl) (pa_cons (pc c__law_lessened hg hr (by decide) (by rfl) (pa_cons (pv 1) (pa_cons (pv 5) pa_nil))) (pa_cons (pc c__law_lessened hg hr (by decide) (by rfl) (pa_cons (pv 7) (pa_cons (pv 5) pa_nil))) pa_nil))))
        (pss_one (ps_ret (pc c__law_added hg hr (by decide) (by rfl) (pa_cons (pv 4) (pa_cons (pc c__law_multiplied hg hr (by decide) (by rfl) (pa_cons (pv 9) (pa_cons (pc c__law_lessened hg hr (by decide) (by rfl) (pa_cons (pv 6) (pa_cons (pv 4) pa_nil))) pa_nil))) pa_nil))))))
        pss_nil))))))))
    (pss_one (ps_ret pe_non)))), ?_⟩
  have l5 := sm.len
  refine ⟨_, rfl, a, xs, cs, rfl, hS, hA, sm, fun p H1 ys ls s1 e1 a1 pw mem ll => ?_⟩
  have lv : Lv cs ls := ⟨pw, mem⟩
  have nn := lv.nn sm.ok
  have z0 := lv.zero sm.ok
  have mono := sumE_mono sm.ok
  have yl := a1.length
  rw [List.length_map] at yl
  have pos : 0 < ls.length := (List.getElem?_eq_some_iff.mp z0).1
  refine ⟨_, rfl, p, ys, rfl, .inl (.inl e1), for_it (walk_enum (K := K) (xs := ys) (a := p)) (fun i σ H' => ∃ o3 o4 o5 o6 o7 o8 o9, σ = [some (.ref a), some y, some (.ref p), o3, o4, o5, o6, o7, o8, o9] ∧ Same H1 H' ∧ (∀ l, ls[i]? = some l → sumE cs l ≤ x ∧ (i = 0 ∨ sumE cs l < x)) ∧ (i = ls.length → Lst (sumE cs) x none))
    ⟨_, _, _, _, _, _, _, rfl, .refl _, fun l hl => ?_, fun h => by omega⟩ (fun i σ H' _ h => ?_) (fun i x1 σ H2 H3 hi h y' => ?_) fun σ H2 h => ?_⟩
  · rw [z0] at hl
    cases hl
    rw [sumE_zero sm.ok]
    exact ⟨x0, .inl rfl⟩
  · obtain ⟨_, _, _, _, _, _, _, _, s, _⟩ := h
    exact .inl (.inl (s _ _ e1))
  · obtain ⟨o3, o4, o5, o6, o7, o8, o9, rfl, s2, inv, _⟩ := h
    obtain ⟨T, x2, x3, rfl, nT, rfl, g2, g3⟩ := y'
    cases g2
    have g3 : ys[i]? = some x3 := g3
    obtain ⟨lo, hlo⟩ : ∃ lo, ls[i]? = some lo := ⟨_, List.getElem?_eq_getElem (by omega)⟩
    obtain ⟨v, w1, dv⟩ := a1.getD (i := i) (d := frD lo) (by rw [List.getElem?_map, hlo]; rfl)
    rw [g3] at w1
    cases w1
    have mlo := List.mem_of_getElem? hlo
    obtain ⟨bl, bs, bs1⟩ := sm.lv lo ((mem lo).mp mlo)
    have n0 := nn lo mlo
    obtain ⟨inv1, inv2⟩ := inv lo hlo
    have sT := same_upd (o := .tup [V.int (i : Nat), x3]) nT
    have uT := upd_same (H := H2) (a := T) (o := .tup [V.int (i : Nat), x3])
    have s3 := s2.trans sT
    generalize upd H2 T (.tup [V.int (i : Nat), x3]) = H3 at s3 uT
    have s13 := s1.trans s3
    have hx3 := dt_ql (dt_same dv s3)
    refine ⟨T, _, rfl, .of uT, rfl, _, _, rfl, _, _, rfl, rfl, ?_⟩
    refine ⟨_, rfl, _, rfl, a, xs, cs, x3, lo, rfl, SqL.exN hS (exN_same s13), hA.fut (.of_same s13), sm, hx3, bl.mono (by decide) (by decide), n0, fun vb H4 s4 h4 => ?_⟩
    have s14 := s13.trans s4
    refine ⟨_, rfl, _, rfl, ⟨mT, frD _, frD x, h4.dt, (hy.same s14).dt, fr_shaped _, fr_shaped _, _, rfl, ?_⟩⟩
    rw [eqv_fr]
    refine iteP (fun e => ?_) fun ne => ?_
    · refine ⟨_, rfl, k (some lo) _ H4 s14 ?_ (hx3.same s4)⟩
      have i0 : i = 0 := by
        rcases inv2 with z | z
        · exact z
        · grind
      subst i0
      rw [z0] at hlo
      cases hlo
      exact ⟨by grind, e, fun y h1 h2 => by grind⟩
    · have slt : sumE cs lo < x := by grind
      refine ⟨fun σ H' => ∃ vh hi o7 o8 o9, σ = [some (.ref a), some y, some (.ref p), some (.int (i : Nat)), some x3, some vb, some vh, o7, o8, o9] ∧ Same H4 H' ∧ Ql K H' vh hi ∧ (ls[i + 1]? = some hi ∨ (ls[i + 1]? = none ∧ hi = lo + 1)), ?_, ?_⟩
      · refine ⟨_, rfl, _, _, rfl, rfl, _, rfl, _, ys.length, rfl, .inl ⟨ys, .inl (.inl ((s3.trans s4) _ _ e1)), rfl⟩, _, _, rfl, rfl, _, rfl, iteP (fun h => ?_) fun h => ?_⟩
        · obtain ⟨hi, hh⟩ : ∃ hi, ls[i + 1]? = some hi := ⟨_, List.getElem?_eq_getElem (by omega)⟩
          obtain ⟨v, w2, dv2⟩ := a1.getD (i := i + 1) (d := frD hi) (by rw [List.getElem?_map, hh]; rfl)
          refine ⟨_, rfl, _, rfl, _, _, rfl, rfl, p, ys, ((i + 1 : Nat) : Int), v, rfl, by congr 1, .inl (.inl ((s3.trans s4) _ _ e1)), atI_nat (j := i + 1) w2, ?_⟩
          exact ⟨v, hi, _, _, _, rfl, .refl _, dt_ql (dt_same dv2 (s3.trans s4)), .inl hh⟩
        · refine ⟨_, rfl, by show 2 ≤ sizeLine; decide, fun T2 n2 => ?_⟩
          have sT2 := same_upd (o := .tup [V.int 1, V.int 1]) n2
          refine ⟨x3, .ref T2, lo, 1, rfl, (hx3.same s4).same sT2, ⟨T2, rfl, .inl (.inl upd_same)⟩, bl.bq (by decide) (by decide), rb_one.bq (by decide) (by decide), fun v H5 s5 h5 => ?_⟩
          exact ⟨v, lo + 1, _, _, _, rfl, sT2.trans s5, h5, .inr ⟨List.getElem?_eq_none (by omega), rfl⟩⟩
      · rintro σ H5 ⟨vh, hi, o7, o8, o9, rfl, s5, hvh, his⟩
        have s15 := s14.trans s5
        have lt : lo < hi := by
          rcases his with z | ⟨_, z⟩
          · exact pw_idx pw hlo z (Nat.lt_succ_self i)
          · grind
        have nhi : 0 ≤ hi := by grind
        have B2 : Rb 102 65 hi ∧ Rb 500 400 (sumE cs hi) := by
          rcases his with z | ⟨_, z⟩
          · obtain ⟨c1, c2, _⟩ := sm.lv hi ((mem hi).mp (List.mem_of_getElem? z))
            exact ⟨c1.mono (by decide) (by decide), c2⟩
          · rw [z]
            exact ⟨bl.add rb_one (c := 102) (by decide) (by decide), bs1⟩
        obtain ⟨bh, bsh⟩ := B2
        refine ⟨_, rfl, _, rfl, a, xs, cs, vh, hi, rfl, SqL.exN hS (exN_same s15), hA.fut (.of_same s15), sm, hvh, bh.mono (by decide) (by decide), nhi, fun ve H6 s6 h6 => ?_⟩
        have s46 := s5.trans s6
        have s16 := s15.trans s6
        have hvb := h4.same s46
        refine ⟨fun σ H' => ∃ (b : Bool) (o9 : Option V), σ = [some (.ref a), some y, some (.ref p), some (.int (i : Nat)), some x3, some vb, some vh, some ve, some (.bl b), o9] ∧ Same H6 H' ∧ (b = true ↔ (i + 1 = ls.length ∨ ¬ sumE cs hi < x)), ?_, ?_⟩
        · refine ⟨_, rfl, _, _, rfl, rfl, _, rfl, _, ys.length, rfl, .inl ⟨ys, .inl (.inl (((s3.trans s4).trans s46) _ _ e1)), rfl⟩, rfl, _, rfl, iteEq (fun e => ?_) fun e => ?_⟩
          · exact ⟨true, _, rfl, .refl _, ⟨fun _ => .inl (by omega), fun _ => rfl⟩⟩
          · refine ⟨_, rfl, _, rfl, ve, y, _, x, rfl, h6, hy.same s16, bsh.bq (by decide) (by decide), bx.bq (by decide) (by decide), fun H7 s7 => ⟨_, rfl, ?_⟩⟩
            refine ⟨_, _, rfl, s7, ?_⟩
            constructor
            · intro h
              refine .inr fun z => ?_
              rw [decide_eq_true z] at h
              cases h
            · rintro (h | h)
              · omega
              · rw [decide_eq_false h]
                rfl
        · rintro σ H7 ⟨b, o9', rfl, s7, hb⟩
          have s17 := s16.trans s7
          have cont : ¬ (sumE cs lo < sumE cs hi ∧ (i + 1 = ls.length ∨ ¬ sumE cs hi < x)) → (∀ l, ls[i + 1]? = some l → sumE cs l ≤ x ∧ (i + 1 = 0 ∨ sumE cs l < x)) ∧ (i + 1 = ls.length → Lst (sumE cs) x none) := fun hn => by
            refine ⟨fun l hl => ?_, fun e => ?_⟩
            · have e : hi = l := by
                rcases his with z | ⟨z, _⟩
                · rw [z] at hl
                  exact Option.some.inj hl
                · rw [z] at hl
                  cases hl
              subst e
              have : sumE cs hi < x := by
                refine Decidable.byContradiction fun w => ?_
                by_cases z : sumE cs lo < sumE cs hi
                · exact hn ⟨z, .inr w⟩
                · grind
              exact ⟨by grind, .inr this⟩
            · have hnone : ls[i + 1]? = none := List.getElem?_eq_none (by omega)
              rcases his with z | ⟨_, z⟩
              · rw [z] at hnone
                cases hnone
              · subst z
                exact lst_flat mono n0 (lv.far sm.ok hlo hnone) slt fun w => hn ⟨w, .inl e⟩
          refine ⟨_, rfl, _, rfl, vb, ve, _, _, rfl, hvb.same s7, h6.same s7, bs.bq (by decide) (by decide), bsh.bq (by decide) (by decide), fun H8 s8 => ⟨_, rfl, iteP (fun up => ?_) fun up => iteF ?_⟩⟩
          · refine ⟨_, rfl, _, rfl, vb, y, _, x, rfl, (hvb.same s7).same s8, hy.same (s17.trans s8), bs.bq (by decide) (by decide), bx.bq (by decide) (by decide), fun H9 s9 => ⟨_, rfl, iteP (fun _ => ?_) fun w => absurd slt w⟩⟩
            have s19 := (s17.trans s8).trans s9
            have s69 := (s7.trans s8).trans s9
            refine ⟨_, rfl, _, rfl, ?_⟩
            cases b with
            | true =>
              refine iteT ?_
              have hb := hb.mp rfl
              have hvb9 := hvb.same s69
              have h69 := h6.same s69
              have d1 : Rb 1101 1000 (x - sumE cs lo) := bx.sub bs (by decide) (by decide)
              have d2 : Rb 901 800 (sumE cs hi - sumE cs lo) := bsh.sub bs (by decide) (by decide)
              have d3 : Rb 167 129 (hi - lo) := bh.sub bl (by decide) (by decide)
              have ne2 : sumE cs hi - sumE cs lo ≠ 0 := by grind
              have d4 := d1.div d2 ne2
              have d5 := d4.mul d3
              have lst : Lst (sumE cs) x (some (lo + (x - sumE cs lo) / (sumE cs hi - sumE cs lo) * (hi - lo))) := by
                rcases his with z | ⟨zn, z⟩
                · have : x ≤ sumE cs hi := by
                    rcases hb with w | w
                    · have := (List.getElem?_eq_some_iff.mp z).1
                      omega
                    · grind
                  exact lst_between mono n0 lt (lv.aff sm.ok hlo (fun q hq => by rw [z] at hq; cases hq; grind) lt) slt this
                · subst z
                  exact lst_far mono n0 (lv.far sm.ok hlo zn) slt up
              refine ⟨_, rfl, _, rfl, y, vb, x, _, rfl, hy.same s19, hvb9, bx.bq (by decide) (by decide), bs.bq (by decide) (by decide), fun u1 G1 t1 k1 => ?_⟩
              refine ⟨_, rfl, _, rfl, ve, vb, _, _, rfl, h69.same t1, hvb9.same t1, bsh.bq (by decide) (by decide), bs.bq (by decide) (by decide), fun u2 G2 t2 k2 => ?_⟩
              refine ⟨u1, u2, _, _, rfl, k1.same t2, k2, d1.bq (by decide) (by decide), d2.bq (by decide) (by decide), ne2, fun u3 G3 t3 k3 => ?_⟩
              have t13 := (t1.trans t2).trans t3
              have s49 := s46.trans s69
              refine ⟨_, rfl, _, rfl, _, rfl, _, rfl, vh, x3, hi, lo, rfl, (hvh.same (s6.trans s69)).same t13, ((hx3.same s4).same s49).same t13, bh.bq (by decide) (by decide), bl.bq (by decide) (by decide), fun u4 G4 t4 k4 => ?_⟩
              refine ⟨u3, u4, _, _, rfl, k3.same t4, k4, d4.bq (by decide) (by decide), d3.bq (by decide) (by decide), fun u5 G5 t5 k5 => ?_⟩
              refine ⟨x3, u5, lo, _, rfl, (((hx3.same s4).same s49).same t13).same (t4.trans t5), k5, bl.bq (by decide) (by decide), d5.bq (by decide) (by decide), fun u6 G6 t6 k6 => ?_⟩
              exact k (some _) u6 G6 (s19.trans (t13.trans ((t4.trans t5).trans t6))) lst k6
            | false =>
              refine iteF ?_
              obtain ⟨c1, c2⟩ := cont fun w => by
                have := hb.mpr w.2
                cases this
              exact ⟨_, _, _, _, _, _, _, rfl, ((s3.trans s4).trans s46).trans s69, c1, c2⟩
          · obtain ⟨c1, c2⟩ := cont fun w => up w.1
            exact ⟨_, _, _, _, _, _, _, rfl, ((s3.trans s4).trans s46).trans (s7.trans s8), c1, c2⟩
  · obtain ⟨o3, o4, o5, o6, o7, o8, o9, rfl, s2, _, fin⟩ := h
    exact k none _ H2 (s1.trans s2) (fin yl) rfl
end
end K33
namespace K33
open PySem PySem.Spec PyProof.Rows L2 Sw MC LamX
/-! what the law draws -/
def mB (b : Addr) : Addr → Prop := fun a => a = b
theorem mB_ok {H : Hp} {b : Addr} (h : BagAt H b) : MuOk (mB b) H := fun a e => by
  obtain ⟨_, _, _, _, _, q, _⟩ := h
  cases e
  exact .inl (by rw [q]; exact fun z => nomatch z)
theorem _root_.Sw.Rel.fb {b : Addr} {H H' : Hp} (r : Rel b H H') (hb : BagAt H b) : Fut (mB b) H H' := r.fut (mu := mB b) rfl hb
section
variable {K : PySem.W.Frag} {b : Addr} {mu : Addr → Prop} {σ : L2.St} {H0 : Hp}
theorem gv_numE {D : PyData → Prop} {i : Nat} {n : Int} (hm : mu b) (hσ : σ[i]? = some (some (.ref b))) (h0 : 0 < n) (h1 : n ≤ 100000000) (hD : ∀ n m, NumQ n m → D (.tuple [.int n, .int m])) :
    Gv K b mu σ H0 (tCall (spNumE K) [] E0 (tCons (tVar i) (tCons (tC (.int n)) tNil))) D := fun H hb m Q q =>
  ⟨_, hσ, n, h0, h1, b, mu, rfl, hm, hb.bag, m, fun v H' d hd R hv o => by
    obtain ⟨x, y, rfl, hq⟩ := hd
    exact q v H' _ (hD x y hq) R hv o⟩
theorem gv_cpl {D : PyData → Prop} {n m : Int} (hm : mu b) (h : D (.tuple [.int n, .int m])) : Gv K b mu σ H0 (tTup (tCons (tC (.int n)) (tCons (tC (.int m)) tNil))) D :=
  (ge_tup hm (geA_cons hm ge_int (geA_cons hm ge_int geA_nil)) (show 2 ≤ 1000 by decide)).gv h
end
section
variable {P : Program} {w : World} {K : PySem.W.Frag} {mg : Str → Option Value} {base : Heap}
def spMixed : Sp := fun vs H Q _ => ∃ (b t : Addr) (us : List V), vs = [.ref b, .ref t] ∧ BagAt H b ∧ t ≠ b ∧ H t = some (.lst us) ∧ us.length ≤ 100 ∧ ∀ (p : Addr) (H' : Hp) (zs : List V), Rel b H H' → H' p = some (.lst zs) → (∀ z ∈ zs, z ∈ us) → zs.length = us.length → Q (.ref p) H'
abbrev s_law_mixed : Stmt := topS 43
theorem sc__law_mixed : FnScope ["bag", "things", "found", "thing"] ["bag", "things"] (defScope s_law_mixed) := ⟨rfl, rfl, rfl, by decide +kernel, rfl, by decide +kernel, by decide +kernel⟩
theorem ok__law_mixed {f : Addr} {fd : FuncData} (F : Fun K "_law_mixed" "_law_mixed" s_law_mixed f fd) (B : Bt mg) (c__law_take : CalG P w K mg base 1 "_law_take" spTake) : FnG P w K mg base 2 f fd ["bag", "things"] spMixed := by
  refine Fun.okG F sc__law_mixed (fun vs H Q E h => ?_) (fun cdv A outer s H vs Q E hg hr h => ?_)
  · obtain ⟨_, _, _, rfl, _⟩ := h
    rfl
  obtain ⟨b, t, us, rfl, hb, htb, ht, hl, k⟩ := h
  refine ⟨_, (pss_cons (ps_set (i := 2) sc__law_mixed.nd rfl (Or.inl rfl) (pe_lst pa_nil))
    (pss_cons (ps_for PassesOwn.never rfl (pi_list (pv 1)) (pg_name (i := 3) sc__law_mixed.nd rfl (Or.inl rfl))
      (pss_one (ps_expr (pe_bm PySem.F.plainAttrs_list PySem.F.slot_list_insert PySem.F.type_list_insert mt_insert (pv 2) (pa_cons (pc c__law_take hg hr (by decide) (by rfl) (pa_cons (pv 0) (pa_cons (pe_op op_add (pe_callB call_lenA (by rfl) B.len boot_len (pa_cons (pv 2) pa_nil)) pe_int) pa_nil))) (pa_cons (pv 3) pa_nil))))))
    (pss_one (ps_ret (pv 2))))), ?_⟩
  refine ⟨Nat.zero_le _, fun p np => ?_⟩
  have npb : p ≠ b := fun z => by
    obtain ⟨_, _, _, _, _, q, _⟩ := hb
    rw [z, q] at np
    cases np
  have npt : t ≠ p := ne_of_none ht np
  obtain ⟨x0, y0, z0, l0, cs0, hb0, hl0, _⟩ := id hb
  have hL0 : BagL H b l0 := ⟨_, _, _, hb0⟩
  refine ⟨_, rfl, t, rfl, ⟨_, .inl (.inl (same_upd np _ _ ht))⟩, for_it (walk_list (K := K) (xs := us) (a := t)) (fun i σ H' => ∃ (o : Option V) (zs : List V), σ = [some (.ref b), some (.ref t), some (.ref p), o] ∧ Rel b H H' ∧ H' p = some (.lst (zs)) ∧ (∀ z ∈ zs, z ∈ us) ∧ zs.length = i)
    ⟨none, [], rfl, .of_same hb (same_upd np), upd_same, (fun z h => nomatch h), rfl⟩ (fun i σ H' _ h => by
      obtain ⟨_, _, _, R, _⟩ := h
      exact .inl (.inl (R.keep _ _ htb ht))) (fun i x σ H1 H2 hi h y => ?_) fun σ H1 h => ?_⟩
  · obtain ⟨o, zs, rfl, R, hp, hz, hzl⟩ := h
    obtain ⟨rfl, hx⟩ := y
    have hx : us[i]? = some x := hx
    have hi : i < us.length := hi
    refine ⟨_, rfl, .inl ⟨rfl, _, .inl (.inl hp)⟩, _, rfl, _, rfl, _, (zs).length, rfl, .inl ⟨_, .inl (.inl hp), rfl⟩, _, _, rfl, rfl, b, _, rfl, R.bag, by omega, by omega, fun c H3 c0 c1 R3 => ?_⟩
    have hp3 := R3.keep _ _ npb hp
    refine ⟨_, rfl, p, _, c, _, rfl, rfl, hp3, small1000 (by omega), c0, by omega, ?_⟩
    obtain ⟨cn, rfl⟩ : ∃ cn : Nat, c = (cn : Int) := ⟨c.toNat, by omega⟩
    rw [Int.toNat_natCast]
    refine ⟨_, zs.take cn ++ [x] ++ zs.drop cn, rfl, ?_, ?_, fun z h => ?_, ?_⟩
    · have R13 := R.trans R3
      refine ⟨fun a u n e => ?_, fun l hL => ?_, ?_⟩
      · rw [upd_ne (ne_of_none e np)]
        exact R13.keep a u n e
      · obtain ⟨x, y, z, e⟩ := R13.cell l hL
        exact ⟨x, y, z, by rw [upd_ne npb.symm]; exact e⟩
      · obtain ⟨x, y, z, l, cs, q1, q2, q3, q4⟩ := R13.bag
        by_cases e : l = p
        · exfalso
          have el : l0 = l := (R13.cell l0 hL0).eq q1
          rw [el, e, np] at hl0
          cases hl0
        · exact ⟨x, y, z, l, cs, by rw [upd_ne npb.symm]; exact q1, by rw [upd_ne e]; exact q2, q3, q4⟩
    · rw [upd_same]
    · rcases List.mem_append.mp h with h | h
      · rcases List.mem_append.mp h with h | h
        · exact hz z (List.mem_of_mem_take h)
        · rw [List.mem_singleton.mp h]
          exact List.mem_of_getElem? hx
      · exact hz z (List.mem_of_mem_drop h)
    · rw [List.length_append, List.length_append, List.length_take, List.length_drop, List.length_singleton]
      omega
  · obtain ⟨o, zs, rfl, R, hp, hz, hzl⟩ := h
    exact ⟨_, rfl, k p _ zs R hp hz hzl⟩
/-- a multiple of one by 1407000, not too great -/
def Gr (m : Nat) (q : Rat) : Prop := ∃ N : Int, q * 1407000 = (N : Rat) ∧ 0 ≤ N ∧ N ≤ (m : Int) * 1407000000000000000
theorem Gr.mono {m n : Nat} {q : Rat} (h : Gr m q) (k : m ≤ n) : Gr n q := by
  obtain ⟨N, e, h1, h2⟩ := h
  refine ⟨N, e, h1, Int.le_trans h2 (Int.mul_le_mul_of_nonneg_right (by omega) (by decide))⟩
theorem Gr.add {m n : Nat} {p q : Rat} (h : Gr m p) (k : Gr n q) : Gr (m + n) (p + q) := by
  obtain ⟨N, e, h1, h2⟩ := h
  obtain ⟨M, f, k1, k2⟩ := k
  refine ⟨N + M, ?_, by omega, ?_⟩
  · rw [Rat.intCast_add, ← e, ← f]
    grind
  · rw [show ((m + n : Nat) : Int) = (m : Int) + (n : Int) from Int.natCast_add m n, Int.add_mul]
    omega
theorem Gr.zero : Gr 0 0 := ⟨0, by
  have : ((0 : Int) : Rat) = 0 := rfl
  grind, by decide, by decide⟩
theorem Gr.nn {m : Nat} {q : Rat} (h : Gr m q) : 0 ≤ q := by
  obtain ⟨N, e, h1, h2⟩ := h
  have h1 : (0 : Rat) ≤ (N : Rat) := by exact_mod_cast h1
  grind
theorem Gr.rb {m : Nat} {q : Rat} (h : Gr m q) (hm : m ≤ 5) : Rb 63 21 q := by
  obtain ⟨N, e, h1, h2⟩ := h
  refine Rb.of (N := N) (D := 1407000) (by decide) e ?_ (by decide)
  have : (m : Int) * 1407000000000000000 ≤ 5 * 1407000000000000000 := Int.mul_le_mul_of_nonneg_right (by omega) (by decide)
  omega
theorem gr_num {n m : Int} (h : NumQ n m) : Gr 1 (vf (n, m)) ∧ 0 < vf (n, m) ∧ rF (vf (n, m)) = (n, m) := by
  obtain ⟨h1, h2, h3, h4, h5⟩ := h
  have hf : Fr n m := ⟨by omega, gI_cp.mp h5⟩
  obtain ⟨k, hk⟩ := Int.dvd_of_emod_eq_zero h4
  have mne : (m : Rat) ≠ 0 := by exact_mod_cast (show m ≠ 0 by omega)
  have kp : 0 < k := by
    refine Int.not_le.mp fun z => ?_
    have : m * k ≤ 0 := Int.mul_nonpos_of_nonneg_of_nonpos (by omega) z
    omega
  have kl : k ≤ 1407000 := by
    have : 1 * k ≤ m * k := Int.mul_le_mul_of_nonneg_right h3 (by omega)
    omega
  have e : vf (n, m) * 1407000 = ((n * k : Int) : Rat) := by
    have e1 : ((1407000 : Int) : Rat) = ((m * k : Int) : Rat) := congrArg (fun z : Int => (z : Rat)) hk
    have e2 : ((1407000 : Int) : Rat) = 1407000 := rfl
    rw [e2] at e1
    rw [e1]
    unfold vf
    simp only [Rat.intCast_mul]
    grind
  refine ⟨⟨n * k, e, Int.mul_nonneg (by omega) (by omega), ?_⟩, ?_, rF_vf hf⟩
  · exact Int.le_trans (Int.mul_le_mul h2 kl (by omega) (by decide)) (by decide)
  · have : (0 : Rat) < ((n * k : Int) : Rat) := by exact_mod_cast Int.mul_pos (by omega) kp
    grind
theorem asc_snoc {p q : Pt} (h1 : p.1 < q.1) (h2 : p.2 ≤ q.2) : ∀ {ps : List Pt}, MC.Asc (ps ++ [p]) → MC.Asc (ps ++ [p] ++ [q])
  | [], _ => ⟨h1, h2, trivial⟩
  | [a], h => ⟨h.1, h.2.1, h1, h2, trivial⟩
  | a :: b :: r, h => ⟨h.1, h.2.1, asc_snoc h1 h2 (ps := b :: r) h.2.2⟩
theorem asc_sub : ∀ {ps qs : List Pt}, qs.Sublist ps → MC.Asc ps → MC.Asc qs := fun {ps qs} s h => by
  have pw : ∀ {l : List Pt}, MC.Asc l → l.Pairwise fun p q => p.1 < q.1 ∧ p.2 ≤ q.2 := fun {l} => by
    induction l with
    | nil => exact fun _ => .nil
    | cons a l ih => exact fun h => List.pairwise_cons.mpr ⟨fun b hb => asc_mem h hb, ih (asc_tail h)⟩
  have back : ∀ {l : List Pt}, (l.Pairwise fun p q => p.1 < q.1 ∧ p.2 ≤ q.2) → MC.Asc l := fun {l} => by
    induction l with
    | nil => exact fun _ => trivial
    | cons a l ih =>
      intro h
      cases l with
      | nil => trivial
      | cons b r =>
        have h := List.pairwise_cons.mp h
        exact ⟨(h.1 b List.mem_cons_self).1, (h.1 b List.mem_cons_self).2, ih h.2⟩
  exact back ((pw h).sublist s)
/-- a drawn curve -/
structure LC (c : Cv) : Prop where
  ok : c.Ok
  n : c.pts.length ≤ 5
  pt : ∀ p ∈ c.pts, Gr 4 p.1 ∧ Gr 4 p.2
  sl : Gr 1 c.slope
def spSC (K : PySem.W.Frag) : Sp := fun vs H Q _ => ∃ b : Addr, vs = [.ref b] ∧ BagAt H b ∧ ∀ v H' c, LC c → Rel b H H' → Dt K mT H' v (cvD c) → Q v H'
section
variable {P : Program} {w : World} {K : PySem.W.Frag} {mg : Str → Option Value} {base : Heap}
theorem num_q {b : Addr} {H1 : Hp} {n : Int} {Q1 : VK} {E1 : XK} (hb1 : BagAt H1 b) (h0 : 0 < n) (h1 : n ≤ 100000000) (q : ∀ v H' q, Gr 1 q → 0 < q → Rel b H1 H' → Ql K H' v q → Q1 v H') : spNumE K [.ref b, .int n] H1 Q1 E1 :=
  ⟨_, h0, h1, b, mB b, rfl, rfl, hb1, mB_ok hb1, fun v H' d hd R hv _ => by
    obtain ⟨x, y, rfl, hq⟩ := hd
    obtain ⟨g1, g2, g3⟩ := gr_num hq
    refine q v H' _ g1 g2 R ?_
    have := hv.cpl
    show Cpl K H' v (rF _).1 (rF _).2
    rw [g3]
    exact this⟩
def GrD (d : PyData) : Prop := ∃ q, d = frD q ∧ Gr 1 q
theorem grD_num {n m : Int} (h : NumQ n m) : GrD (.tuple [.int n, .int m]) := by
  obtain ⟨g1, g2, g3⟩ := gr_num h
  exact ⟨_, by unfold frD; rw [g3], g1⟩
theorem grD_nat {n : Nat} (h : n ≤ 1000) : GrD (.tuple [.int n, .int 1]) := by
  have hf : Fr (n : Int) 1 := ⟨by decide, gI_cp.mp (by unfold gI; simp)⟩
  refine ⟨vf ((n : Int), 1), by unfold frD; rw [rF_vf hf], n * 1407000, ?_, by omega, by omega⟩
  unfold vf
  simp only [Rat.intCast_mul]
  have : ((1 : Int) : Rat) = 1 := rfl
  have : ((1407000 : Int) : Rat) = 1407000 := rfl
  grind
abbrev s_law_some_curve : Stmt := topS 61
theorem sc__law_some_curve : FnScope ["bag", "level", "pay", "points", "turn"] ["bag"] (defScope s_law_some_curve) := ⟨rfl, rfl, rfl, by decide +kernel, rfl, by decide +kernel, by decide +kernel⟩
theorem ok__law_some_curve {f : Addr} {fd : FuncData} (F : Fun K "_law_some_curve" "_law_some_curve" s_law_some_curve f fd) (B : Bt mg) (c__law_take : CalG P w K mg base 1 "_law_take" spTake) (c__law_some : CalG P w K mg base 2 "_law_some" spSome) (c__law_number : CalG P w K mg base 3 "_law_number" (spNumE K))
    (c__law_added : CalG P w K mg base 3 "_law_added" (spQ2 K (· + ·))) (c__law_curve : CalG P w K mg base 4 "_law_curve" (spCurve K)) : FnG P w K mg base 5 f fd ["bag"] (spSC K) := by
  refine Fun.okG F sc__law_some_curve (fun vs H Q E h => ?_) (fun cdv A outer s H vs Q E hg hr h => ?_)
  · obtain ⟨_, rfl, _⟩ := h
    rfl
  obtain ⟨b, rfl, hb, k⟩ := h
  refine ⟨_, (pss_cons (ps_par3 (i := 1) (j := 2) (l := 3) rfl sc__law_some_curve.nd rfl rfl rfl (by decide) (by decide) (by decide) rfl rfl rfl (pa_cons (pe_tup (pa_cons pe_int (pa_cons pe_int pa_nil))) (pa_cons (pe_tup (pa_cons pe_int (pa_cons pe_int pa_nil))) (pa_cons (pe_lst (pa_cons (pe_tup (pa_cons (pe_tup (pa_cons pe_int (pa_cons pe_int pa_nil))) (pa_cons (pe_tup (pa_cons pe_int (pa_cons pe_int pa_nil))) pa_nil))) pa_nil)) pa_nil))) (by rfl))
    (pss_cons (ps_for PassesOwn.never rfl (pi_range1 (by rfl) B.range (pa_cons (pc c__law_take hg hr (by decide) (by rfl) (pa_cons (pv 0) (pa_cons pe_int pa_nil))) pa_nil)) (pg_name (i := 4) sc__law_some_curve.nd rfl (Or.inl rfl))
      (pss_cons (ps_set (i := 1) sc__law_some_curve.nd rfl (Or.inl rfl) (pc c__law_added hg hr (by decide) (by rfl) (pa_cons (pv 1) (pa_cons (pc c__law_number hg hr (by decide) (by rfl) (pa_cons (pv 0) (pa_cons pe_int pa_nil))) pa_nil))))
      (pss_cons (ps_set (i := 2) sc__law_some_curve.nd rfl (Or.inl rfl) (pc c__law_added hg hr (by decide) (by rfl) (pa_cons (pv 2) (pa_cons (pc c__law_some hg hr (by decide) (by rfl) (pa_cons (pv 0) (pa_cons (pe_lst (pa_cons (pe_tup (pa_cons pe_int (pa_cons pe_int pa_nil))) (pa_cons (pc c__law_number hg hr (by decide) (by rfl) (pa_cons (pv 0) (pa_cons pe_int pa_nil))) (pa_cons (pc c__law_number hg hr (by decide) (by rfl) (pa_cons (pv 0) (pa_cons pe_int pa_nil))) pa_nil)))) pa_nil))) pa_nil))))
      (pss_one (ps_expr (pe_bm PySem.F.plainAttrs_list PySem.F.slot_list_append PySem.F.type_list_append mt_append (pv 3) (pa_cons (pe_tup (pa_cons (pv 1) (pa_cons (pv 2) pa_nil))) pa_nil)))))))
    (pss_one (ps_ret (pc c__law_curve hg hr (by decide) (by rfl) (pa_cons (pv 3) (pa_cons (pc c__law_some hg hr (by decide) (by rfl) (pa_cons (pv 0) (pa_cons (pe_lst (pa_cons (pe_tup (pa_cons pe_int (pa_cons pe_int pa_nil))) (pa_cons (pe_tup (pa_cons pe_int (pa_cons pe_int pa_nil))) (pa_cons (pe_tup (pa_cons pe_int (pa_cons pe_int pa_nil))) (pa_cons (pc c__law_number hg hr (by decide) (by rfl) (pa_cons (pv 0) (pa_cons pe_int pa_nil))) pa_nil))))) pa_nil))) pa_nil))))))), ?_⟩
  refine ⟨sz8 (by simp), fun z1 n1 => ⟨sz8 (by simp), fun z2 n2 => ⟨sz8 (by simp), fun z3 n3 => ⟨sz8 (by simp), fun z4 n4 => ⟨sz8 (by simp), fun z5 n5 => ⟨sz8 (by simp), fun pp n6 => ⟨_, _, _, rfl, ?_⟩⟩⟩⟩⟩⟩⟩
  have s1 := same_upd (o := .tup [V.int 0, V.int 1]) n1
  have s2 := same_upd (o := .tup [V.int 0, V.int 1]) n2
  have s3 := same_upd (o := .tup [V.int 0, V.int 1]) n3
  have s4 := same_upd (o := .tup [V.int 0, V.int 1]) n4
  have s5 := same_upd (o := .tup [V.ref z3, V.ref z4]) n5
  have s6 := same_upd (o := .lst [V.ref z5]) n6
  have u1 := upd_same (H := H) (a := z1) (o := .tup [V.int 0, V.int 1])
  generalize upd H z1 (.tup [V.int 0, V.int 1]) = H1 at *
  have u2 := upd_same (H := H1) (a := z2) (o := .tup [V.int 0, V.int 1])
  generalize upd H1 z2 (.tup [V.int 0, V.int 1]) = H2 at *
  have u3 := upd_same (H := H2) (a := z3) (o := .tup [V.int 0, V.int 1])
  generalize upd H2 z3 (.tup [V.int 0, V.int 1]) = H3 at *
  have u4 := upd_same (H := H3) (a := z4) (o := .tup [V.int 0, V.int 1])
  generalize upd H3 z4 (.tup [V.int 0, V.int 1]) = H4 at *
  have u5 := upd_same (H := H4) (a := z5) (o := .tup [V.ref z3, V.ref z4])
  generalize upd H4 z5 (.tup [V.ref z3, V.ref z4]) = H5 at *
  have u6 := upd_same (H := H5) (a := pp) (o := .lst [V.ref z5])
  have s05 := (((s1.trans s2).trans s3).trans s4).trans s5
  have npp : H pp = none := by
    cases q : H pp with
    | none => rfl
    | some u => rw [s05 _ _ q] at n6; cases n6
  generalize upd H5 pp (.lst [V.ref z5]) = H6 at *
  have ppb : pp ≠ b := fun z => by
    obtain ⟨_, _, _, _, _, q, _⟩ := hb
    rw [z, q] at npp
    cases npp
  have s56 := s5.trans s6
  have q1 : Ql K H6 (.ref z1) 0 := ⟨z1, rfl, .inl (.inl ((((s2.trans s3).trans s4).trans s56) _ _ u1))⟩
  have q2 : Ql K H6 (.ref z2) 0 := ⟨z2, rfl, .inl (.inl (((s3.trans s4).trans s56) _ _ u2))⟩
  have q3 : Ql K H6 (.ref z3) 0 := ⟨z3, rfl, .inl (.inl ((s4.trans s56) _ _ u3))⟩
  have q4 : Ql K H6 (.ref z4) 0 := ⟨z4, rfl, .inl (.inl (s56 _ _ u4))⟩
  have R6 := Rel.of_same hb (s05.trans s6)
  refine ⟨_, rfl, b, 5, rfl, R6.bag, by decide, by decide, fun n Hn n0 n5 Rn => ⟨n, rfl, by omega, by omega, for_it (walk_range (lo := 0) (n := n.toNat)) (fun i σ H' => ∃ vl vp o4 us ps q, σ = [some (.ref b), some vl, some vp, some (.ref pp), o4] ∧ Rel b H H' ∧ H' pp = some (.lst us) ∧ DtA K mT H' us ((ps ++ [q]).map ptD) ∧ Ql K H' vl q.1 ∧ Ql K H' vp q.2 ∧
    MC.Asc (ps ++ [q]) ∧ (ps ++ [q])[0]? = some (0, 0) ∧ ps.length = i ∧ ∀ p ∈ ps ++ [q], Gr i p.1 ∧ Gr i p.2)
    ⟨_, _, _, [V.ref z5], [], (0, 0), rfl, R6.trans Rn, Rn.keep _ _ ppb u6, ?_, q1.fut (Rn.fut (mu := mT) trivial R6.bag), q2.fut (Rn.fut (mu := mT) trivial R6.bag), trivial, rfl, rfl, fun p hp => by rw [List.mem_singleton.mp hp]; exact ⟨Gr.zero, Gr.zero⟩⟩ (fun i σ H' _ h => trivial) (fun i x σ G0 G hi h y' => ?_) fun σ G0 h => ?_⟩⟩
  · exact (DtA.cons (.tup (.inl (s6 _ _ u5)) (.cons q3.dt (.cons q4.dt .nil))) .nil : DtA K mT H6 [V.ref z5] ([((0, 0) : Pt)].map ptD)).fut (Rn.fut (mu := mT) trivial R6.bag)
  · obtain ⟨vl, vp, o4, us, ps, q, rfl, R0, e0, a0, hvl, hvp, asc, hd, pl, gr⟩ := h
    obtain ⟨rfl, hx⟩ := y'
    have hi4 : i < 4 := by omega
    obtain ⟨gq1, gq2⟩ := gr q (List.mem_append_right _ (List.mem_singleton.mpr rfl))
    refine ⟨_, rfl, _, rfl, num_q R0.bag (by decide) (by decide) fun v1 G1 r1 g1 p1 R1 h1 => ?_⟩
    have f1 := R1.fut (mu := mT) trivial R0.bag
    refine ⟨vl, v1, q.1, r1, rfl, hvl.fut f1, h1, (gq1.rb (by omega)).bq (by decide) (by decide), (g1.rb (by decide)).bq (by decide) (by decide), fun v2 G2 t2 h2 => ?_⟩
    have R02 := (R0.trans R1).same t2
    refine ⟨_, rfl, gv_some (K := K) (mu := mB b) (D := GrD) (n := 3) rfl rfl (gvA_cons rfl (gv_cpl rfl (grD_nat (n := 0) (by decide))) (gvA_cons rfl (gv_numE rfl rfl (by decide) (by decide) fun n m h => grD_num h) (gvA_cons rfl (gv_numE rfl rfl (by decide) (by decide) fun n m h => grD_num h) gvA_nil))) (by decide) (by decide) G2 (.refl R02.bag) (mB_ok R02.bag) _ fun v3 G3 d hd3 R3 hv3 _ => ?_⟩
    obtain ⟨r3, rfl, g3⟩ := hd3
    have f3 := R3.fut (mu := mT) trivial R02.bag
    refine ⟨vp, v3, q.2, r3, rfl, ((hvp.fut f1).same t2).fut f3, dt_ql hv3, (gq2.rb (by omega)).bq (by decide) (by decide), (g3.rb (by decide)).bq (by decide) (by decide), fun v4 G4 t4 h4 => ?_⟩
    have R04 := (R02.trans R3).same t4
    have e4 := t4 _ _ (R3.keep _ _ ppb (t2 _ _ (R1.keep _ _ ppb e0)))
    refine ⟨_, rfl, ty_lst e4, _, rfl, _, rfl, sz8 (by simp), fun T nT => ?_⟩
    have sT := same_upd (o := .tup [v2, v4]) nT
    have uT := upd_same (H := G4) (a := T) (o := .tup [v2, v4])
    have e5 := sT _ _ e4
    have al := a0.length
    rw [List.length_map, List.length_append, List.length_singleton] at al
    refine ⟨pp, us, .ref T, rfl, rfl, e5, small1000 (by omega), ?_⟩
    have aT : DtA K mT (upd G4 T (.tup [v2, v4])) (us ++ [.ref T]) ((ps ++ [q] ++ [(q.1 + r1, q.2 + r3)]).map ptD) := by
      rw [List.map_append]
      exact ((((a0.fut f1).fut (.of_same t2)).fut f3).fut (.of_same (t4.trans sT))).append (.cons (.tup (.inl uT) (.cons (Ql.dt (((h2.fut f3).same t4).same sT)) (.cons (Ql.dt (h4.same sT)) .nil))) .nil)
    have R05 := R04.same sT
    generalize upd G4 T (.tup [v2, v4]) = G5 at sT uT e5 aT R05
    have f6 : Fut (mD pp) G5 (upd G5 pp (.lst (us ++ [V.ref T]))) := fut_L e5
    refine ⟨v2, v4, _, us ++ [.ref T], ps ++ [q], (q.1 + r1, q.2 + r3), rfl, R05.at hb npp, upd_same, aT.fut (fut_T f6), ((((h2.fut f3).same t4).same sT)).fut (fut_T f6), (h4.same sT).fut (fut_T f6), asc_snoc (by grind) (by have := g3.nn; grind) asc, by rw [List.getElem?_append_left (by simp)]; exact hd, by rw [List.length_append]; simp [pl], fun p hp => ?_⟩
    rcases List.mem_append.mp hp with hp | hp
    · obtain ⟨c1, c2⟩ := gr p hp
      exact ⟨c1.mono (by omega), c2.mono (by omega)⟩
    · rw [List.mem_singleton.mp hp]
      exact ⟨gq1.add g1, gq2.add g3⟩
  · obtain ⟨vl, vp, o4, us, ps, q, rfl, R0, e0, a0, hvl, hvp, asc, hd, pl, gr⟩ := h
    refine ⟨_, rfl, gv_some (K := K) (mu := mB b) (D := GrD) (n := 4) rfl rfl (gvA_cons rfl (gv_cpl rfl (grD_nat (n := 0) (by decide))) (gvA_cons rfl (gv_cpl rfl (grD_nat (n := 1) (by decide))) (gvA_cons rfl (gv_cpl rfl (grD_nat (n := 2) (by decide))) (gvA_cons rfl (gv_numE rfl rfl (by decide) (by decide) fun n m h => grD_num h) gvA_nil)))) (by decide) (by decide) G0 (.refl R0.bag) (mB_ok R0.bag) _ fun v3 G3 d hd3 R3 hv3 _ => ?_⟩
    obtain ⟨sl, rfl, gs⟩ := hd3
    have f3 := R3.fut (mu := mT) trivial R0.bag
    have g4 : ∀ p ∈ ps ++ [q], Gr 4 p.1 ∧ Gr 4 p.2 := fun p hp => ⟨(gr p hp).1.mono (by omega), (gr p hp).2.mono (by omega)⟩
    refine ⟨pp, us, ps ++ [q], v3, sl, rfl, R3.keep _ _ ppb e0, a0.fut f3, dt_ql hv3, fun p hp => ⟨((g4 p hp).1.rb (by decide)).mono (by decide) (by decide), ((g4 p hp).2.rb (by decide)).mono (by decide) (by decide)⟩, asc, hd, by rw [List.length_append, List.length_singleton]; omega, fun v G5 qs s5 dc sub h0 => k v G5 ⟨qs, sl⟩ ⟨⟨asc_sub sub asc, ?_, gs.nn⟩, ?_, fun p hp => g4 p (sub.subset hp), gs⟩ ((R0.trans R3).same s5) dc⟩
    · cases qs with
      | nil => cases h0
      | cons a r =>
        cases h0
        exact ⟨r, rfl⟩
    · have := sub.length_le
      rw [List.length_append, List.length_singleton] at this
      show qs.length ≤ 5
      omega
end
end
end K33
namespace K33
open PySem PySem.Spec PyProof.Rows L2 Sw MC LamX
/-! sizes -/
theorem gr_int {q : Rat} (h : Gr 4 q) : ∃ N : Int, q * 1407000 = (N : Rat) ∧ 0 ≤ N ∧ N.natAbs < 2 ^ 63 := by
  obtain ⟨N, e, h1, h2⟩ := h
  exact ⟨N, e, h1, by omega⟩
theorem rise_frac {c : Cv} (h : LC c) {i : Nat} {p : Pt} (hp : c.pts[i]? = some p) : ∃ N M : Int, 0 < M ∧ M.natAbs < 2 ^ 63 ∧ 0 ≤ N ∧ N.natAbs < 2 ^ 63 ∧ rise c.slope c.pts i * (M : Rat) = (N : Rat) := by
  cases hq : c.pts[i + 1]? with
  | none =>
    obtain ⟨N, e, h1, h2⟩ := gr_int (h.sl.mono (by decide))
    rw [rise_last hq]
    exact ⟨N, 1407000, by decide, by decide, h1, h2, e⟩
  | some q =>
    obtain ⟨L, l1, l2, l3⟩ := gr_int (h.pt p (List.mem_of_getElem? hp)).1
    obtain ⟨L', m1, m2, m3⟩ := gr_int (h.pt q (List.mem_of_getElem? hq)).1
    obtain ⟨R, r1, r2, r3⟩ := gr_int (h.pt p (List.mem_of_getElem? hp)).2
    obtain ⟨R', t1, t2, t3⟩ := gr_int (h.pt q (List.mem_of_getElem? hq)).2
    obtain ⟨lt, le⟩ := asc_lt h.ok.asc hp hq (Nat.lt_succ_self i)
    have a1 : L < L' := by
      have : (L : Rat) < (L' : Rat) := by grind
      exact_mod_cast this
    have a2 : R ≤ R' := by
      have : (R : Rat) ≤ (R' : Rat) := by grind
      exact_mod_cast this
    rw [rise_in hp hq]
    refine ⟨R' - R, L' - L, by omega, by omega, by omega, by omega, ?_⟩
    have e1 := stp_mul lt
    rw [Rat.intCast_sub, Rat.intCast_sub, ← l1, ← m1, ← r1, ← t1]
    grind
theorem LC.cb {c : Cv} (h : LC c) : CBk 100 100 c := by
  refine ⟨fun p hp => ⟨((h.pt p hp).1.rb (by decide)).mono (by decide) (by decide), (((h.pt p hp).2).rb (by decide)).mono (by decide) (by decide)⟩, fun i => ?_⟩
  cases hp : c.pts[i]? with
  | none =>
    rw [rise_last (List.getElem?_eq_none (by have := List.getElem?_eq_none_iff.mp hp; omega))]
    exact ((h.sl.mono (by decide : 1 ≤ 4)).rb (by decide)).mono (by decide) (by decide)
  | some p =>
    obtain ⟨N, M, m1, m2, n1, n2, e⟩ := rise_frac h hp
    exact (Rb.of (a := 63) (b := 63) (N := N) (D := M) (by omega) e n2 m2).mono (by decide) (by decide)
/-- the levels that the law asks at -/
def Gx (x : Rat) : Prop := ∃ N : Int, x * 136479000 = (N : Rat) ∧ 0 ≤ N ∧ N.natAbs < 2 ^ 71
theorem Gx.nn {x : Rat} (h : Gx x) : 0 ≤ x := by
  obtain ⟨N, e, h1, _⟩ := h
  have h1 : (0 : Rat) ≤ (N : Rat) := by exact_mod_cast h1
  grind
theorem gx_gr {q : Rat} {m : Nat} (h : Gr m q) (hm : m ≤ 5) : Gx q := by
  obtain ⟨N, e, h1, h2⟩ := h
  have : (m : Int) * 1407000000000000000 ≤ 5 * 1407000000000000000 := Int.mul_le_mul_of_nonneg_right (by omega) (by decide)
  refine ⟨N * 97, ?_, by omega, by omega⟩
  rw [Rat.intCast_mul, ← e]
  have : ((97 : Int) : Rat) = 97 := rfl
  grind
theorem sub_abs {a b : Int} {x : Nat} (h : a.natAbs < 2 ^ x) (k : b.natAbs < 2 ^ x) : (a - b).natAbs < 2 ^ (x + 1) := by
  rw [Nat.pow_succ]
  omega
theorem ev_size {c : Cv} (h : LC c) {x : Rat} (hx : Gx x) : Rb 135 63 (c.ev x * 136479000) := by
  obtain ⟨i, p, hp, h1, h2⟩ := place_ex h.ok hx.nn
  obtain ⟨N, M, m1, m2, n1, n2, e⟩ := rise_frac h hp
  obtain ⟨L, l1, l2, l3⟩ := gr_int (h.pt p (List.mem_of_getElem? hp)).1
  obtain ⟨R, r1, r2, r3⟩ := gr_int (h.pt p (List.mem_of_getElem? hp)).2
  obtain ⟨X, x1, x2, x3⟩ := hx
  have hk : (X - 97 * L).natAbs < 2 ^ 71 := by
    have : 0 ≤ X - 97 * L := by
      have : (0 : Rat) ≤ ((X - 97 * L : Int) : Rat) := by
        rw [Rat.intCast_sub, Rat.intCast_mul, ← l1, ← x1]
        have : ((97 : Int) : Rat) = 97 := rfl
        grind
      exact_mod_cast this
    omega
  rw [h.ok.at hp h1 h2]
  refine Rb.of (N := 97 * (R * M) + N * (X - 97 * L)) (D := M) (by omega) ?_ ?_ m2
  · rw [Rat.intCast_add, Rat.intCast_mul, Rat.intCast_mul, Rat.intCast_mul, Rat.intCast_sub, Rat.intCast_mul, ← e, ← l1, ← r1, ← x1]
    have : ((97 : Int) : Rat) = 97 := rfl
    rw [this]
    generalize rise c.slope c.pts i = ρ
    grind
  · have a1 := natAbs_lt_mul (i := 97) (a := 7) (by decide) (natAbs_lt_mul r3 m2)
    have a2 := natAbs_lt_mul n2 hk
    omega
theorem sumE_scale (k x : Rat) : ∀ cs : List Cv, sumE cs x * k = (cs.map fun c => c.ev x * k).sum
  | [] => by
    show (0 : Rat) * k = 0
    grind
  | c :: cs => by
    rw [sumE_cons, List.map_cons, List.sum_cons, ← sumE_scale k x cs]
    grind
theorem sumE_rb {cs : List Cv} (hc : ∀ c ∈ cs, LC c) (hl : cs.length ≤ 5) {x : Rat} (hx : Gx x) : Rb 457 344 (sumE cs x) := by
  have h := sum_rb (a := 135) (b := 63) (qs := cs.map fun c => c.ev x * 136479000) fun q hq => by
    obtain ⟨c, hcs, rfl⟩ := List.mem_map.mp hq
    exact ev_size (hc c hcs) hx
  rw [← sumE_scale, List.length_map] at h
  have h2 : Rb 456 316 (sumE cs x * 136479000) := h.mono (by omega) (by omega)
  have h3 : Rb 1 28 ((1 : Rat) / 136479000) := Rb.of (N := 1) (D := 136479000) (by decide) (by
    have : ((1 : Int) : Rat) = 1 := rfl
    have : ((136479000 : Int) : Rat) = 136479000 := rfl
    grind) (by decide) (by decide)
  have e : sumE cs x = sumE cs x * 136479000 * (1 / 136479000) := by grind
  rw [e]
  exact h2.mul h3
theorem sm_of {cs : List Cv} (hc : ∀ c ∈ cs, LC c) (hl : cs.length ≤ 5) : Sm cs := by
  refine ⟨hl, fun c h => (hc c h).ok, fun c h => (hc c h).cb, fun c h => Nat.le_trans (hc c h).n (by decide), fun l h => ?_⟩
  have g : Gr 4 l := by
    rcases h with rfl | ⟨c, h, p, hp, rfl⟩
    · exact Gr.zero.mono (by decide)
    · exact ((hc c h).pt p hp).1
  have g1 : Gr 1 1 := ⟨1407000, by
    have : ((1407000 : Int) : Rat) = 1407000 := rfl
    grind, by decide, by decide⟩
  exact ⟨(g.rb (by decide)).mono (by decide) (by decide), (sumE_rb hc hl (gx_gr g (by decide))).mono (by decide) (by decide), (sumE_rb hc hl (gx_gr (g.add g1) (by decide))).mono (by decide) (by decide)⟩
theorem place_lt {c : Cv} (ok : c.Ok) {y : Rat} (y0 : 0 < y) : ∃ i p, c.pts[i]? = some p ∧ p.1 < y ∧ ∀ q, c.pts[i + 1]? = some q → y ≤ q.1 := by
  obtain ⟨i, p, hp, h1, h2⟩ := place_ex ok (x := y) (by grind)
  by_cases e : p.1 < y
  · exact ⟨i, p, hp, e, fun q hq => by have := h2 q hq; grind⟩
  · cases i with
    | zero =>
      obtain ⟨rst, er⟩ := ok.hd
      rw [er] at hp
      cases hp
      exact absurd y0 e
    | succ i =>
      have li := (List.getElem?_eq_some_iff.mp hp).1
      obtain ⟨r, hr⟩ : ∃ r, c.pts[i]? = some r := ⟨_, List.getElem?_eq_getElem (by omega)⟩
      have lt := (asc_lt ok.asc hr hp (Nat.lt_succ_self i)).1
      exact ⟨i, r, hr, by grind, fun q hq => by rw [hp] at hq; cases hq; grind⟩
theorem ev_to {c : Cv} (ok : c.Ok) {y : Rat} {i : Nat} {p : Pt} (hp : c.pts[i]? = some p) (hn : ∀ q, c.pts[i + 1]? = some q → y ≤ q.1) {x : Rat} (h1 : p.1 ≤ x) (h2 : x ≤ y) : c.ev x = p.2 + rise c.slope c.pts i * (x - p.1) := by
  by_cases h : ∀ q, c.pts[i + 1]? = some q → x < q.1
  · exact ok.at hp h1 h
  · cases hq : c.pts[i + 1]? with
    | none => exact absurd (fun q w => by rw [hq] at w; cases w) h
    | some q =>
      have e : x = q.1 := by
        have a1 := hn q hq
        have a2 : ¬ x < q.1 := fun w => h fun q' w' => by rw [hq] at w'; cases w'; exact w
        grind
      have lt := (asc_lt ok.asc hp hq (Nat.lt_succ_self i)).1
      rw [rise_in hp hq, e, (ok.pay hq).2.2, stp_mul lt]
      grind
/-- just below y the sum is a straight line -/
theorem aff_left {y : Rat} (y0 : 0 < y) : ∀ {cs : List Cv}, (∀ c ∈ cs, LC c) → ∃ (z α ρ : Rat) (Pi' I J : Int), 0 ≤ z ∧ z < y ∧ (∀ x, z ≤ x → x ≤ y → sumE cs x = α + ρ * x) ∧ 0 < Pi' ∧ Pi'.natAbs < 2 ^ (63 * cs.length + 1) ∧ α * 1407000 * (Pi' : Rat) = (I : Rat) ∧ I.natAbs < 2 ^ (127 + 64 * cs.length) ∧ ρ * (Pi' : Rat) = (J : Rat) ∧ J.natAbs < 2 ^ (64 * cs.length + 1)
  | [], _ => by
    refine ⟨0, 0, 0, 1, 0, 0, by grind, y0, fun x _ _ => ?_, by decide, by decide, ?_, by decide, ?_, by decide⟩
    · show (0 : Rat) = _
      grind
    · have : ((0 : Int) : Rat) = 0 := rfl
      grind
    · have : ((0 : Int) : Rat) = 0 := rfl
      grind
  | c :: cs, h => by
    obtain ⟨z, α, ρ, Pi', I, J, z0, zy, aff, p0, p1, i1, i2, j1, j2⟩ := aff_left y0 (cs := cs) fun d hd => h d (List.mem_cons_of_mem _ hd)
    have lc := h c List.mem_cons_self
    obtain ⟨i, p, hp, h1, h2⟩ := place_lt lc.ok y0
    obtain ⟨N, M, m1, m2, n1, n2, e⟩ := rise_frac lc hp
    obtain ⟨L, l1, l2, l3⟩ := gr_int (lc.pt p (List.mem_of_getElem? hp)).1
    obtain ⟨R, r1, r2, r3⟩ := gr_int (lc.pt p (List.mem_of_getElem? hp)).2
    have k1 : (p.2 - rise c.slope c.pts i * p.1) * 1407000 * (M : Rat) = ((R * M - N * L : Int) : Rat) := by
      rw [Rat.intCast_sub, Rat.intCast_mul, Rat.intCast_mul, ← e, ← l1, ← r1]
      generalize rise c.slope c.pts i = σ
      grind
    have k2 : (R * M - N * L).natAbs < 2 ^ 127 := sub_abs (natAbs_lt_mul r3 m2) (natAbs_lt_mul n2 l3)
    refine ⟨if z ≤ p.1 then p.1 else z, p.2 - rise c.slope c.pts i * p.1 + α, rise c.slope c.pts i + ρ, Pi' * M, (R * M - N * L) * Pi' + I * M, N * Pi' + J * M, by grind, by grind, fun x k1 k2 => ?_, Int.mul_pos p0 m1, ?_, ?_, ?_, ?_, ?_⟩
    · have k3 : p.1 ≤ x ∧ z ≤ x := by grind
      rw [sumE_cons, ev_to lc.ok hp h2 k3.1 k2, aff x k3.2 k2]
      grind
    · rw [List.length_cons]
      exact Nat.lt_of_lt_of_le (natAbs_lt_mul p1 m2) (p2 (by omega))
    · rw [Rat.intCast_add, Rat.intCast_mul (R * M - N * L), Rat.intCast_mul I, Rat.intCast_mul Pi', ← k1, ← i1]
      generalize rise c.slope c.pts i = σ
      grind
    · rw [List.length_cons]
      have a1 := Nat.lt_of_lt_of_le (natAbs_lt_mul k2 p1) (p2 (show _ ≤ 190 + 64 * cs.length by omega))
      have a2 := Nat.lt_of_lt_of_le (natAbs_lt_mul i2 m2) (p2 (show _ ≤ 190 + 64 * cs.length by omega))
      exact Nat.lt_of_lt_of_le (natAbs_lt_add a1 a2) (p2 (by omega))
    · rw [Rat.intCast_add, Rat.intCast_mul N, Rat.intCast_mul J, Rat.intCast_mul Pi', ← e, ← j1]
      generalize rise c.slope c.pts i = σ
      grind
    · rw [List.length_cons]
      have a1 := Nat.lt_of_lt_of_le (natAbs_lt_mul n2 p1) (p2 (show _ ≤ 64 + 64 * cs.length by omega))
      have a2 := Nat.lt_of_lt_of_le (natAbs_lt_mul j2 m2) (p2 (show _ ≤ 64 + 64 * cs.length by omega))
      exact Nat.lt_of_lt_of_le (natAbs_lt_add a1 a2) (p2 (by omega))
theorem rb_int {a : Nat} {N : Int} (h : N.natAbs < 2 ^ a) : Rb a 1 (N : Rat) := Rb.of (N := N) (D := 1) (by decide) (by
  have : ((1 : Int) : Rat) = 1 := rfl
  grind) h (by decide)
/-- the least level is not too great -/
theorem lst_rb {cs : List Cv} (hc : ∀ c ∈ cs, LC c) (hl : cs.length ≤ 5) {A y : Rat} (bA : Rb 480 380 A) (h : Lst (sumE cs) A (some y)) : Rb 830 724 y := by
  obtain ⟨h0, h1, h2⟩ := h
  by_cases z : y = 0
  · rw [z]
    exact rb_zero.mono (by decide) (by decide)
  · have y0 : 0 < y := by grind
    obtain ⟨z, α, ρ, Pi', I, J, z0, zy, aff, p0, p1, i1, i2, j1, j2⟩ := aff_left y0 hc
    have e1 := aff y (by grind) (by grind)
    have e2 := aff z (by grind) (by grind)
    have e3 := h2 z z0 zy
    have ρ0 : ρ ≠ 0 := fun w => by
      rw [w] at e1 e2
      grind
    have Pi'0 : (Pi' : Rat) ≠ 0 := by exact_mod_cast (show Pi' ≠ 0 by omega)
    have J0 : (J : Rat) ≠ 0 := fun w => by
      rw [w] at j1
      rcases Rat.mul_eq_zero.mp j1 with q | q
      · exact ρ0 q
      · exact Pi'0 q
    have q1 : Pi'.natAbs < 2 ^ 316 := Nat.lt_of_lt_of_le p1 (p2 (by omega))
    have q2 : I.natAbs < 2 ^ 447 := Nat.lt_of_lt_of_le i2 (p2 (by omega))
    have q3 : J.natAbs < 2 ^ 321 := Nat.lt_of_lt_of_le j2 (p2 (by omega))
    have b1 : Rb 337 1 ((1407000 * Pi' : Int) : Rat) := rb_int (natAbs_lt_mul (i := 1407000) (a := 21) (by decide) q1)
    have b2 : Rb 342 1 ((1407000 * J : Int) : Rat) := rb_int (natAbs_lt_mul (i := 1407000) (a := 21) (by decide) q3)
    have c : ((1407000 : Int) : Rat) = 1407000 := rfl
    have n2 : ((1407000 * J : Int) : Rat) ≠ 0 := by
      rw [Rat.intCast_mul, c]
      grind
    have e4 : y = (A * ((1407000 * Pi' : Int) : Rat) - (I : Rat)) / ((1407000 * J : Int) : Rat) := by
      rw [Rat.intCast_mul, Rat.intCast_mul, c, ← i1, ← j1]
      rw [Rat.intCast_mul, c, ← j1] at n2
      have e5 : A = α + ρ * y := by grind
      rw [e5]
      grind
    rw [e4]
    exact (((bA.mul b1).sub (rb_int q2) (c := 829) (by decide) (by decide)).div b2 n2).mono (by decide) (by decide)
/-- what is paid there is not too great -/
theorem ev_lev {c : Cv} (h : LC c) {y : Rat} (y0 : 0 ≤ y) (b : Rb 830 724 y) : Rb 937 829 (c.ev y) := by
  obtain ⟨i, p, hp, h1, h2⟩ := place_ex h.ok y0
  obtain ⟨N, M, m1, m2, n1, n2, e⟩ := rise_frac h hp
  have c2 : Rb 63 63 (rise c.slope c.pts i) := Rb.of (N := N) (D := M) (by omega) e n2 m2
  rw [h.ok.at hp h1 h2]
  have g1 := (h.pt p (List.mem_of_getElem? hp)).1.rb (by decide)
  have g2 := (h.pt p (List.mem_of_getElem? hp)).2.rb (by decide)
  have d := b.sub g1 (c := 852) (by decide) (by decide)
  exact (g2.add (c2.mul d) (c := 937) (by decide) (by decide)).mono (by decide) (by decide)
end K33
namespace K33
open PySem PySem.Spec PyProof.Rows L2 Sw MC LamX
/-! the curves and amounts of a turn -/
def spSCs (K : PySem.W.Frag) : Sp := fun vs H Q _ => ∃ b : Addr, vs = [.ref b, .int 4] ∧ BagAt H b ∧ ∀ a H' xs (cs : List Cv), Rel b H H' → a ≠ b → H' a = some (.lst xs) → DtA K mT H' xs (cs.map cvD) → cs.length ≤ 5 → (∀ c ∈ cs, LC c) → Q (.ref a) H'
def spAms (K : PySem.W.Frag) : Sp := fun vs H Q _ => ∃ (b a : Addr) (xs : List V) (cs : List Cv), vs = [.ref b, .ref a] ∧ BagAt H b ∧ a ≠ b ∧ H a = some (.lst xs) ∧ DtA K mT H xs (cs.map cvD) ∧ cs.length ≤ 5 ∧ (∀ c ∈ cs, LC c) ∧
  ∀ p H' ys, Rel b H H' → p ≠ b → H' p = some (.lst ys) → (∀ v ∈ ys, ∃ q, Ql K H' v q ∧ 0 ≤ q ∧ Rb 480 380 q) → ys.length ≤ 100 → Q (.ref p) H'
theorem not_bag {H : Hp} {b a : Addr} (hb : BagAt H b) (n : H a = none) : a ≠ b := fun z => by
  obtain ⟨_, _, _, _, _, q, _⟩ := hb
  rw [z, q] at n
  cases n
theorem fT {b : Addr} {H H' : Hp} (R : Rel b H H') (hb : BagAt H b) : Fut mT H H' := R.fut (mu := mT) trivial hb
theorem cut_take (xs : List V) (n : Nat) : cutV xs none (some (n : Int)) = xs.take n := by
  unfold cutV
  rw [HT.sIx_none, HT.sIx_nat, List.drop_zero, Nat.sub_zero]
  by_cases h : n ≤ xs.length
  · rw [Nat.min_eq_left h]
  · rw [Nat.min_eq_right (by omega), List.take_of_length_le (Nat.le_refl _), List.take_of_length_le (by omega)]
/-- a good amount -/
def Am (K : PySem.W.Frag) (H : Hp) (v : V) : Prop := ∃ q, Ql K H v q ∧ 0 ≤ q ∧ Rb 480 380 q
theorem Am.fut {K : PySem.W.Frag} {H H' : Hp} {v : V} (h : Am K H v) (f : Fut mT H H') : Am K H' v := let ⟨q, h1, h2⟩ := h; ⟨q, Ql.fut h1 f, h2⟩
/-- a little more -/
def Nr (q : Rat) : Prop := ∃ N : Int, q * 136479000 = (N : Rat) ∧ 0 ≤ N ∧ N ≤ 136479000
def NrD (d : PyData) : Prop := ∃ q, d = frD q ∧ Nr q
theorem nrD {m N : Int} (h : Fr 1 m) (e : 136479000 = N * m) : NrD (.tuple [.int 1, .int m]) := by
  have hm := h.pos
  have e2 : rF (vf (1, m)) = (1, m) := rF_vf h
  have np : 0 < N := by
    refine Int.not_le.mp fun z => ?_
    have := Int.mul_nonneg (Int.neg_nonneg_of_nonpos z) (Int.le_of_lt hm)
    rw [Int.neg_mul] at this
    omega
  have nl : N ≤ 136479000 := by
    have : N * 1 ≤ N * m := Int.mul_le_mul_of_nonneg_left (by omega) (by omega)
    omega
  refine ⟨vf (1, m), by unfold frD; rw [e2], N, ?_, by omega, nl⟩
  have e3 : ((136479000 : Int) : Rat) = ((N * m : Int) : Rat) := congrArg (fun z : Int => (z : Rat)) e
  have e4 : ((136479000 : Int) : Rat) = 136479000 := rfl
  rw [e4, Rat.intCast_mul] at e3
  have mne : (m : Rat) ≠ 0 := by exact_mod_cast (show m ≠ 0 by omega)
  have e5 : ((1 : Int) : Rat) = 1 := rfl
  unfold vf
  rw [e5]
  grind
theorem Nr.rb {q : Rat} (h : Nr q) : Rb 28 28 q := by
  obtain ⟨N, e, h1, h2⟩ := h
  exact Rb.of (N := N) (D := 136479000) (by decide) e (by omega) (by decide)
theorem Nr.nn {q : Rat} (h : Nr q) : 0 ≤ q := by
  obtain ⟨N, e, h1, _⟩ := h
  have h1 : (0 : Rat) ≤ (N : Rat) := by exact_mod_cast h1
  grind
theorem gx_nr {l q : Rat} (h : Gr 4 l) (k : Nr q) : Gx (l + q) := by
  obtain ⟨N, e, h1, h2⟩ := h
  obtain ⟨M, f, k1, k2⟩ := k
  refine ⟨N * 97 + M, ?_, by omega, by omega⟩
  rw [Rat.intCast_add, Rat.intCast_mul, ← e, ← f]
  have : ((97 : Int) : Rat) = 97 := rfl
  grind
theorem rb_thou : rF (vf (1, 1000)) = (1, 1000) ∧ Rb 1 10 (vf (1, 1000)) ∧ 0 ≤ vf (1, 1000) := by
  have hf : Fr 1 1000 := ⟨by decide, gI_cp.mp (by decide)⟩
  have e : vf (1, 1000) * 1000 = 1 := by
    unfold vf
    have e1 : ((1 : Int) : Rat) = 1 := rfl
    have e2 : ((1000 : Int) : Rat) = 1000 := rfl
    rw [e1, e2]
    grind
  refine ⟨rF_vf hf, Rb.of (N := 1) (D := 1000) (by decide) (by
    have e1 : ((1 : Int) : Rat) = 1 := rfl
    have e2 : ((1000 : Int) : Rat) = 1000 := rfl
    rw [e1, e2]
    exact e) (by decide) (by decide), by grind⟩
section
variable {P : Program} {w : World} {K : PySem.W.Frag} {mg : Str → Option Value} {base : Heap}
abbrev s_law_some_curves : Stmt := topS 62
theorem sc__law_some_curves : FnScope ["bag", "most", "found", "turn"] ["bag", "most"] (defScope s_law_some_curves) := ⟨rfl, rfl, rfl, by decide +kernel, rfl, by decide +kernel, by decide +kernel⟩
theorem ok__law_some_curves {f : Addr} {fd : FuncData} (F : Fun K "_law_some_curves" "_law_some_curves" s_law_some_curves f fd) (B : Bt mg) (c__law_take : CalG P w K mg base 1 "_law_take" spTake) (c__law_some_curve : CalG P w K mg base 5 "_law_some_curve" (spSC K)) : FnG P w K mg base 6 f fd ["bag", "most"] (spSCs K) := by
  refine Fun.okG F sc__law_some_curves (fun vs H Q E h => ?_) (fun cdv A outer s H vs Q E hg hr h => ?_)
  · obtain ⟨_, rfl, _⟩ := h
    rfl
  obtain ⟨b, rfl, hb, k⟩ := h
  refine ⟨_, (pss_cons (ps_setLc (i := 2) (own := [("turn", 3)]) rfl sc__law_some_curves.nd rfl rfl (sw_true rfl rfl rfl (by decide +kernel)) (pi_range1 (by rfl) B.range (pa_cons (pc c__law_take hg hr (by decide) (by rfl) (pa_cons (pv 0) (pa_cons (pe_op op_add (pv 1) pe_int) pa_nil))) pa_nil)) (blkOk_by (own := [("turn", 3)]) (N := ["bag", "most", "found", "turn"]) (sc := (defScope s_law_some_curves)) (by decide +kernel)) (fun _ _ _ _ _ => (pg_name (i := 3) sc__law_some_curves.nd rfl (Or.inl rfl))) (fun _ _ _ _ _ => pts_nil) (fun _ _ _ _ _ => (pc c__law_some_curve hg hr (by decide) (by rfl) (pa_cons (pv 0) pa_nil))))
    (pss_one (ps_ret (pe_ifExp (pt_cmpR op_eq (pc c__law_take hg hr (by decide) (by rfl) (pa_cons (pv 0) (pa_cons pe_int pa_nil))) pe_int (nomark _)) (pe_op op_cat (pv 2) (pe_slice sl_list (pv 2) po_none (po_some pe_int))) (pv 2))))), ?_⟩
  refine ⟨_, rfl, _, rfl, _, _, rfl, rfl, b, 4 + 1, rfl, hb, by decide, by decide, fun n Hn n0 n5 Rn => ⟨n, rfl, by omega, by omega, fun D nD => ?_⟩⟩
  have nHD := Rn.some nD
  have nDb := not_bag hb nHD
  refine lc_it (walk_range (lo := 0) (n := n.toNat)) (fun i H' => Rel b H H' ∧ ∃ xs cs, H' D = some (.lst xs) ∧ DtA K mT H' xs (cs.map cvD) ∧ cs.length = i ∧ ∀ c ∈ cs, LC c) ⟨Rn.same (same_upd nD), [], [], upd_same, .nil, rfl, fun c h => nomatch h⟩ (fun _ _ _ _ => trivial) ?_ ?_
  · rintro i x H1 H2 hi ⟨R1, xs, cs, e1, a1, l1, c1⟩ ⟨rfl, _⟩
    refine ⟨rfl, _, rfl, b, rfl, R1.bag, fun v H3 c lc R3 dv => ?_⟩
    have e3 := R3.keep _ _ nDb e1
    have xl := a1.length
    rw [List.length_map] at xl
    refine ⟨xs, e3, small1000 (by omega), (R1.trans R3).at hb nHD, xs ++ [v], cs ++ [c], upd_same, ?_, by rw [List.length_append, l1]; rfl, fun d hd => ?_⟩
    · rw [List.map_append]
      exact dtA_at ((a1.fut (fT R3 R1.bag)).append (.cons dv .nil)) e3
    · rcases List.mem_append.mp hd with hd | hd
      · exact c1 d hd
      · rw [List.mem_singleton.mp hd]
        exact lc
  · rintro H1 ⟨R1, xs, cs, e1, a1, l1, c1⟩
    refine ⟨_, rfl, b, 5, rfl, R1.bag, by decide, by decide, fun t H2 t0 t5 R2 => ⟨rfl, _, rfl, iteEq (fun e => ?_) fun e => ?_⟩⟩
    · have e2 := R2.keep _ _ nDb e1
      refine ⟨_, rfl, _, rfl, _, rfl, D, xs, rfl, .inl (.inl e2), fun p np => ?_⟩
      rw [show cutV xs none (some 1) = xs.take 1 from cut_take xs 1]
      have sp := same_upd (o := .lst (xs.take 1)) np
      have xl := a1.length
      rw [List.length_map] at xl
      refine ⟨D, p, xs, xs.take 1, rfl, rfl, sp _ _ e2, upd_same, by have := sizeLine_eq; rw [List.length_take]; omega, fun L nL => ?_⟩
      have sL := same_upd (o := .lst (xs ++ xs.take 1)) nL
      have a2 := (a1.fut (fT R2 R1.bag)).fut (.of_same (sp.trans sL))
      have R4 := (R1.trans R2).same (sp.trans sL)
      refine k L _ (xs ++ xs.take 1) (cs ++ cs.take 1) R4 (not_bag hb ?_) upd_same ?_ (by rw [List.length_append, List.length_take]; omega) fun d hd => ?_
      · exact ((R1.trans R2).same sp).some nL
      · rw [List.map_append, List.map_take]
        exact a2.append (a2.take 1)
      · rcases List.mem_append.mp hd with hd | hd
        · exact c1 d hd
        · exact c1 d (List.mem_of_mem_take hd)
    · exact ⟨_, rfl, k D _ xs cs (R1.trans R2) nDb (R2.keep _ _ nDb e1) (a1.fut (fT R2 R1.bag)) (by omega) c1⟩
abbrev s_law_some_amounts : Stmt := topS 63
theorem sc__law_some_amounts : FnScope ["bag", "curves", "found", "levels", "at", "low", "here", "near"] ["bag", "curves"] (defScope s_law_some_amounts) := ⟨rfl, rfl, rfl, by decide +kernel, rfl, by decide +kernel, by decide +kernel⟩
theorem ok__law_some_amounts {f : Addr} {fd : FuncData} (F : Fun K "_law_some_amounts" "_law_some_amounts" s_law_some_amounts f fd) (B : Bt mg) (c__law_number : CalG P w K mg base 3 "_law_number" (spNumE K)) (c__law_some : CalG P w K mg base 2 "_law_some" spSome) (c__law_mixed : CalG P w K mg base 2 "_law_mixed" spMixed)
    (c__law_corner_levels : CalG P w K mg base 3 "_law_corner_levels" (spCorn K)) (c__law_sum_at : CalG P w K mg base 5 "_law_sum_at" (spSumAt K)) (c__law_added : CalG P w K mg base 3 "_law_added" (spQ2 K (· + ·))) : FnG P w K mg base 6 f fd ["bag", "curves"] (spAms K) := by
  refine Fun.okG F sc__law_some_amounts (fun vs H Q E h => ?_) (fun cdv A outer s H vs Q E hg hr h => ?_)
  · obtain ⟨_, _, _, _, rfl, _⟩ := h
    rfl
  obtain ⟨b, a, xs, cs, rfl, hb, nab, ea, hA, hl, hc, k⟩ := h
  refine ⟨_, (pss_cons (ps_par (i := 2) (j := 3) rfl sc__law_some_amounts.nd rfl rfl (by decide) rfl rfl (pa_cons (pe_lst (pa_cons (pe_tup (pa_cons pe_int (pa_cons pe_int pa_nil))) (pa_cons (pc c__law_number hg hr (by decide) (by rfl) (pa_cons (pv 0) (pa_cons pe_int pa_nil))) pa_nil))) (pa_cons (pc c__law_corner_levels hg hr (by decide) (by rfl) (pa_cons (pv 1) pa_nil)) pa_nil)) (by rfl))
    (pss_cons (ps_for PassesOwn.never rfl (pi_enum (by rfl) B.enum (pa_cons (pe_slice sl_list (pv 3) po_none (po_some pe_int)) pa_nil)) (pg_tup (n := 2) rfl (pgs_cons (pg_name (i := 4) sc__law_some_amounts.nd rfl (Or.inl rfl)) (pgs_cons (pg_name (i := 5) sc__law_some_amounts.nd rfl (Or.inl rfl)) pgs_nil)))
      (pss_cons (ps_set (i := 6) sc__law_some_amounts.nd rfl (Or.inl rfl) (pc c__law_sum_at hg hr (by decide) (by rfl) (pa_cons (pv 1) (pa_cons (pv 5) pa_nil))))
      (pss_cons (ps_set (i := 7) sc__law_some_amounts.nd rfl (Or.inl rfl) (pc c__law_sum_at hg hr (by decide) (by rfl) (pa_cons (pv 1) (pa_cons (pc c__law_added hg hr (by decide) (by rfl) (pa_cons (pv 5) (pa_cons (pc c__law_some hg hr (by decide) (by rfl) (pa_cons (pv 0) (pa_cons (pe_lst (pa_cons (pe_tup (pa_cons pe_int (pa_cons pe_int pa_nil))) (pa_cons (pe_tup (pa_cons pe_int (pa_cons pe_int pa_nil))) (pa_cons (pe_tup (pa_cons pe_int (pa_cons pe_int pa_nil))) pa_nil)))) pa_nil))) pa_nil))) pa_nil))))
      (pss_one (ps_expr (pe_bm PySem.F.plainAttrs_list PySem.F.slot_list_extend PySem.F.type_list_extend mt_extend (pv 2) (pa_cons (pe_lst (pa_cons (pv 6) (pa_cons (pv 7) (pa_cons (pc c__law_added hg hr (by decide) (by rfl) (pa_cons (pv 6) (pa_cons (pe_tup (pa_cons pe_int (pa_cons pe_int pa_nil))) pa_nil))) pa_nil)))) pa_nil)))))))
    (pss_one (ps_ret (pc c__law_mixed hg hr (by decide) (by rfl) (pa_cons (pv 0) (pa_cons (pv 2) pa_nil))))))), ?_⟩
  have sm := sm_of hc hl
  refine ⟨sz8 (by simp), fun z nz => ?_⟩
  have sz := same_upd (o := .tup [V.int 0, V.int 1]) nz
  have uz := upd_same (H := H) (a := z) (o := .tup [V.int 0, V.int 1])
  have Rz := Rel.of_same hb sz
  generalize upd H z (.tup [V.int 0, V.int 1]) = H1 at sz uz Rz
  refine ⟨_, rfl, num_q Rz.bag (by decide) (by decide) fun v1 H2 q1 g1 p1 R1 h1 => ⟨sz8 (by simp), fun F nF => ?_⟩⟩
  have R2 := Rz.trans R1
  have nHF := R2.some nF
  have nFb := not_bag hb nHF
  have sF := same_upd (o := .lst [V.ref z, v1]) nF
  have uF := upd_same (H := H2) (a := F) (o := .lst [V.ref z, v1])
  have R3 := R2.same sF
  have g0 : ∀ v ∈ [V.ref z, v1], Am K (upd H2 F (.lst [V.ref z, v1])) v := fun v hv => by
    rcases List.mem_cons.mp hv with rfl | hv
    · refine ⟨0, ?_, by grind, rb_zero.mono (by decide) (by decide)⟩
      have : Ql K H1 (.ref z) 0 := ⟨z, rfl, .inl (.inl uz)⟩
      exact (this.fut (fT R1 Rz.bag)).same sF
    · rw [List.mem_singleton.mp hv]
      exact ⟨q1, h1.same sF, g1.nn, (g1.rb (by decide)).mono (by decide) (by decide)⟩
  generalize upd H2 F (.lst [V.ref z, v1]) = H3 at sF uF R3 g0
  refine ⟨_, rfl, a, xs, cs, rfl, .inl (.inl (R3.keep _ _ nab ea)), hA.fut (fT R3 hb), sm, fun L H4 ys ls s4 e4 a4 pw mem ml => ⟨_, _, rfl, ?_⟩⟩
  have lv : Lv cs ls := ⟨pw, mem⟩
  have nn := lv.nn sm.ok
  refine ⟨_, rfl, _, rfl, L, ys, rfl, .inl (.inl e4), fun S nS => ?_⟩
  rw [show cutV ys none (some 9) = ys.take 9 from cut_take ys 9]
  have sS := same_upd (o := .lst (ys.take 9)) nS
  have uS := upd_same (H := H4) (a := S) (o := .lst (ys.take 9))
  have s35 := s4.trans sS
  have R5 := R3.same s35
  have eF5 := s35 _ _ uF
  have SF : S ≠ F := fun w => by
    rw [w, s4 _ _ uF] at nS
    cases nS
  have Sb := not_bag R3.bag (by
    cases q : H3 S with
    | none => rfl
    | some u => rw [s4 _ _ q] at nS; cases nS)
  have a5 := a4.fut (mu := mT) (.of_same sS)
  have g5 : ∀ v ∈ [V.ref z, v1], Am K (upd H4 S (.lst (ys.take 9))) v := fun v hv => (g0 v hv).fut (.of_same s35)
  generalize upd H4 S (.lst (ys.take 9)) = H5 at sS uS s35 R5 eF5 a5 g5
  have yl := a5.length
  rw [List.length_map] at yl
  have t9 : (ys.take 9).length ≤ 9 := by rw [List.length_take]; omega
  refine ⟨S, ys.take 9, rfl, .inl (.inl uS), for_it (walk_enum (K := K) (xs := ys.take 9) (a := S)) (fun i σ H' => ∃ o4 o5 o6 o7 us, σ = [some (.ref b), some (.ref a), some (.ref F), some (.ref L), o4, o5, o6, o7] ∧ Rel b H H' ∧ H' S = some (.lst (ys.take 9)) ∧ DtA K mT H' ys (ls.map frD) ∧ H' F = some (.lst us) ∧ (∀ v ∈ us, Am K H' v) ∧ us.length ≤ 2 + 3 * i)
    ⟨_, _, _, _, [V.ref z, v1], rfl, R5, uS, a5, eF5, g5, Nat.le_refl _⟩ (fun i σ H' _ h => ?_) (fun i x σ G0 G hi h y' => ?_) fun σ G0 h => ?_⟩
  · obtain ⟨_, _, _, _, _, _, _, e, _⟩ := h
    exact .inl (.inl e)
  · obtain ⟨o4, o5, o6, o7, us, rfl, R0, eS, aY, eF, gd, ul⟩ := h
    obtain ⟨T, x2, x3, rfl, nT, rfl, k2, k3⟩ := y'
    cases k2
    have k3 : (ys.take 9)[i]? = some x3 := k3
    have hi9 : i < 9 := by have : i < (ys.take 9).length := hi; omega
    rw [List.getElem?_take, if_pos hi9] at k3
    obtain ⟨lo, hlo⟩ : ∃ lo, ls[i]? = some lo := ⟨_, List.getElem?_eq_getElem (by have := (List.getElem?_eq_some_iff.mp k3).1; omega)⟩
    have sT := same_upd (o := .tup [V.int (i : Nat), x3]) nT
    have uT := upd_same (H := G0) (a := T) (o := .tup [V.int (i : Nat), x3])
    have R6 := R0.same sT
    generalize upd G0 T (.tup [V.int (i : Nat), x3]) = G1 at sT uT R6
    obtain ⟨v, w1, dv⟩ := aY.getD (i := i) (d := frD lo) (by rw [List.getElem?_map, hlo]; rfl)
    rw [k3] at w1
    cases w1
    have hx3 := dt_ql (dt_same dv sT)
    have mlo := List.mem_of_getElem? hlo
    have glo : Gr 4 lo := by
      rcases (mem lo).mp mlo with q | ⟨c, h, p, hp, q⟩
      · rw [q]
        exact Gr.zero.mono (by decide)
      · rw [← q]
        exact ((hc c h).pt p hp).1
    have xlo := gx_gr glo (by decide)
    have S0 := sumE_zero sm.ok
    have mono := sumE_mono sm.ok
    refine ⟨T, _, rfl, .of uT, rfl, _, _, rfl, _, _, rfl, rfl, ?_⟩
    refine ⟨_, rfl, _, rfl, a, xs, cs, x3, lo, rfl, .inl (.inl (R6.keep _ _ nab ea)), hA.fut (fT R6 hb), sm, hx3, (glo.rb (by decide)).mono (by decide) (by decide), glo.nn, fun vh G2 s2 hh => ?_⟩
    have R7 := R6.same s2
    refine ⟨_, rfl, _, rfl, gv_some (K := K) (mu := mB b) (D := NrD) (n := 3) rfl rfl (gvA_cons rfl (gv_cpl rfl (nrD (N := 68239500) ⟨by decide, gI_cp.mp (by decide)⟩ (by decide))) (gvA_cons rfl (gv_cpl rfl (nrD (N := 136479000) ⟨by decide, gI_cp.mp (by decide)⟩ (by decide))) (gvA_cons rfl (gv_cpl rfl (nrD (N := 1407000) ⟨by decide, gI_cp.mp (by decide)⟩ (by decide))) gvA_nil))) (by decide) (by decide) G2 (.refl R7.bag) (mB_ok R7.bag) _ fun v3 G3 d hd3 R8 hv3 _ => ?_⟩
    obtain ⟨nr, rfl, hnr⟩ := hd3
    have f8 := fT R8 R7.bag
    have R9 := R7.trans R8
    refine ⟨x3, v3, lo, nr, rfl, (hx3.same s2).fut f8, dt_ql hv3, (glo.rb (by decide)).bq (by decide) (by decide), hnr.rb.bq (by decide) (by decide), fun v4 G4 s9 h4 => ?_⟩
    have R10 := R9.same s9
    have gx := gx_nr glo hnr
    refine ⟨a, xs, cs, v4, _, rfl, .inl (.inl (R10.keep _ _ nab ea)), hA.fut (fT R10 hb), sm, h4, ((glo.rb (by decide)).add hnr.rb (c := 92) (by decide) (by decide)).mono (by decide) (by decide), gx.nn, fun vn G5 s10 hn => ?_⟩
    have R11 := R10.same s10
    have eF11 := s10 _ _ (s9 _ _ (R8.keep _ _ nFb (s2 _ _ (sT _ _ eF))))
    have eS11 := s10 _ _ (s9 _ _ (R8.keep _ _ Sb (s2 _ _ (sT _ _ eS))))
    have f05 : Fut mT G0 G5 := ((Fut.of_same (sT.trans s2)).trans f8).trans (.of_same (s9.trans s10))
    have hh5 := ((hh.fut f8).same s9).same s10
    obtain ⟨t1, t2, t3⟩ := rb_thou
    refine ⟨_, rfl, ty_lst eF11, _, rfl, _, rfl, _, rfl, sz8 (by simp), fun T2 n2 => ?_⟩
    have sT2 := same_upd (o := .tup [V.int 1, V.int 1000]) n2
    have bh := sumE_rb hc hl xlo
    refine ⟨vh, .ref T2, _, vf (1, 1000), rfl, hh5.same sT2, ?_, bh.bq (by decide) (by decide), t2.bq (by decide) (by decide), fun v6 G6 s11 h6 => ⟨sz8 (by simp), fun M nM => ?_⟩⟩
    · show Cpl K _ _ (rF _).1 (rF _).2
      rw [t1]
      exact ⟨T2, rfl, .inl (.inl upd_same)⟩
    have sM := same_upd (o := .lst [vh, vn, v6]) nM
    have s56 := (sT2.trans s11).trans sM
    have R12 := R11.same s56
    have uM := upd_same (H := G6) (a := M) (o := .lst [vh, vn, v6])
    have eF12 := s56 _ _ eF11
    have hlist : ∀ v ∈ [vh, vn, v6], Am K (upd G6 M (.lst [vh, vn, v6])) v := fun v hv => by
      have n1 : 0 ≤ sumE cs lo := by
        have := mono 0 lo (by grind) glo.nn
        grind
      have n2 : 0 ≤ sumE cs (lo + nr) := by
        have := mono 0 (lo + nr) (by grind) gx.nn
        grind
      simp only [List.mem_cons, List.not_mem_nil, or_false] at hv
      rcases hv with rfl | rfl | rfl
      · exact ⟨_, hh5.same s56, n1, bh.mono (by decide) (by decide)⟩
      · exact ⟨_, hn.same s56, n2, (sumE_rb hc hl gx).mono (by decide) (by decide)⟩
      · exact ⟨_, h6.same sM, by grind, (bh.add t2 (c := 468) (by decide) (by decide)).mono (by decide) (by decide)⟩
    have gd12 : ∀ v ∈ us, Am K (upd G6 M (.lst [vh, vn, v6])) v := fun v hv => ((gd v hv).fut f05).fut (.of_same s56)
    have eS12 := s56 _ _ eS11
    have aY12 := (aY.fut f05).fut (mu := mT) (.of_same s56)
    generalize upd G6 M (.lst [vh, vn, v6]) = G7 at sM s56 R12 uM eF12 hlist gd12 eS12 aY12
    refine ⟨F, M, us, _, rfl, rfl, eF12, uM, by have := sizeLine_eq; simp only [List.length_cons, List.length_nil]; omega, ?_⟩
    have fF : Fut mT G7 (upd G7 F (.lst (us ++ [vh, vn, v6]))) := fut_T (fut_L eF12)
    refine ⟨_, _, _, _, us ++ [vh, vn, v6], rfl, R12.at hb nHF, by rw [upd_ne SF]; exact eS12, aY12.fut fF, upd_same, fun v hv => ?_, by simp only [List.length_append, List.length_cons, List.length_nil]; omega⟩
    rcases List.mem_append.mp hv with hv | hv
    · exact (gd12 v hv).fut fF
    · exact (hlist v hv).fut fF
  · obtain ⟨o4, o5, o6, o7, us, rfl, R0, eS, aY, eF, gd, ul⟩ := h
    refine ⟨_, rfl, _, rfl, b, F, us, rfl, R0.bag, nFb, eF, by omega, fun p H' zs R ep hz hzl => k p H' zs (R0.trans R) ?_ ep (fun v hv => (gd v (hz v hv)).fut (fT R R0.bag)) (by omega)⟩
    intro w
    obtain ⟨_, _, _, _, _, q, _⟩ := (R0.trans R).bag
    rw [w, q] at ep
    cases ep
    obtain ⟨_, ⟨_, e, _⟩, _⟩ := gd _ (hz _ List.mem_cons_self)
    cases e
end
end K33
namespace K33
open PySem PySem.Spec PyProof.Rows L2 Sw MC LamX
/-! the slope just below a level -/
/-- q is the slope of c just below x -/
def Ls (c : Cv) (x q : Rat) : Prop := (x = 0 ∧ q = 0) ∨ ∃ i p, c.pts[i]? = some p ∧ p.1 < x ∧ (∀ r, c.pts[i + 1]? = some r → x ≤ r.1) ∧ q = rise c.slope c.pts i
def spRose (K : PySem.W.Frag) : Sp := fun vs H Q _ => ∃ (v y : V) (c : Cv) (x : Rat), vs = [v, y] ∧ Dt K mT H v (cvD c) ∧ Ql K H y x ∧ c.Ok ∧ CB c ∧ Rb 1700 1700 x ∧ 0 ≤ x ∧ c.pts.length ≤ 1000 ∧ ∀ v H' q, Same H H' → Ls c x q → Ql K H' v q → Q v H'
section
variable {P : Program} {w : World} {K : PySem.W.Frag} {mg : Str → Option Value} {base : Heap}
abbrev srose_to : Stmt := topS 20
theorem sc_rose_to : FnScope ["curve", "level", "place"] ["curve", "level"] (defScope srose_to) := ⟨rfl, rfl, rfl, by decide +kernel, rfl, by decide +kernel, by decide +kernel⟩
theorem ok_rose_to {f z : Addr} {fd : FuncData} (F : Fun K "rose_to" "rose_to" srose_to f fd) (B : Bt mg) (TZ : ∃ u, mg "ZERO" = some u ∧ RelV (.ref z) u) (KZ : KTup K z [.int 0, .int 1]) (c_place_at : CalG P w K mg base 5 "place_at" (spPlace K)) (c_rise_behind : CalG P w K mg base 4 "rise_behind" (spRise K)) : FnG P w K mg base 6 f fd ["curve", "level"] (spRose K) := by
  refine Fun.okG F sc_rose_to (fun vs H Q E h => ?_) (fun cdv A outer s H vs Q E hg hr h => ?_)
  · obtain ⟨_, _, _, _, rfl, _⟩ := h
    rfl
  obtain ⟨v, y, c, x, rfl, hv, hy, ok, cb, bx, x0, hl, k⟩ := h
  have hu := Room.u64 hr
  obtain ⟨uz, mz, rz⟩ := TZ
  refine ⟨_, (pss_cons (ps_if (pt_cmpR (op_eqW hu) (pv 1) (pe_glob (v := .ref z) (by rfl) mz rz) (nomark _))
      (pss_one (ps_ret (pe_glob (v := .ref z) (by rfl) mz rz)))
      pss_nil)
    (pss_cons (ps_set (i := 2) sc_rose_to.nd rfl (Or.inl rfl) (pc c_place_at hg hr (by decide) (by rfl) (pa_cons (pv 0) (pa_cons (pv 1) pa_nil))))
    (C8.pss_cut (ps_if (pt_cmpR (op_eqW hu) (pe_ix ix_tup (pe_ix ix_tup (pe_ix ix_tup (pv 0) pe_int (fun _ _ => rfl)) (pv 2) (fun _ _ => rfl)) pe_int (fun _ _ => rfl)) (pv 1) (nomark _))
      (pss_one (ps_aug (i := 2) sc_rose_to.nd rfl (Or.inl rfl) pe_int ip_sub))
      pss_nil)
    (pss_one (ps_ret (pc c_rise_behind hg hr (by decide) (by rfl) (pa_cons (pv 0) (pa_cons (pv 2) pa_nil)))))))), ?_⟩
  have hz : ∀ H, Ql K H (.ref z) 0 := fun H => ql_zero KZ
  refine ⟨_, rfl, ⟨mT, frD x, frD 0, hy.dt, (hz H).dt, fr_shaped _, fr_shaped _, _, rfl, ?_⟩⟩
  rw [eqv_fr]
  refine iteP (fun e => ?_) fun e => ?_
  · exact k _ H 0 (.refl H) (.inl ⟨e, rfl⟩) (hz H)
  · have xp : 0 < x := by grind
    refine ⟨_, rfl, _, rfl, v, y, c, x, rfl, hv, hy, ok, cb.wide, bx, x0, hl, fun H1 i p s1 hp h1 h2 => ?_⟩
    refine ⟨fun σ H' => ∃ (j : Nat) (r : Pt), σ = [some v, some y, some (.int j)] ∧ Same H1 H' ∧ c.pts[j]? = some r ∧ r.1 < x ∧ ∀ q, c.pts[j + 1]? = some q → x ≤ q.1, ?_, ?_⟩
    · obtain ⟨a, b, xs, u, rfl, ha, hb, hA, hsl⟩ := cv_at (dt_same hv s1)
      obtain ⟨v1, g1, d1⟩ := pts_get hA hp
      obtain ⟨d, u1, u2, rfl, hd, q1, q2⟩ := pt_at d1
      refine ⟨_, rfl, a, _, 0, .ref b, rfl, rfl, ha, atI_nat (j := 0) rfl, _, rfl, b, xs, (i : Int), .ref d, rfl, rfl, hb, atI_nat (j := i) g1, d, _, 0, u1, rfl, rfl, hd, atI_nat (j := 0) rfl, _, rfl, ⟨mT, frD p.1, frD x, q1.dt, (hy.same s1).dt, fr_shaped _, fr_shaped _, _, rfl, ?_⟩⟩
      rw [eqv_fr]
      refine iteP (fun e2 => ?_) fun e2 => ?_
      · cases i with
        | zero =>
          obtain ⟨rst, er⟩ := ok.hd
          rw [er] at hp
          cases hp
          exact absurd e2.symm e
        | succ i =>
          have li := (List.getElem?_eq_some_iff.mp hp).1
          obtain ⟨r, hr'⟩ : ∃ r, c.pts[i]? = some r := ⟨_, List.getElem?_eq_getElem (by omega)⟩
          have lt := (asc_lt ok.asc hr' hp (Nat.lt_succ_self i)).1
          refine ⟨_, rfl, _, _, rfl, rfl, i, r, ?_, .refl _, hr', by grind, fun q hq => by rw [hp] at hq; cases hq; grind⟩
          show [some (V.ref a), some y, some (V.int (((i + 1 : Nat) : Int) - 1))] = _
          rw [show ((i + 1 : Nat) : Int) - 1 = (i : Int) by omega]
      · exact ⟨i, p, rfl, .refl _, hp, by grind, fun q hq => by have := h2 q hq; grind⟩
    · rintro σ H2 ⟨j, r, rfl, s2, hr', lt, nx⟩
      have lj := (List.getElem?_eq_some_iff.mp hr').1
      refine ⟨_, rfl, _, rfl, v, c, j, rfl, dt_same hv (s1.trans s2), ok, cb.wide, lj, hl, fun v3 H3 s3 h3 => k v3 H3 _ ((s1.trans s2).trans s3) (.inr ⟨j, r, hr', lt, nx, rfl⟩) h3⟩
end
end K33
namespace K33
open PySem PySem.Spec PyProof.Rows L2 Sw MC LamX
theorem op_neWK {X : Cx} {K : PySem.W.Frag} (hk : X.K = K) (hu : X.A.units + 64 < cLine) : OpR X (compareOp .NotEq) (rNeW K) := by
  subst hk
  exact op_neW hu
def cntL (x : Rat) (ps : List Pt) : Nat := (ps.filter fun p => decide (p.1 < x)).length
theorem cntL_take {x : Rat} {ps : List Pt} {i : Nat} {p : Pt} (h : ps[i]? = some p) : cntL x (ps.take (i + 1)) = cntL x (ps.take i) + if p.1 < x then 1 else 0 := by
  unfold cntL
  rw [take_snoc' h, List.filter_append, List.length_append]
  by_cases q : p.1 < x
  · rw [if_pos q, List.filter_cons_of_pos (by simp [q])]
    rfl
  · rw [if_neg q, List.filter_cons_of_neg (by simp [q])]
    rfl
theorem cntL_le (x : Rat) (ps : List Pt) : cntL x ps ≤ ps.length := List.length_filter_le _ _
theorem cntL_asc {x : Rat} : ∀ {ps : List Pt}, MC.Asc ps → ∀ (j : Nat) (p : Pt), ps[j]? = some p → (j < cntL x ps → p.1 < x) ∧ (cntL x ps ≤ j → x ≤ p.1)
  | [], _, _, _, h => by simp at h
  | a :: ps, asc, j, p, h => by
    by_cases q : a.1 < x
    · have e : cntL x (a :: ps) = cntL x ps + 1 := by
        unfold cntL
        rw [List.filter_cons_of_pos (by simp [q])]
        rfl
      rw [e]
      cases j with
      | zero =>
        cases h
        exact ⟨fun _ => q, fun z => by omega⟩
      | succ j =>
        obtain ⟨h1, h2⟩ := cntL_asc (x := x) (asc_tail asc) j p h
        exact ⟨fun z => h1 (by omega), fun z => h2 (by omega)⟩
    · have e : cntL x (a :: ps) = 0 := by
        unfold cntL
        rw [List.length_eq_zero_iff, List.filter_eq_nil_iff]
        intro b hb
        rcases List.mem_cons.mp hb with rfl | hb
        · simp [q]
        · have := (asc_mem asc hb).1
          have : ¬ b.1 < x := by grind
          simp [this]
      rw [e]
      refine ⟨fun z => absurd z (Nat.not_lt_zero _), fun _ => ?_⟩
      rcases List.mem_cons.mp (List.mem_of_getElem? h) with rfl | hb
      · grind
      · have := (asc_mem asc hb).1
        grind
/-- the slope of c just below x -/
def lsl (c : Cv) (x : Rat) : Rat := if x = 0 then 0 else rise c.slope c.pts (cntL x c.pts - 1)
theorem Ls.eq {c : Cv} (ok : c.Ok) {x q : Rat} (x0 : 0 ≤ x) (h : Ls c x q) : q = lsl c x := by
  unfold lsl
  rcases h with ⟨h1, h2⟩ | ⟨i, p, hp, h1, h2, h3⟩
  · rw [if_pos h1, h2]
  · have px : 0 < x := by
      obtain ⟨a, _, _⟩ := ok.pay hp
      grind
    rw [if_neg (by grind), h3]
    have li := (List.getElem?_eq_some_iff.mp hp).1
    have a1 : i < cntL x c.pts := by
      refine Nat.lt_of_not_le fun z => ?_
      have := (cntL_asc (x := x) ok.asc i p hp).2 z
      grind
    have a2 : cntL x c.pts ≤ i + 1 := by
      refine Nat.le_of_not_lt fun z => ?_
      have hl := cntL_le x c.pts
      obtain ⟨r, hr⟩ : ∃ r, c.pts[i + 1]? = some r := ⟨_, List.getElem?_eq_getElem (by omega)⟩
      have b1 := (cntL_asc (x := x) ok.asc (i + 1) r hr).1 z
      have b2 := h2 r hr
      grind
    rw [show cntL x c.pts - 1 = i by omega]
def spRoseL (K : PySem.W.Frag) : Sp := fun vs H Q _ => ∃ (v y : V) (c : Cv) (x : Rat), vs = [v, y] ∧ Dt K mT H v (cvD c) ∧ Ql K H y x ∧ c.Ok ∧ CB c ∧ Rb 1700 1700 x ∧ 0 ≤ x ∧ c.pts.length ≤ 1000 ∧ ∀ v H', Same H H' → Ql K H' v (lsl c x) → Q v H'
theorem rose_l {K : PySem.W.Frag} : ∀ vs H Q E, spRoseL K vs H Q E → spRose K vs H Q E := fun vs H Q E z => by
  obtain ⟨v, y, c, x, rfl, h1, h2, ok, h3, h4, h5, h6, k⟩ := z
  exact ⟨v, y, c, x, rfl, h1, h2, ok, h3, h4, h5, h6, fun v H' q s hq hv => k v H' s (by rw [← hq.eq ok h5]; exact hv)⟩
/-- the indexes of the curves that rise just below x -/
def risn (cs : List Cv) (x : Rat) : List Nat := (List.range cs.length).filter fun i => match cs[i]? with | some c => !decide (lsl c x = 0) | none => false
def spPart (K : PySem.W.Frag) (pt : Addr) : Sp := fun vs H Q _ => ∃ (k : Bool) (a : Addr) (xs : List V) (cs : List Cv) (y y' : V) (A A' l l' : Rat), vs = [.ref a, y, y'] ∧ SqK K H k a xs ∧ DtA K mT H xs (cs.map cvD) ∧ Sm cs ∧ (Ql K H y A ∧ Rb 600 600 A ∧ 0 ≤ A) ∧ (Ql K H y' A' ∧ Rb 600 600 A' ∧ 0 ≤ A') ∧ Tabs (tbT pt) H ∧ Lst (sumE cs) A (some l) ∧ Lst (sumE cs) A' (some l') ∧
  (Rb 1700 1700 l ∧ ∀ c ∈ cs, Rb 1400 1400 (c.ev l)) ∧ (Rb 1700 1700 l' ∧ ∀ c ∈ cs, Rb 1400 1400 (c.ev l')) ∧ ∀ v H', ExtN H H' → Tabs (tbT pt) H' → Dt K mT H' v (.tuple ((cs.map fun c => c.ev l' - c.ev l).map frD)) → Q v H'
def spLpap (K : PySem.W.Frag) (pt : Addr) : Sp := fun vs H Q _ => ∃ (a : Addr) (xs : List V) (cs : List Cv) (y : V) (A : Rat), vs = [.ref a, y] ∧ SqL K H a xs ∧ DtA K mT H xs (cs.map cvD) ∧ Sm cs ∧ Ql K H y A ∧ Rb 600 600 A ∧ 0 ≤ A ∧ Tabs (tbT pt) H ∧ (∀ l, Lst (sumE cs) A (some l) → Rb 1700 1700 l) ∧
  ∀ v H' o, ExtN H H' → Tabs (tbT pt) H' → Lst (sumE cs) A o → Dt K mT H' v (match o with | some l => .tuple [frD l, match (risn cs l)[0]? with | some i => .int ((i : Nat) : Int) | none => .none] | none => .none) → Q v H'
section
variable {P : Program} {w : World} {K : PySem.W.Frag} {mg : Str → Option Value} {base : Heap}
abbrev sparting_of : Stmt := topS 38
theorem sc_parting_of : FnScope ["curves", "one", "other", "low", "high"] ["curves", "one", "other"] (defScope sparting_of) := ⟨rfl, rfl, rfl, by decide +kernel, rfl, by decide +kernel, by decide +kernel⟩
theorem ok_parting_of {f pt : Addr} {fd : FuncData} (F : Fun K "parting_of" "parting_of" sparting_of f fd) (B : Bt mg) (c_payments : CalG P w K mg base 8 "payments" (spPmt K pt)) (c_lessened : CalG P w K mg base 2 "lessened" (spQ2 K (· - ·))) : FnG P w K mg base 9 f fd ["curves", "one", "other"] (spPart K pt) := by
  refine Fun.okG F sc_parting_of (fun vs H Q E h => ?_) (fun cdv A outer s H vs Q E hg hr h => ?_)
  · obtain ⟨_, _, _, _, _, _, _, _, _, _, rfl, _⟩ := h
    rfl
  obtain ⟨k, a, xs, cs, y, y', A1, A2, l, l', rfl, hS, hA, sm, ⟨hy, bA, A0⟩, ⟨hy', bA', A0'⟩, hT, hL, hL', ⟨bl, be⟩, ⟨bl', be'⟩, kk⟩ := h
  refine ⟨_, (pss_one (ps_ret (pe_callTy call_tuple_of (by rfl) B.tuple bb_tuple (pa_cons (pe_lc (own := [("low", 3), ("high", 4)]) rfl sc_parting_of.nd (RZ.pi_zipA (by rfl) B.zip (pa_cons (pc c_payments hg hr (by decide) (by rfl) (pa_cons (pv 0) (pa_cons (pv 1) pa_nil))) (pa_cons (pc c_payments hg hr (by decide) (by rfl) (pa_cons (pv 0) (pa_cons (pv 2) pa_nil))) pa_nil))) (blkOk_by (own := [("low", 3), ("high", 4)]) (N := ["curves", "one", "other", "low", "high"]) (sc := (defScope sparting_of)) (by decide +kernel)) (fun _ _ _ _ _ => (pg_tupK (K := K) (hK := rfl) (n := 2) rfl (pgs_cons (pg_name (i := 3) sc_parting_of.nd rfl (Or.inl rfl)) (pgs_cons (pg_name (i := 4) sc_parting_of.nd rfl (Or.inl rfl)) pgs_nil)))) (fun _ _ _ _ _ => pts_nil) (fun _ _ _ _ _ => (pc c_lessened hg hr (by decide) (by rfl) (pa_cons (pv 4) (pa_cons (pv 3) pa_nil))))) pa_nil)))), ?_⟩
  have hb1 : ∀ l2, Lst (sumE cs) A1 (some l2) → Rb 1700 1700 l2 := fun l2 h => by
    have := h.uniq hL
    cases this
    exact bl
  have hb2 : ∀ l2, Lst (sumE cs) A2 (some l2) → Rb 1700 1700 l2 := fun l2 h => by
    have := h.uniq hL'
    cases this
    exact bl'
  have l5 := sm.len
  refine ⟨_, rfl, _, rfl, k, a, xs, cs, y, A1, rfl, hS, hA, sm, hy, bA, A0, hT, hb1, fun o1 v1 H1 e1 T1 hL1 hv1 => ?_⟩
  obtain rfl := hL1.uniq hL
  have hv1 : Dt K mT H1 v1 (.tuple ((cs.map fun c => c.ev l).map frD)) := hv1
  refine ⟨_, rfl, _, rfl, k, a, xs, cs, y', A2, rfl, hS.exN e1, hA.fut (exN_fut e1), sm, hy'.fut (exN_fut e1), bA', A0', T1, hb2, fun o2 v2 H2 e2 T2 hL2 hv2 => ?_⟩
  obtain rfl := hL2.uniq hL'
  have hv2 : Dt K mT H2 v2 (.tuple ((cs.map fun c => c.ev l').map frD)) := hv2
  obtain ⟨p1, us, rfl, s1, a1⟩ := (hv1.fut (exN_fut e2)).tupAt
  obtain ⟨p2, ws, rfl, s2, a2⟩ := hv2.tupAt
  have q1 := a1.length
  have q2 := a2.length
  rw [List.length_map, List.length_map] at q1 q2
  refine ⟨p1, p2, us, ws, rfl, .inr ⟨s1, s2, fun D nD => ?_⟩⟩
  refine lc_it (walk_zipT (K := K) (a := p1) (b := p2) (xs := us) (ys := ws) (n := cs.length) (by omega)) (fun i H' => Same H2 H' ∧ ∃ zs, H' D = some (.lst zs) ∧ DtA K mT H' zs (((cs.take i).map fun c => c.ev l' - c.ev l).map frD)) ⟨same_upd nD, [], upd_same, .nil⟩ (fun i H' _ h => ⟨h.1.seqT s1, h.1.seqT s2⟩) ?_ ?_
  · rintro i x H3 H4 hi ⟨s3, zs, e3, a3⟩ ⟨T, x1, x2, rfl, nT, rfl, g1, g2⟩
    obtain ⟨c, hc⟩ : ∃ c, cs[i]? = some c := ⟨_, List.getElem?_eq_getElem hi⟩
    have mc := List.mem_of_getElem? hc
    have g1 : us[i]? = some x1 := g1
    have g2 : ws[i]? = some x2 := g2
    have sT := same_upd (o := .tup [x1, x2]) nT
    have uT := upd_same (H := H3) (a := T) (o := .tup [x1, x2])
    generalize upd H3 T (.tup [x1, x2]) = H5 at sT uT
    obtain ⟨u1, w1, d1⟩ := a1.getD (i := i) (d := frD (c.ev l)) (by rw [List.getElem?_map, List.getElem?_map, hc]; rfl)
    rw [g1] at w1
    cases w1
    obtain ⟨u2, w2, d2⟩ := a2.getD (i := i) (d := frD (c.ev l')) (by rw [List.getElem?_map, List.getElem?_map, hc]; rfl)
    rw [g2] at w2
    cases w2
    have s5 := s3.trans sT
    have l3 := a3.length
    rw [List.length_map, List.length_map, List.length_take] at l3
    refine ⟨T, _, rfl, .of uT, rfl, _, _, rfl, _, _, rfl, rfl, rfl, _, rfl, _, rfl, x2, x1, _, _, rfl, dt_ql (dt_same d2 s5), dt_ql (dt_same d1 s5), (be' c mc).bq (by decide) (by decide), (be c mc).bq (by decide) (by decide), fun v6 H6 s6 h6 => ?_⟩
    have e6 := s6 _ _ (sT _ _ e3)
    refine ⟨zs, e6, small1000 (by omega), same_at (s5.trans s6) nD, zs ++ [v6], upd_same, ?_⟩
    rw [take_snoc hc, List.map_append]
    exact dtA_at ((a3.fut (.of_same (sT.trans s6))).append (.cons h6.dt .nil)) e6
  · rintro H3 ⟨s3, zs, e3, a3⟩
    rw [List.take_of_length_le (Nat.le_refl _)] at a3
    refine ⟨D, zs, rfl, .inl ⟨.inl (.inl e3), fun T nT => ?_⟩⟩
    have sT := same_upd (o := .tup zs) nT
    exact kk _ _ ((e1.trans e2).trans (exN_same (s3.trans sT))) (tabs_same T2 (s3.trans sT)) (.tup (.inl upd_same) (a3.fut (.of_same sT)))
abbrev slevel_paper : Stmt := topS 35
theorem sc_level_paper : FnScope ["curves", "amount", "level", "rising", "index", "one"] ["curves", "amount"] (defScope slevel_paper) := ⟨rfl, rfl, rfl, by decide +kernel, rfl, by decide +kernel, by decide +kernel⟩
theorem ok_level_paper {f z pt : Addr} {fd : FuncData} (F : Fun K "level_paper" "level_paper" slevel_paper f fd) (B : Bt mg) (TZ : ∃ u, mg "ZERO" = some u ∧ RelV (.ref z) u) (KZ : KTup K z [.int 0, .int 1]) (c_level_of : CalG P w K mg base 7 "level_of" (spLof K pt)) (c_rose_to : CalG P w K mg base 6 "rose_to" (spRoseL K)) : FnG P w K mg base 8 f fd ["curves", "amount"] (spLpap K pt) := by
  refine Fun.okG F sc_level_paper (fun vs H Q E h => ?_) (fun cdv A outer s H vs Q E hg hr h => ?_)
  · obtain ⟨_, _, _, _, _, rfl, _⟩ := h
    rfl
  obtain ⟨a, xs, cs, y, A1, rfl, hS, hA, sm, hy, bA, A0, hT, hb, kk⟩ := h
  have hu := Room.u64 hr
  obtain ⟨uz, mz, rz⟩ := TZ
  refine ⟨_, (pss_cons (ps_set (i := 2) sc_level_paper.nd rfl (Or.inr rfl) (pc c_level_of hg hr (by decide) (by rfl) (pa_cons (pv 0) (pa_cons (pv 1) pa_nil))))
    (pss_cons (ps_if (pt_cmpR op_isN (pv 2) pe_non (nomark _))
      (pss_one (ps_ret pe_non))
      pss_nil)
    (pss_cons (ps_setLc (i := 3) (own := [("index", 4), ("one", 5)]) rfl sc_level_paper.nd rfl rfl (sw_true rfl rfl rfl (by decide +kernel)) (pi_enum (by rfl) B.enum (pa_cons (pv 0) pa_nil)) (blkOk_by (own := [("index", 4), ("one", 5)]) (N := ["curves", "amount", "level", "rising", "index", "one"]) (sc := (defScope slevel_paper)) (by decide +kernel)) (fun _ _ _ _ _ => (pg_tupK (K := K) (hK := rfl) (n := 2) rfl (pgs_cons (pg_name (i := 4) sc_level_paper.nd rfl (Or.inl rfl)) (pgs_cons (pg_name (i := 5) sc_level_paper.nd rfl (Or.inl rfl)) pgs_nil)))) (fun _ _ _ _ _ => (pts_one (pt_cmpR (op_neWK (K := K) rfl hu) (pc c_rose_to hg hr (by decide) (by rfl) (pa_cons (pv 5) (pa_cons (pv 2) pa_nil))) (pe_glob (v := .ref z) (by rfl) mz rz) (nomark _)))) (fun _ _ _ _ _ => (pv 4)))
    (pss_one (ps_ret (pe_tup (pa_cons (pv 2) (pa_cons (pe_ifExp (pt_truth (pv 3) (by intro _; rfl)) (pe_ix ix_list (pv 3) pe_int (fun _ _ => rfl)) pe_non) pa_nil)))))))), ?_⟩
  have hlen := hA.length
  rw [List.length_map] at hlen
  have l5 := sm.len
  have hz : ∀ H, Ql K H (.ref z) 0 := fun H => ql_zero KZ
  refine ⟨_, rfl, _, rfl, false, a, xs, cs, y, A1, rfl, sqk_l hS, hA, sm, hy, bA, A0, hT, fun o v H1 e1 T1 hL hv => ?_⟩
  cases o with
  | none =>
    have hv : v = .non := hv
    subst hv
    refine ⟨_, rfl, rfl, _, rfl, iteP (fun _ => ?_) fun w => absurd rfl w⟩
    exact kk _ _ none e1 T1 hL .non
  | some l =>
    have hv : Ql K H1 v l := hv
    obtain ⟨t, rfl, ht⟩ := id hv
    refine ⟨_, rfl, rfl, _, rfl, iteP (fun w => V.noConfusion w) fun w => ?_⟩
    have hS1 := SqL.exN hS e1
    have hA1 := hA.fut (exN_fut e1)
    refine ⟨_, rfl, a, xs, rfl, hS1, fun D nD => ?_⟩
    refine lc_it (walk_enum (K := K) (xs := xs) (a := a)) (fun i H' => Same H1 H' ∧ H' D = some (.lst (((List.range i).filter fun i => match cs[i]? with | some c => !decide (lsl c l = 0) | none => false).map fun (i : Nat) => V.int (i : Int)))) ⟨same_upd nD, upd_same⟩ (fun i H' _ h => SqL.exN hS1 (exN_same h.1)) ?_ ?_
    · rintro i x H3 H4 hi ⟨s3, e3⟩ ⟨T, x1, x2, rfl, nT, rfl, g1, g2⟩
      cases g1
      have g2 : xs[i]? = some x2 := g2
      obtain ⟨c, hc⟩ : ∃ c, cs[i]? = some c := ⟨_, List.getElem?_eq_getElem (by omega)⟩
      have mc := List.mem_of_getElem? hc
      obtain ⟨u2, w2, d2⟩ := hA1.getD (i := i) (d := cvD c) (by rw [List.getElem?_map, hc]; rfl)
      rw [g2] at w2
      cases w2
      have sT := same_upd (o := .tup [V.int (i : Nat), x2]) nT
      have uT := upd_same (H := H3) (a := T) (o := .tup [V.int (i : Nat), x2])
      generalize upd H3 T (.tup [V.int (i : Nat), x2]) = H5 at sT uT
      have s5 := s3.trans sT
      refine ⟨T, _, rfl, .of uT, rfl, _, _, rfl, _, _, rfl, rfl, rfl, _, rfl, _, rfl, x2, _, c, l, rfl, dt_same d2 s5, hv.same s5, sm.ok c mc, (sm.cb c mc).mono (by decide) (by decide), hb l hL, hL.1, Nat.le_trans (sm.n c mc) (by decide), fun v6 H6 s6 h6 => ?_⟩
      have e6 := s6 _ _ (sT _ _ e3)
      have er : (List.range (i + 1)).filter (fun i => match cs[i]? with | some c => !decide (lsl c l = 0) | none => false) = (List.range i).filter (fun i => match cs[i]? with | some c => !decide (lsl c l = 0) | none => false) ++ if lsl c l = 0 then [] else [i] := by
        rw [List.range_succ, List.filter_append]
        congr 1
        by_cases q : lsl c l = 0
        · rw [if_pos q, List.filter_cons_of_neg (by rw [hc]; simp [q])]
          rfl
        · rw [if_neg q, List.filter_cons_of_pos (by rw [hc]; simp [q])]
          rfl
      refine ⟨mT, frD _, frD 0, h6.dt, (hz H6).dt, fr_shaped _, fr_shaped _, _, rfl, ?_⟩
      rw [eqv_fr]
      have ml : ((List.range i).filter fun i => match cs[i]? with | some c => !decide (lsl c l = 0) | none => false).length ≤ 900 := Nat.le_trans (List.length_filter_le _ _) (by rw [List.length_range]; omega)
      by_cases q : lsl c l = 0
      · rw [decide_eq_true q]
        rw [if_pos q, List.append_nil] at er
        refine iteF ⟨s5.trans s6, ?_⟩
        rw [er]
        exact e6
      · rw [decide_eq_false q]
        rw [if_neg q] at er
        refine iteT ⟨_, rfl, _, e6, by rw [List.length_map]; exact small1000 (by omega), same_at (s5.trans s6) nD, ?_⟩
        rw [er, List.map_append]
        exact upd_same
    · rintro H3 ⟨s3, e3⟩
      rw [hlen] at e3
      have er : (List.range cs.length).filter (fun i => match cs[i]? with | some c => !decide (lsl c l = 0) | none => false) = risn cs l := rfl
      rw [er] at e3
      refine ⟨_, rfl, _, rfl, _, .inl ⟨_, .inl (.inl e3), rfl⟩, ?_⟩
      cases hr' : risn cs l with
      | nil =>
        refine iteF ⟨sz8 (by simp), fun R nR => ?_⟩
        have sR := same_upd (o := .tup [V.ref t, V.non]) nR
        have s13 := s3.trans sR
        refine kk _ _ (some l) (e1.trans (exN_same s13)) (tabs_same T1 s13) hL ?_
        simp only [hr']
        exact .tup (.inl upd_same) (.cons (Ql.dt (hv.same s13)) (.cons .non .nil))
      | cons i is =>
        rw [hr'] at e3
        refine iteT ⟨_, rfl, D, _, 0, .int (i : Int), rfl, rfl, .inl (.inl e3), atI_nat (j := 0) rfl, sz8 (by simp), fun R nR => ?_⟩
        have sR := same_upd (o := .tup [V.ref t, V.int (i : Int)]) nR
        have s13 := s3.trans sR
        refine kk _ _ (some l) (e1.trans (exN_same s13)) (tabs_same T1 s13) hL ?_
        simp only [hr']
        exact .tup (.inl upd_same) (.cons (Ql.dt (hv.same s13)) (.cons (.int _) .nil))
end
end K33
namespace K33
open PySem PySem.Spec PyProof.Rows L2 Sw MC LamX
theorem lsl_at {c : Cv} (ok : c.Ok) {x : Rat} (xp : 0 < x) : ∃ i p, cntL x c.pts = i + 1 ∧ c.pts[i]? = some p ∧ p.1 < x ∧ (∀ r, c.pts[i + 1]? = some r → x ≤ r.1) ∧ lsl c x = rise c.slope c.pts i := by
  obtain ⟨rst, er⟩ := ok.hd
  have hp0 : c.pts[0]? = some (0, 0) := by rw [er]; rfl
  have c0 : 0 < cntL x c.pts := by
    refine Nat.pos_of_ne_zero fun z => ?_
    have := (cntL_asc (x := x) ok.asc 0 _ hp0).2 (by omega)
    grind
  have cl := cntL_le x c.pts
  obtain ⟨i, hi⟩ : ∃ i, cntL x c.pts = i + 1 := ⟨cntL x c.pts - 1, by omega⟩
  obtain ⟨p, hp⟩ : ∃ p, c.pts[i]? = some p := ⟨_, List.getElem?_eq_getElem (by omega)⟩
  refine ⟨i, p, hi, hp, (cntL_asc (x := x) ok.asc i p hp).1 (by omega), fun r hr => (cntL_asc (x := x) ok.asc (i + 1) r hr).2 (by omega), ?_⟩
  unfold lsl
  rw [if_neg (by grind), hi]
  rfl
/-- it rises just below x, told by what it pays -/
theorem lsl_pay {c : Cv} (ok : c.Ok) {x : Rat} {i : Nat} {p : Pt} (hp : c.pts[i]? = some p) (h1 : p.1 < x) (h2 : ∀ r, c.pts[i + 1]? = some r → x ≤ r.1) : c.ev p.1 < c.ev x ↔ ¬ rise c.slope c.pts i = 0 := by
  rw [ev_to ok hp h2 (Rat.le_of_lt h1) (by grind), (ok.pay hp).2.2]
  have rn := rise_nn ok i
  generalize rise c.slope c.pts i = ρ at rn
  have d : 0 < x - p.1 := by grind
  constructor
  · intro h z
    rw [z] at h
    grind
  · intro h
    have hρ : 0 < ρ := by grind
    have := Rat.mul_pos hρ d
    grind
theorem flat_left {l : Rat} (l0 : 0 < l) : ∀ {cs : List Cv}, (∀ c ∈ cs, c.Ok) → (∀ c ∈ cs, lsl c l = 0) → ∃ z, 0 ≤ z ∧ z < l ∧ ∀ x, z ≤ x → x ≤ l → sumE cs x = sumE cs l
  | [], _, _ => ⟨0, by grind, l0, fun x _ _ => rfl⟩
  | c :: cs, ok, h => by
    obtain ⟨z, z0, zl, hz⟩ := flat_left l0 (cs := cs) (fun d hd => ok d (List.mem_cons_of_mem _ hd)) fun d hd => h d (List.mem_cons_of_mem _ hd)
    have ok1 := ok c List.mem_cons_self
    obtain ⟨i, p, _, hp, h1, h2, e⟩ := lsl_at ok1 l0
    rw [h c List.mem_cons_self] at e
    refine ⟨if z ≤ p.1 then p.1 else z, by grind, by grind, fun x k1 k2 => ?_⟩
    have k3 : p.1 ≤ x ∧ z ≤ x := by grind
    rw [sumE_cons, sumE_cons, hz x k3.2 k2, ev_to ok1 hp h2 k3.1 k2, ev_to ok1 hp h2 (Rat.le_of_lt h1) (by grind), ← e]
    grind
theorem risn_pos {cs : List Cv} (ok : ∀ c ∈ cs, c.Ok) {A l : Rat} (h : Lst (sumE cs) A (some l)) (l0 : 0 < l) : risn cs l ≠ [] := fun z => by
  have all : ∀ c ∈ cs, lsl c l = 0 := fun c hc => by
    obtain ⟨i, hi⟩ := List.mem_iff_getElem?.mp hc
    have li := (List.getElem?_eq_some_iff.mp hi).1
    have n := List.filter_eq_nil_iff.mp z i (List.mem_range.mpr li)
    simp only [hi] at n
    simpa using n
  obtain ⟨y, y0, yl, hy⟩ := flat_left l0 ok all
  have e := hy y (by grind) (by grind)
  have k := h.2.2 y y0 yl
  rw [e, h.2.1] at k
  grind
theorem risn_zero (cs : List Cv) : risn cs 0 = [] := by
  unfold risn
  rw [List.filter_eq_nil_iff]
  intro i _ z
  cases hc : cs[i]? with
  | none =>
    rw [hc] at z
    cases z
  | some c =>
    rw [hc] at z
    have : lsl c 0 = 0 := by
      unfold lsl
      rw [if_pos rfl]
    simp [this] at z
def ppD (cs : List Cv) : Option Rat → PyData
  | some l => .tuple [frD l, match (risn cs l)[0]? with | some i => .int ((i : Nat) : Int) | none => .none]
  | none => .none
def spRoseB (K : PySem.W.Frag) : Sp := fun vs H Q _ => ∃ (v y : V) (c : Cv) (x : Rat), vs = [v, y] ∧ Dt K mT H v (cvD c) ∧ Ql K H y x ∧ c.Ok ∧ CB c ∧ Rb 1700 1700 x ∧ Rb 1900 1900 (c.ev x) ∧ 0 < x ∧ c.pts.length ≤ 100 ∧ ∀ H', Same H H' → Q (.bl (!decide (lsl c x = 0))) H'
def spDueP (K : PySem.W.Frag) : Sp := fun vs H Q _ => ∃ (a : Addr) (xs : List V) (cs : List Cv) (y : V) (A : Rat), vs = [.ref a, y] ∧ SqL K H a xs ∧ DtA K mT H xs (cs.map cvD) ∧ Sm cs ∧ Ql K H y A ∧ Rb 600 600 A ∧ 0 ≤ A ∧ (∀ l, Lst (sumE cs) A (some l) → Rb 1700 1700 l ∧ ∀ c ∈ cs, Rb 1900 1900 (c.ev l)) ∧
  ∀ v H' o, Same H H' → Lst (sumE cs) A o → Dt K mT H' v (ppD cs o) → Q v H'
section
variable {P : Program} {w : World} {K : PySem.W.Frag} {mg : Str → Option Value} {base : Heap}
abbrev s_law_rose : Stmt := topS 66
theorem sc__law_rose : FnScope ["one", "level", "ahead", "corner"] ["one", "level"] (defScope s_law_rose) := ⟨rfl, rfl, rfl, by decide +kernel, rfl, by decide +kernel, by decide +kernel⟩
theorem ok__law_rose {f : Addr} {fd : FuncData} (F : Fun K "_law_rose" "_law_rose" s_law_rose f fd) (B : Bt mg) (c__law_is_below : CalG P w K mg base 1 "_law_is_below" (spQb K)) (c__law_paid_at : CalG P w K mg base 4 "_law_paid_at" (spPay K)) : FnG P w K mg base 5 f fd ["one", "level"] (spRoseB K) := by
  refine Fun.okG F sc__law_rose (fun vs H Q E h => ?_) (fun cdv A outer s H vs Q E hg hr h => ?_)
  · obtain ⟨_, _, _, _, rfl, _⟩ := h
    rfl
  obtain ⟨v, y, c, x, rfl, hv, hy, ok, cb, bx, be, xp, hl, k⟩ := h
  refine ⟨_, (pss_cons (ps_setLc (i := 2) (own := [("corner", 3)]) rfl sc__law_rose.nd rfl rfl (sw_true rfl rfl rfl (by decide +kernel)) (pi_tup (pe_ix ix_tup (pv 0) pe_int (fun _ _ => rfl))) (blkOk_by (own := [("corner", 3)]) (N := ["one", "level", "ahead", "corner"]) (sc := (defScope s_law_rose)) (by decide +kernel)) (fun _ _ _ _ _ => (pg_name (i := 3) sc__law_rose.nd rfl (Or.inl rfl))) (fun _ _ _ _ _ => (pts_one (pt_val (pc c__law_is_below hg hr (by decide) (by rfl) (pa_cons (pe_ix (ix_tupK (K := K) rfl) (pv 3) pe_int (fun _ _ => rfl)) (pa_cons (pv 1) pa_nil)))))) (fun _ _ _ _ _ => (pe_ix (ix_tupK (K := K) rfl) (pv 3) pe_int (fun _ _ => rfl))))
    (pss_one (ps_ret (pc c__law_is_below hg hr (by decide) (by rfl) (pa_cons (pc c__law_paid_at hg hr (by decide) (by rfl) (pa_cons (pv 0) (pa_cons (pe_ix ix_list (pv 2) (pe_un un_neg pe_int) (fun _ _ => rfl)) pa_nil))) (pa_cons (pc c__law_paid_at hg hr (by decide) (by rfl) (pa_cons (pv 0) (pa_cons (pv 1) pa_nil))) pa_nil)))))), ?_⟩
  obtain ⟨a, b, xs, u, rfl, ha, hS, hA, hsl⟩ := cv_at hv
  have hlen := hA.length
  rw [List.length_map] at hlen
  refine ⟨_, rfl, a, _, 0, .ref b, rfl, rfl, ha, atI_nat (j := 0) rfl, b, rfl, ⟨xs, hS⟩, fun D nD => ?_⟩
  refine lc_it (walk_tup (K := K) (xs := xs) (a := b)) (fun i H' => Same H H' ∧ ∃ us, H' D = some (.lst us) ∧ DtA K mT H' us ((((c.pts.take i).filter fun p => decide (p.1 < x)).map (·.1)).map frD)) ⟨same_upd nD, [], upd_same, .nil⟩ (fun i H' _ h => h.1.seqT hS) ?_ ?_
  · rintro i x1 H1 H2 hi ⟨s1, us, e1, a1⟩ ⟨rfl, gx⟩
    obtain ⟨p, hp⟩ : ∃ p, c.pts[i]? = some p := ⟨_, List.getElem?_eq_getElem (by omega)⟩
    obtain ⟨v, w1, dv⟩ := pts_get hA hp
    rw [gx] at w1
    cases w1
    obtain ⟨tp, p1, p2, rfl, hp', gp1, gp2⟩ := pt_at (dt_same dv s1)
    refine ⟨rfl, _, rfl, tp, _, 0, p1, rfl, rfl, hp', atI_nat (j := 0) rfl, _, rfl, p1, y, p.1, x, rfl, gp1, hy.same s1, (cb.at hp).1.bq (by decide) (by decide), bx.bq (by decide) (by decide), fun H3 s3 => ?_⟩
    have e3 := s3 _ _ e1
    have al := a1.length
    rw [List.length_map, List.length_map] at al
    have tl := List.length_filter_le (fun p => decide (p.1 < x)) (c.pts.take i)
    rw [List.length_take] at tl
    refine ⟨_, rfl, ?_⟩
    rw [get_take hp, List.filter_append]
    by_cases q : p.1 < x
    · rw [decide_eq_true q, List.filter_cons_of_pos (by simp [q])]
      refine iteT ⟨_, rfl, tp, _, 0, p1, rfl, rfl, s3.seqT hp', atI_nat (j := 0) rfl, us, e3, small1000 (by omega), same_at (s1.trans s3) nD, us ++ [p1], upd_same, ?_⟩
      rw [List.map_append, List.map_append]
      exact dtA_at ((a1.fut (.of_same s3)).append (.cons (gp1.same s3).dt .nil)) e3
    · rw [decide_eq_false q, List.filter_cons_of_neg (by simp [q])]
      refine iteF ⟨s1.trans s3, us, e3, ?_⟩
      rw [List.filter_nil, List.append_nil]
      exact a1.fut (.of_same s3)
  · rintro H1 ⟨s1, us, e1, a1⟩
    rw [List.take_of_length_le (by omega)] at a1
    obtain ⟨i, p, hc, hp, h1, h2, e⟩ := lsl_at ok xp
    have bp := cb.at hp
    obtain ⟨p0, p0', pe⟩ := ok.pay hp
    -- the last one
    have fe : (c.pts.filter fun p => decide (p.1 < x)) = c.pts.take (i + 1) := by
      have : ∀ (ps : List Pt), MC.Asc ps → (ps.filter fun p => decide (p.1 < x)) = ps.take (cntL x ps) := fun ps => by
        induction ps with
        | nil => exact fun _ => rfl
        | cons a ps ih =>
          intro asc
          by_cases q : a.1 < x
          · have e : cntL x (a :: ps) = cntL x ps + 1 := by
              unfold cntL
              rw [List.filter_cons_of_pos (by simp [q])]
              rfl
            rw [e, List.filter_cons_of_pos (by simp [q]), ih (asc_tail asc), List.take_succ_cons]
          · have e : ((a :: ps).filter fun p => decide (p.1 < x)) = [] := by
              rw [List.filter_eq_nil_iff]
              intro b hb
              rcases List.mem_cons.mp hb with rfl | hb
              · simp [q]
              · have := (asc_mem asc hb).1
                have : ¬ b.1 < x := by grind
                simp [this]
            have e2 : cntL x (a :: ps) = 0 := by
              unfold cntL
              rw [e]
              rfl
            rw [e, e2]
            rfl
      rw [this _ ok.asc, hc]
    rw [fe, get_take hp, List.map_append, List.map_append] at a1
    obtain ⟨us', v1, rfl, dv⟩ : ∃ us' v1, us = us' ++ [v1] ∧ Dt K mT H1 v1 (frD p.1) := by
      have al := a1.length
      rw [List.length_append] at al
      have l1 : us.length = us.length - 1 + 1 := by simp at al; omega
      obtain ⟨v1, w1, d1⟩ := a1.getD (i := (((c.pts.take i).map (·.1)).map frD).length) (d := frD p.1) (by simp)
      have hl1 : (((c.pts.take i).map (·.1)).map frD).length = us.length - 1 := by simp at al ⊢; omega
      rw [hl1] at w1
      refine ⟨us.dropLast, v1, ?_, d1⟩
      have ne : us ≠ [] := fun z => by rw [z] at l1; simp at l1
      have gl : us.getLast ne = v1 := by
        rw [List.getLast_eq_getElem]
        exact (List.getElem?_eq_some_iff.mp w1).2
      rw [← gl, List.dropLast_concat_getLast]
    have hx1 := dt_ql dv
    refine ⟨_, rfl, _, rfl, 1, rfl, D, _, -1, v1, rfl, rfl, .inl (.inl e1), atI_last us' v1, _, v1, c, p.1, rfl, dt_same hv s1, hx1, ok, cb, bp.1.mono (by decide) (by decide), p0, by omega, fun v3 H3 s3 h3 => ?_⟩
    refine ⟨_, rfl, _, rfl, _, y, c, x, rfl, dt_same hv (s1.trans s3), hy.same (s1.trans s3), ok, cb, bx, Rat.le_of_lt xp, by omega, fun v4 H4 s4 h4 => ?_⟩
    refine ⟨v3, v4, _, _, rfl, h3.same s4, h4, ?_, be.bq (by decide) (by decide), fun H5 s5 => ?_⟩
    · rw [pe]
      exact bp.2.bq (by decide) (by decide)
    · have ek : decide (c.ev p.1 < c.ev x) = !decide (lsl c x = 0) := by
        have := lsl_pay ok hp h1 h2
        rw [e, ← decide_not]
        exact decide_eq_decide.mpr this
      rw [ek]
      exact k H5 (((s1.trans s3).trans s4).trans s5)
abbrev s_law_due_paper : Stmt := topS 69
theorem sc__law_due_paper : FnScope ["curves", "amount", "level", "at", "one"] ["curves", "amount"] (defScope s_law_due_paper) := ⟨rfl, rfl, rfl, by decide +kernel, rfl, by decide +kernel, by decide +kernel⟩
theorem ok__law_due_paper {f : Addr} {fd : FuncData} (F : Fun K "_law_due_paper" "_law_due_paper" s_law_due_paper f fd) (B : Bt mg) (c__law_least_level : CalG P w K mg base 6 "_law_least_level" (spLeast K)) (c__law_rose : CalG P w K mg base 5 "_law_rose" (spRoseB K)) : FnG P w K mg base 7 f fd ["curves", "amount"] (spDueP K) := by
  refine Fun.okG F sc__law_due_paper (fun vs H Q E h => ?_) (fun cdv A outer s H vs Q E hg hr h => ?_)
  · obtain ⟨_, _, _, _, _, rfl, _⟩ := h
    rfl
  obtain ⟨a, xs, cs, y, A1, rfl, hS, hA, sm, hy, bA, A0, hb, kk⟩ := h
  have hu := Room.u64 hr
  refine ⟨_, (pss_cons (ps_set (i := 2) sc__law_due_paper.nd rfl (Or.inr rfl) (pc c__law_least_level hg hr (by decide) (by rfl) (pa_cons (pv 0) (pa_cons (pv 1) pa_nil))))
    (pss_cons (ps_if (PW.pt (pw_or (pt_cmpR op_isN (pv 2) pe_non (nomark _)) (pw_or1 (pt_cmpR (op_eqW hu) (pv 2) (pe_tup (pa_cons pe_int (pa_cons pe_int pa_nil))) (nomark _)))))
      (pss_one (ps_ret (pe_ifExp (pt_cmpR op_isN (pv 2) pe_non (nomark _)) pe_non (pe_tup (pa_cons (pv 2) (pa_cons pe_non pa_nil))))))
      pss_nil)
    (pss_one (ps_ret (pe_tup (pa_cons (pv 2) (pa_cons (pe_ix ix_list (pe_lc (own := [("at", 3), ("one", 4)]) rfl sc__law_due_paper.nd (pi_enum (by rfl) B.enum (pa_cons (pv 0) pa_nil)) (blkOk_by (own := [("at", 3), ("one", 4)]) (N := ["curves", "amount", "level", "at", "one"]) (sc := (defScope s_law_due_paper)) (by decide +kernel)) (fun _ _ _ _ _ => (pg_tupK (K := K) (hK := rfl) (n := 2) rfl (pgs_cons (pg_name (i := 3) sc__law_due_paper.nd rfl (Or.inl rfl)) (pgs_cons (pg_name (i := 4) sc__law_due_paper.nd rfl (Or.inl rfl)) pgs_nil)))) (fun _ _ _ _ _ => (pts_one (pt_val (pc c__law_rose hg hr (by decide) (by rfl) (pa_cons (pv 4) (pa_cons (pv 2) pa_nil)))))) (fun _ _ _ _ _ => (pv 3))) pe_int (fun _ _ => rfl)) pa_nil))))))), ?_⟩
  have hlen := hA.length
  rw [List.length_map] at hlen
  have l5 := sm.len
  refine ⟨_, rfl, _, rfl, a, xs, cs, y, A1, rfl, hS, hA, sm, hy, bA, A0, fun o v H1 s1 hL hv => ?_⟩
  cases o with
  | none =>
    have hv : v = .non := hv
    subst hv
    refine ⟨_, rfl, rfl, _, rfl, iteP (fun _ => iteT ?_) fun w => absurd rfl w⟩
    refine ⟨_, rfl, rfl, _, rfl, iteP (fun _ => ?_) fun w => absurd rfl w⟩
    exact kk _ _ none s1 hL .non
  | some l =>
    have hv : Ql K H1 v l := hv
    obtain ⟨t, rfl, ht⟩ := id hv
    obtain ⟨bl, be⟩ := hb l hL
    refine ⟨_, rfl, rfl, _, rfl, iteP (fun w => V.noConfusion w) fun w => ?_⟩
    refine ⟨_, rfl, sz8 (by simp), fun Z nZ => ?_⟩
    have sZ := same_upd (o := .tup [V.int 0, V.int 1]) nZ
    have qz : Ql K (upd H1 Z (.tup [V.int 0, V.int 1])) (.ref Z) 0 := ⟨Z, rfl, .inl (.inl upd_same)⟩
    generalize upd H1 Z (.tup [V.int 0, V.int 1]) = H2 at sZ qz
    have hv2 := hv.same sZ
    have s2 := s1.trans sZ
    refine ⟨mT, frD l, frD 0, hv2.dt, qz.dt, fr_shaped _, fr_shaped _, _, rfl, ?_⟩
    rw [eqv_fr]
    refine iteP (fun e => ?_) fun e => ?_
    · refine ⟨_, rfl, rfl, _, rfl, iteP (fun w => V.noConfusion w) fun w => ?_⟩
      refine ⟨_, rfl, sz8 (by simp), fun R nR => ?_⟩
      have sR := same_upd (o := .tup [V.ref t, V.non]) nR
      refine kk _ _ (some l) (s2.trans sR) hL ?_
      subst e
      unfold ppD
      simp only [risn_zero]
      exact .tup (.inl upd_same) (.cons (Ql.dt (hv2.same sR)) (.cons .non .nil))
    · have lp : 0 < l := by
        have := hL.1
        grind
      have hS2 := SqL.exN hS (exN_same s2)
      have hA2 := hA.fut (mu := mT) (.of_same s2)
      refine ⟨_, rfl, _, rfl, a, xs, rfl, hS2, fun D nD => ?_⟩
      refine lc_it (walk_enum (K := K) (xs := xs) (a := a)) (fun i H' => Same H2 H' ∧ H' D = some (.lst (((List.range i).filter fun i => match cs[i]? with | some c => !decide (lsl c l = 0) | none => false).map fun (i : Nat) => V.int (i : Int)))) ⟨same_upd nD, upd_same⟩ (fun i H' _ h => SqL.exN hS2 (exN_same h.1)) ?_ ?_
      · rintro i x H3 H4 hi ⟨s3, e3⟩ ⟨T, x1, x2, rfl, nT, rfl, g1, g2⟩
        cases g1
        have g2 : xs[i]? = some x2 := g2
        obtain ⟨c, hc⟩ : ∃ c, cs[i]? = some c := ⟨_, List.getElem?_eq_getElem (by omega)⟩
        have mc := List.mem_of_getElem? hc
        obtain ⟨u2, w2, d2⟩ := hA2.getD (i := i) (d := cvD c) (by rw [List.getElem?_map, hc]; rfl)
        rw [g2] at w2
        cases w2
        have sT := same_upd (o := .tup [V.int (i : Nat), x2]) nT
        have uT := upd_same (H := H3) (a := T) (o := .tup [V.int (i : Nat), x2])
        generalize upd H3 T (.tup [V.int (i : Nat), x2]) = H5 at sT uT
        have s5 := s3.trans sT
        have er : (List.range (i + 1)).filter (fun i => match cs[i]? with | some c => !decide (lsl c l = 0) | none => false) = (List.range i).filter (fun i => match cs[i]? with | some c => !decide (lsl c l = 0) | none => false) ++ if lsl c l = 0 then [] else [i] := by
          rw [List.range_succ, List.filter_append]
          congr 1
          by_cases q : lsl c l = 0
          · rw [if_pos q, List.filter_cons_of_neg (by rw [hc]; simp [q])]
            rfl
          · rw [if_neg q, List.filter_cons_of_pos (by rw [hc]; simp [q])]
            rfl
        have ml : ((List.range i).filter fun i => match cs[i]? with | some c => !decide (lsl c l = 0) | none => false).length ≤ 900 := Nat.le_trans (List.length_filter_le _ _) (by rw [List.length_range]; omega)
        refine ⟨T, _, rfl, .of uT, rfl, _, _, rfl, _, _, rfl, rfl, rfl, _, rfl, _, rfl, x2, _, c, l, rfl, dt_same d2 s5, hv2.same s5, sm.ok c mc, (sm.cb c mc).mono (by decide) (by decide), bl, be c mc, lp, Nat.le_trans (sm.n c mc) (by decide), fun H6 s6 => ⟨_, rfl, ?_⟩⟩
        have e6 := s6 _ _ (sT _ _ e3)
        by_cases q : lsl c l = 0
        · rw [decide_eq_true q]
          rw [if_pos q, List.append_nil] at er
          refine iteF ⟨s5.trans s6, ?_⟩
          rw [er]
          exact e6
        · rw [decide_eq_false q]
          rw [if_neg q] at er
          refine iteT ⟨_, rfl, _, e6, by rw [List.length_map]; exact small1000 (by omega), same_at (s5.trans s6) nD, ?_⟩
          rw [er, List.map_append]
          exact upd_same
      · rintro H3 ⟨s3, e3⟩
        rw [hlen] at e3
        have er : (List.range cs.length).filter (fun i => match cs[i]? with | some c => !decide (lsl c l = 0) | none => false) = risn cs l := rfl
        rw [er] at e3
        cases hr' : risn cs l with
        | nil => exact absurd hr' (risn_pos sm.ok hL lp)
        | cons i is =>
          rw [hr'] at e3
          refine ⟨D, _, 0, .int (i : Int), rfl, rfl, .inl (.inl e3), atI_nat (j := 0) rfl, sz8 (by simp), fun R nR => ?_⟩
          have sR := same_upd (o := .tup [V.ref t, V.int (i : Int)]) nR
          refine kk _ _ (some l) (s2.trans (s3.trans sR)) hL ?_
          unfold ppD
          simp only [hr']
          exact .tup (.inl upd_same) (.cons (Ql.dt (hv2.same (s3.trans sR))) (.cons (.int _) .nil))
end
end K33
namespace K33
open PySem PySem.Spec PyProof.Rows L2 Sw StX RZ
section
variable {P : Program} {w : World} {K : PySem.W.Frag} {mg : Str → Option Value} {base : Heap}
abbrev sis_integer : Stmt := topS 24
theorem sc_is_integer : FnScope ["thing"] ["thing"] (defScope sis_integer) := ⟨rfl, rfl, rfl, by decide +kernel, rfl, by decide +kernel, by decide +kernel⟩
theorem ok_is_integer {f : Addr} {fd : FuncData} (F : Fun K "is_integer" "is_integer" sis_integer f fd) (B : Bt mg) : FnG P w K mg base 1 f fd ["thing"] (spP K isInt) := by
  refine Fun.okG F sc_is_integer spP_len (fun cdv A outer s H vs Q E hg hr h => ?_)
  obtain ⟨v, mu, d, rfl, hd, ho, k⟩ := h
  refine ⟨_, (pss_one (ps_ret (pe_and (pe_callB call_isD (by rfl) B.isin bb_isin (pa_cons (pv 0) (pa_cons (pe_bltn (v := .ty "int") rfl B.int bb_int rfl) pa_nil))) (pe_one (pe_not (pe_callB call_isD (by rfl) B.isin bb_isin (pa_cons (pv 0) (pa_cons (pe_bltn (v := .ty "bool") rfl B.bool bb_bool rfl) pa_nil)))))))), ?_⟩
  refine ⟨_, rfl, _, "int", mu, d, rfl, by decide, hd, _, rfl, ?_⟩
  have k := k H (Same.refl H)
  unfold isInt at k
  cases h1 : isT "int" d with
  | false =>
    rw [h1] at k
    exact iteF k
  | true =>
    rw [h1] at k
    exact iteT ⟨_, rfl, _, "bool", mu, d, rfl, by decide, hd, _, rfl, k⟩
abbrev sis_fraction : Stmt := topS 25
theorem sc_is_fraction : FnScope ["thing", "n", "d"] ["thing"] (defScope sis_fraction) := ⟨rfl, rfl, rfl, by decide +kernel, rfl, by decide +kernel, by decide +kernel⟩
theorem ok_is_fraction {f : Addr} {fd : FuncData} (F : Fun K "is_fraction" "is_fraction" sis_fraction f fd) (B : Bt mg) (T : Tx mg) (c_is_integer : CalG P w K mg base 1 "is_integer" (spP K isInt)) : FnG P w K mg base 2 f fd ["thing"] (spP K isFrac) := by
  refine Fun.okG F sc_is_fraction spP_len (fun cdv A outer s H vs Q E hg hr h => ?_)
  obtain ⟨v, mu, d, rfl, hd, ho, k⟩ := h
  refine ⟨_, (pss_cons (ps_if (PW.pt (pw_or (pt_not (pt_val (pe_callB call_isD (by rfl) B.isin bb_isin (pa_cons (pv 0) (pa_cons (pe_bltn (v := .ty "tuple") rfl B.tuple bb_tuple rfl) pa_nil))))) (pw_or1 (pt_cmpR op_ne (pe_callB call_lenA (by rfl) B.len boot_len (pa_cons (pv 0) pa_nil)) pe_int (nomark _)))))
      (pss_one (ps_ret pe_bl))
      pss_nil)
    (pss_cons (ps_asg (pv 0) (pg_tup (n := 2) rfl (pgs_cons (pg_name (i := 1) sc_is_fraction.nd rfl (Or.inl rfl)) (pgs_cons (pg_name (i := 2) sc_is_fraction.nd rfl (Or.inl rfl)) pgs_nil))))
    (pss_one (ps_ret (pe_and (pc c_is_integer hg hr (by decide) (by rfl) (pa_cons (pv 1) pa_nil)) (pe_and (pc c_is_integer hg hr (by decide) (by rfl) (pa_cons (pv 2) pa_nil)) (pe_and (pe_cmpR op_ge (pv 2) pe_int (nomark _)) (pe_one (pe_cmpR op_eq (pe_callBfun cr_gcd (by rfl) T.gcd (pa_cons (pv 1) (pa_cons (pv 2) pa_nil))) pe_int (nomark _)))))))))), ?_⟩
  refine ⟨_, rfl, _, "tuple", mu, d, rfl, by decide, hd, _, rfl, ?_⟩
  have k0 := k H (Same.refl H)
  refine iteN (fun ht => ?_) fun ht => ?_
  · have e : isFrac d = false := by
      cases d <;> first | rfl | (simp [isT, tyName] at ht)
    rw [e] at k0
    exact iteT k0
  · obtain ⟨ds, rfl⟩ := (isTup d).mp ht
    obtain ⟨a, xs, rfl, hS, hA⟩ := hd.tupAt
    have el := hA.length
    refine ⟨_, rfl, _, xs.length, rfl, .inr ⟨_, hS, rfl⟩, rfl, _, rfl, iteNe (fun hn => ?_) fun hn => ?_⟩
    · have e : isFrac (.tuple ds) = false := by
        unfold isFrac
        split
        · rename_i z
          injection z with z
          rw [z] at el
          simp at el
          omega
        · rfl
      rw [e] at k0
      exact k0
    · obtain ⟨x, y, d1, d2, rfl, rfl, r1, r2⟩ := hA.two (by omega)
      · have o1 : Ok d1 := ho.inT (by simp)
        have o2 : Ok d2 := ho.inT (by simp)
        refine ⟨_, rfl, a, [x, y], rfl, hS, rfl, x, [y], rfl, y, [], rfl, rfl, ?_⟩
        have no : (∀ n m, d1 = .int n → d2 = .int m → False) → isFrac (.tuple [d1, d2]) = false := fun z => by
          unfold isFrac
          split
          · rename_i q
            injection q with q
            injection q with q1 q
            injection q with q2 _
            exact (z _ _ q1 q2).elim
          · rfl
        refine ⟨x, rfl, x, mu, d1, rfl, r1, o1, fun H1 s1 => ⟨_, rfl, iteB (fun h1 => ?_) fun h1 => ?_⟩⟩
        · refine ⟨y, rfl, y, mu, d2, rfl, r2.fut (.of_same s1), o2, fun H2 s2 => ⟨_, rfl, iteB (fun h2 => ?_) fun h2 => ?_⟩⟩
          · obtain ⟨n, rfl⟩ := (isIntD d1).mp h1
            obtain ⟨m, rfl⟩ := (isIntD d2).mp h2
            cases r1
            cases r2
            have kk := k H2 (s1.trans s2)
            rw [isFrac_eq] at kk
            refine ⟨_, rfl, _, _, rfl, rfl, _, rfl, iteP (fun h3 => ?_) fun h3 => ?_⟩
            · rw [decide_eq_true h3, Bool.true_and] at kk
              refine ⟨_, rfl, _, rfl, _, _, rfl, rfl, ?_⟩
              show Q (.bl (decide (V.int (gI n m) = V.int 1))) H2
              rw [Sw.dec_int]
              exact kk
            · rw [decide_eq_false h3, Bool.false_and] at kk
              exact kk
          · have kk := k H2 (s1.trans s2)
            rw [no fun n m e1 e2 => by rw [e2] at h2; cases h2] at kk
            exact kk
        · have kk := k H1 s1
          rw [no fun n m e1 e2 => by rw [e1] at h1; cases h1] at kk
          exact kk
abbrev sis_amount : Stmt := topS 26
theorem sc_is_amount : FnScope ["thing"] ["thing"] (defScope sis_amount) := ⟨rfl, rfl, rfl, by decide +kernel, rfl, by decide +kernel, by decide +kernel⟩
theorem ok_is_amount {f : Addr} {fd : FuncData} (F : Fun K "is_amount" "is_amount" sis_amount f fd) (B : Bt mg) (c_is_fraction : CalG P w K mg base 2 "is_fraction" (spP K isFrac)) : FnG P w K mg base 3 f fd ["thing"] (spP K isAmt) := by
  refine Fun.okG F sc_is_amount spP_len (fun cdv A outer s H vs Q E hg hr h => ?_)
  obtain ⟨v, mu, d, rfl, hd, ho, k⟩ := h
  refine ⟨_, (pss_one (ps_ret (pe_and (pc c_is_fraction hg hr (by decide) (by rfl) (pa_cons (pv 0) pa_nil)) (pe_one (pe_cmpR op_ge (pe_ix ix_tup (pv 0) pe_int (fun _ _ => rfl)) pe_int (nomark _)))))), ?_⟩
  refine ⟨v, rfl, v, mu, d, rfl, hd, ho, fun H1 s1 => ⟨_, rfl, iteB (fun h1 => ?_) fun h1 => ?_⟩⟩
  · have k1 := k H1 s1
    obtain ⟨n, m, rfl⟩ : ∃ n m, d = .tuple [.int n, .int m] := by
      unfold isFrac at h1
      split at h1
      · exact ⟨_, _, rfl⟩
      · cases h1
    · obtain ⟨a, xs, rfl, hS, hA⟩ := (hd.fut (.of_same s1)).tupAt
      obtain ⟨x, y, d1, d2, rfl, e2, r1, r2⟩ := hA.two rfl
      injection e2 with e3 e4
      injection e4 with e4 _
      subst e3 e4
      cases r1
      refine ⟨_, rfl, a, _, 0, .int n, rfl, rfl, hS, atI_nat (j := 0) rfl, _, _, rfl, rfl, ?_⟩
      rw [isAmt_eq, h1, Bool.true_and] at k1
      exact k1
  · have k1 := k H1 s1
    have e : isAmt d = false := by
      unfold isAmt
      split
      · rw [h1, Bool.false_and]
      · rfl
    rw [e] at k1
    exact k1
abbrev s_law_is_int : Stmt := topS 45
theorem sc__law_is_int : FnScope ["thing"] ["thing"] (defScope s_law_is_int) := ⟨rfl, rfl, rfl, by decide +kernel, rfl, by decide +kernel, by decide +kernel⟩
theorem ok__law_is_int {f : Addr} {fd : FuncData} (F : Fun K "_law_is_int" "_law_is_int" s_law_is_int f fd) (B : Bt mg) : FnG P w K mg base 1 f fd ["thing"] (spP K isInt) := by
  refine Fun.okG F sc__law_is_int spP_len (fun cdv A outer s H vs Q E hg hr h => ?_)
  obtain ⟨v, mu, d, rfl, hd, ho, k⟩ := h
  refine ⟨_, (pss_one (ps_ret (pe_and (pe_callB call_isD (by rfl) B.isin bb_isin (pa_cons (pv 0) (pa_cons (pe_bltn (v := .ty "int") rfl B.int bb_int rfl) pa_nil))) (pe_one (pe_not (pe_callB call_isD (by rfl) B.isin bb_isin (pa_cons (pv 0) (pa_cons (pe_bltn (v := .ty "bool") rfl B.bool bb_bool rfl) pa_nil)))))))), ?_⟩
  refine ⟨_, rfl, _, "int", mu, d, rfl, by decide, hd, _, rfl, ?_⟩
  have k := k H (Same.refl H)
  unfold isInt at k
  cases h1 : isT "int" d with
  | false =>
    rw [h1] at k
    exact iteF k
  | true =>
    rw [h1] at k
    exact iteT ⟨_, rfl, _, "bool", mu, d, rfl, by decide, hd, _, rfl, k⟩
abbrev s_law_is_fraction : Stmt := topS 67
theorem sc__law_is_fraction : FnScope ["thing"] ["thing"] (defScope s_law_is_fraction) := ⟨rfl, rfl, rfl, by decide +kernel, rfl, by decide +kernel, by decide +kernel⟩
theorem ok__law_is_fraction {f : Addr} {fd : FuncData} (F : Fun K "_law_is_fraction" "_law_is_fraction" s_law_is_fraction f fd) (B : Bt mg) (c__law_is_int : CalG P w K mg base 1 "_law_is_int" (spP K isInt)) (c__law_common : CalG P w K mg base 1 "_law_common" spCommon) : FnG P w K mg base 2 f fd ["thing"] (spP K isFrac) := by
  refine Fun.okG F sc__law_is_fraction spP_len (fun cdv A outer s H vs Q E hg hr h => ?_)
  obtain ⟨v, mu, d, rfl, hd, ho, k⟩ := h
  refine ⟨_, (pss_cons (ps_if (PW.pt (pw_or (pt_not (pt_val (pe_callB call_isD (by rfl) B.isin bb_isin (pa_cons (pv 0) (pa_cons (pe_bltn (v := .ty "tuple") rfl B.tuple bb_tuple rfl) pa_nil))))) (pw_or (pt_cmpR op_ne (pe_callB call_lenA (by rfl) B.len boot_len (pa_cons (pv 0) pa_nil)) pe_int (nomark _)) (pw_or (pt_not (pt_val (pc c__law_is_int hg hr (by decide) (by rfl) (pa_cons (pe_ix ix_tup (pv 0) pe_int (fun _ _ => rfl)) pa_nil)))) (pw_or1 (pt_not (pt_val (pc c__law_is_int hg hr (by decide) (by rfl) (pa_cons (pe_ix ix_tup (pv 0) pe_int (fun _ _ => rfl)) pa_nil)))))))))
      (pss_one (ps_ret pe_bl))
      pss_nil)
    (pss_one (ps_ret (pe_and (pe_cmpR op_gt (pe_ix ix_tup (pv 0) pe_int (fun _ _ => rfl)) pe_int (nomark _)) (pe_one (pe_cmpR op_eq (pc c__law_common hg hr (by decide) (by rfl) (pa_cons (pe_ix ix_tup (pv 0) pe_int (fun _ _ => rfl)) (pa_cons (pe_ix ix_tup (pv 0) pe_int (fun _ _ => rfl)) pa_nil))) pe_int (nomark _))))))), ?_⟩
  refine ⟨_, rfl, _, "tuple", mu, d, rfl, by decide, hd, _, rfl, ?_⟩
  have k0 := k H (Same.refl H)
  refine iteN (fun ht => ?_) fun ht => ?_
  · have e : isFrac d = false := by
      cases d <;> first | rfl | (simp [isT, tyName] at ht)
    rw [e] at k0
    exact k0
  · obtain ⟨ds, rfl⟩ := (isTup d).mp ht
    obtain ⟨a, xs, rfl, hS, hA⟩ := hd.tupAt
    have el := hA.length
    refine ⟨_, rfl, _, xs.length, rfl, .inr ⟨_, hS, rfl⟩, rfl, _, rfl, iteNe (fun hn => ?_) fun hn => ?_⟩
    · have e : isFrac (.tuple ds) = false := by
        unfold isFrac
        split
        · rename_i z
          injection z with z
          rw [z] at el
          simp at el
          omega
        · rfl
      rw [e] at k0
      exact k0
    · obtain ⟨x, y, d1, d2, rfl, rfl, r1, r2⟩ := hA.two (by omega)
      have o1 : Ok d1 := ho.inT (by simp)
      have o2 : Ok d2 := ho.inT (by simp)
      have no : (∀ n m, d1 = .int n → d2 = .int m → False) → isFrac (.tuple [d1, d2]) = false := fun z => by
        unfold isFrac
        split
        · rename_i q
          injection q with q
          injection q with q1 q
          injection q with q2 _
          exact (z _ _ q1 q2).elim
        · rfl
      refine ⟨_, rfl, a, _, 0, x, rfl, rfl, hS, atI_nat (j := 0) rfl, x, mu, d1, rfl, r1, o1, fun H1 s1 => ⟨_, rfl, iteN (fun h1 => ?_) fun h1 => ?_⟩⟩
      · have kk := k H1 s1
        rw [no fun n m e1 e2 => by rw [e1] at h1; cases h1] at kk
        exact kk
      · have hS1 : SqT K H1 a [x, y] := s1.seqT hS
        refine ⟨_, rfl, a, _, 1, y, rfl, rfl, hS1, atI_nat (j := 1) rfl, y, mu, d2, rfl, r2.fut (.of_same s1), o2, fun H2 s2 => ⟨_, rfl, iteN (fun h2 => ?_) fun h2 => ?_⟩⟩
        · have kk := k H2 (s1.trans s2)
          rw [no fun n m e1 e2 => by rw [e2] at h2; cases h2] at kk
          exact kk
        · obtain ⟨n, rfl⟩ := (isIntD d1).mp h1
          obtain ⟨m, rfl⟩ := (isIntD d2).mp h2
          cases r1
          cases r2
          have hS2 := s2.seqT hS1
          have kk := k H2 (s1.trans s2)
          rw [isFrac_eq] at kk
          refine ⟨_, rfl, a, _, 1, .int m, rfl, rfl, hS2, atI_nat (j := 1) rfl, _, _, rfl, rfl, _, rfl, iteP (fun h3 => ?_) fun h3 => ?_⟩
          · rw [decide_eq_true (show 1 ≤ m by omega), Bool.true_and] at kk
            refine ⟨_, rfl, a, _, 0, .int n, rfl, rfl, hS2, atI_nat (j := 0) rfl, _, rfl, a, _, 1, .int m, rfl, rfl, hS2, atI_nat (j := 1) rfl, n, m, rfl, rfl, ?_⟩
            show Q (.bl (decide (V.int (gI n m) = V.int 1))) H2
            rw [Sw.dec_int]
            exact kk
          · rw [decide_eq_false (show ¬ 1 ≤ m by omega), Bool.false_and] at kk
            exact kk
abbrev stotal : Stmt := topS 12
theorem sc_total : FnScope ["fractions", "summed", "one"] ["fractions"] (defScope stotal) := ⟨rfl, rfl, rfl, by decide +kernel, rfl, by decide +kernel, by decide +kernel⟩
theorem ok_total {f : Addr} {fd : FuncData} {z : Addr} (F : Fun K "total" "total" stotal f fd) (B : Bt mg) (TZ : ∃ u, mg "ZERO" = some u ∧ RelV (.ref z) u) (KZ : KTup K z [.int 0, .int 1]) (c_added : CalG P w K mg base 1 "added" (spTwo K addF)) : FnG P w K mg base 2 f fd ["fractions"] (spTotal K) := by
  refine Fun.okG F sc_total spTotal_len (fun cdv A outer s H vs Q E hg hr h => ?_)
  obtain ⟨a, fs, rfl, ⟨xs, hq, hr0⟩, hs, hT, k⟩ := h
  obtain ⟨uz, mz, rz⟩ := TZ
  have s0 : Same H H := .refl H
  have h0 : Cpl K H (.ref z) (sumF (fs.take 0)).1 (sumF (fs.take 0)).2 := ⟨z, rfl, .inr KZ⟩
  rcases hq with hq | hq
  · refine ⟨_, (pss_cons (ps_set (i := 1) sc_total.nd rfl (Or.inl rfl) (pe_glob (v := .ref z) (by rfl) mz rz))
      (pss_cons (ps_for PassesOwn.never rfl (pi_list (pv 0)) (pg_name (i := 2) sc_total.nd rfl (Or.inl rfl))
        (pss_one (ps_set (i := 1) sc_total.nd rfl (Or.inl rfl) (pc c_added hg hr (by decide) (by rfl) (pa_cons (pv 1) (pa_cons (pv 2) pa_nil))))))
      (pss_one (ps_ret (pv 1))))), ?_⟩
    refine ⟨_, rfl, a, rfl, ⟨_, s0.seq hq⟩, for_it (walk_list (K := K) (xs := xs) (a := a)) (fun i σ H' => ∃ v o, σ = [some (.ref a), some v, o] ∧ Same H H' ∧ Cpl K H' v (sumF (fs.take i)).1 (sumF (fs.take i)).2) ⟨_, _, rfl, s0, h0⟩ (fun i σ H' _ h => by
      obtain ⟨_, _, _, s, _⟩ := h
      exact s.seq hq) (fun i x σ H1 H2 hi h y => ?_) fun σ H1 h => ?_⟩
    · obtain ⟨v, o, rfl, s, hv⟩ := h
      obtain ⟨rfl, hx⟩ := y
      obtain ⟨g, eg, hg1⟩ := hr0.get hx
      have tb := hT i (by rw [← hr0.len]; omega)
      have sm := hs g (List.mem_of_getElem? eg)
      refine ⟨_, rfl, _, rfl, v, x, (sumF (fs.take i)).1, (sumF (fs.take i)).2, g.1, g.2, rfl, hv, hg1.same s, tb.fr, sm.fr, tb.bn, tb.bd, sm.bn, sm.bd, fun p H3 s3 _ hp => ?_⟩
      have e : fs.take (i + 1) = fs.take i ++ [g] := by
        rw [List.take_add_one, eg]
        rfl
      refine ⟨_, _, rfl, s.trans s3, ?_⟩
      rw [e, sumF_snoc]
      exact .mk hp
    · obtain ⟨v, o, rfl, s, hv⟩ := h
      rw [hr0.len, List.take_length] at hv
      exact ⟨_, rfl, k v _ s hv⟩
  · refine ⟨_, (pss_cons (ps_set (i := 1) sc_total.nd rfl (Or.inl rfl) (pe_glob (v := .ref z) (by rfl) mz rz))
      (pss_cons (ps_for PassesOwn.never rfl (pi_tup (pv 0)) (pg_name (i := 2) sc_total.nd rfl (Or.inl rfl))
        (pss_one (ps_set (i := 1) sc_total.nd rfl (Or.inl rfl) (pc c_added hg hr (by decide) (by rfl) (pa_cons (pv 1) (pa_cons (pv 2) pa_nil))))))
      (pss_one (ps_ret (pv 1))))), ?_⟩
    refine ⟨_, rfl, a, rfl, ⟨_, s0.seqT hq⟩, for_it (walk_tup (K := K) (xs := xs) (a := a)) (fun i σ H' => ∃ v o, σ = [some (.ref a), some v, o] ∧ Same H H' ∧ Cpl K H' v (sumF (fs.take i)).1 (sumF (fs.take i)).2) ⟨_, _, rfl, s0, h0⟩ (fun i σ H' _ h => by
      obtain ⟨_, _, _, s, _⟩ := h
      exact s.seqT hq) (fun i x σ H1 H2 hi h y => ?_) fun σ H1 h => ?_⟩
    · obtain ⟨v, o, rfl, s, hv⟩ := h
      obtain ⟨rfl, hx⟩ := y
      obtain ⟨g, eg, hg1⟩ := hr0.get hx
      have tb := hT i (by rw [← hr0.len]; omega)
      have sm := hs g (List.mem_of_getElem? eg)
      refine ⟨_, rfl, _, rfl, v, x, (sumF (fs.take i)).1, (sumF (fs.take i)).2, g.1, g.2, rfl, hv, hg1.same s, tb.fr, sm.fr, tb.bn, tb.bd, sm.bn, sm.bd, fun p H3 s3 _ hp => ?_⟩
      have e : fs.take (i + 1) = fs.take i ++ [g] := by
        rw [List.take_add_one, eg]
        rfl
      refine ⟨_, _, rfl, s.trans s3, ?_⟩
      rw [e, sumF_snoc]
      exact .mk hp
    · obtain ⟨v, o, rfl, s, hv⟩ := h
      rw [hr0.len, List.take_length] at hv
      exact ⟨_, rfl, k v _ s hv⟩
end
end K33
namespace K33
open PySem PySem.Spec PyProof.Rows L2 Sw MC LamX
/-! papers of any value -/
theorem ev_any {c : Cv} (h : LC c) {y : Rat} (y0 : 0 ≤ y) (b : Rb 1661 1661 y) : Rb 1850 1850 (c.ev y) := by
  obtain ⟨i, p, hp, h1, h2⟩ := place_ex h.ok y0
  obtain ⟨N, M, m1, m2, n1, n2, e⟩ := rise_frac h hp
  have c2 : Rb 63 63 (rise c.slope c.pts i) := Rb.of (N := N) (D := M) (by omega) e n2 m2
  rw [h.ok.at hp h1 h2]
  have g1 := (h.pt p (List.mem_of_getElem? hp)).1.rb (by decide)
  have g2 := (h.pt p (List.mem_of_getElem? hp)).2.rb (by decide)
  have d := b.sub g1 (c := 1725) (by decide) (by decide)
  exact (g2.add (c2.mul d) (c := 1850) (by decide) (by decide)).mono (by decide) (by decide)
theorem sumE_any {cs : List Cv} (hc : ∀ c ∈ cs, LC c) (hl : cs.length ≤ 5) {y : Rat} (y0 : 0 ≤ y) (b : Rb 1661 1661 y) : Rb 2500 2400 (sumE cs y) := by
  by_cases z : y = 0
  · rw [z, sumE_zero fun c h => (hc c h).ok]
    exact rb_zero.mono (by decide) (by decide)
  · obtain ⟨w, α, ρ, Pi', I, J, z0, zy, aff, p0, p1, i1, i2, j1, j2⟩ := aff_left (by grind : 0 < y) hc
    rw [aff y (by grind) (by grind)]
    have q1 : Pi'.natAbs < 2 ^ 316 := Nat.lt_of_lt_of_le p1 (p2 (by omega))
    have q2 : I.natAbs < 2 ^ 447 := Nat.lt_of_lt_of_le i2 (p2 (by omega))
    have q3 : J.natAbs < 2 ^ 321 := Nat.lt_of_lt_of_le j2 (p2 (by omega))
    have b1 : Rb 321 316 ρ := Rb.of (N := J) (D := Pi') (by omega) j1 q3 q1
    have b2 : Rb 447 337 α := Rb.of (N := I) (D := 1407000 * Pi') (by omega) (by
      rw [Rat.intCast_mul, ← i1]
      have : ((1407000 : Int) : Rat) = 1407000 := rfl
      grind) q2 (natAbs_lt_mul (i := 1407000) (a := 21) (by decide) q1)
    exact (b2.add (b1.mul b) (c := 2450) (by decide) (by decide)).mono (by decide) (by decide)
/-- the FRACTION that this is -/
def frV : PyData → Option Rat
  | .tuple [.int n, .int d] => if isFrac (.tuple [.int n, .int d]) = true then some (vf (n, d)) else none
  | _ => none
def isNon : PyData → Bool
  | .none => true
  | _ => false
def ixJ (cs : List Cv) (l : Rat) (ix : PyData) : Bool := if l = 0 then isNon ix else match ix with
  | .int i => decide (0 ≤ i) && decide (i < cs.length) && (match cs[i.toNat]? with | some c => !decide (lsl c l = 0) | none => false)
  | _ => false
def jP (cs : List Cv) (A : Rat) : PyData → Bool
  | .tuple [lv, ix] => isAmt lv && (match frV lv with | some l => decide (sumE cs l = A) && ixJ cs l ix | none => false)
  | _ => false
theorem frV_fr (l : Rat) : frV (frD l) = some l := by
  have e : isFrac (frD l) = true := by
    unfold frD
    rw [isFrac_eq, decide_eq_true (show 1 ≤ (rF l).2 from (rF_fr l).pos), decide_eq_true (gI_cp.mpr (rF_fr l).cp)]
    rfl
  unfold frD at e
  show (if isFrac (.tuple [.int (rF l).1, .int (rF l).2]) = true then some (vf ((rF l).1, (rF l).2)) else none) = some l
  rw [if_pos e]
  exact congrArg some (vf_rF l)
theorem jP_two (cs : List Cv) (A : Rat) (lv ix : PyData) : jP cs A (.tuple [lv, ix]) = (isAmt lv && (match frV lv with | some l => decide (sumE cs l = A) && ixJ cs l ix | none => false)) := rfl
theorem isFrac_fr (l : Rat) : isFrac (frD l) = true := by
  unfold frD
  rw [isFrac_eq, decide_eq_true (show 1 ≤ (rF l).2 from (rF_fr l).pos), decide_eq_true (gI_cp.mpr (rF_fr l).cp)]
  rfl
theorem isAmt_fr (l : Rat) : isAmt (frD l) = decide (0 ≤ (rF l).1) := by
  have e := isFrac_fr l
  unfold frD at e ⊢
  rw [isAmt_eq, e, Bool.true_and]
theorem frac_fr {d : PyData} (h : isFrac d = true) : ∃ l, d = frD l := by
  unfold isFrac at h
  split at h
  · rename_i n m
    simp only [Bool.and_eq_true, decide_eq_true_eq] at h
    have hf : Fr n m := ⟨by omega, gI_cp.mp h.2⟩
    exact ⟨vf (n, m), by unfold frD; rw [rF_vf hf]⟩
  · cases h
theorem amt_fr {d : PyData} (h : isAmt d = true) : ∃ l, d = frD l ∧ 0 ≤ l := by
  unfold isAmt at h
  split at h
  · rename_i n m
    rw [isFrac_eq] at h
    simp only [Bool.and_eq_true, decide_eq_true_eq] at h
    obtain ⟨⟨h1, h2⟩, h3⟩ := h
    have hf : Fr n m := ⟨by omega, gI_cp.mp h2⟩
    refine ⟨vf (n, m), by unfold frD; rw [rF_vf hf], ?_⟩
    have mp : (0 : Rat) < (m : Rat) := by exact_mod_cast (show 0 < m by omega)
    have np : (0 : Rat) ≤ (n : Rat) := by exact_mod_cast h3
    exact div_nn np mp
  · cases h
theorem frac_amt {d : PyData} (h : isFrac d = false) : isAmt d = false := by
  cases q : isAmt d with
  | false => rfl
  | true =>
    obtain ⟨l, rfl, _⟩ := amt_fr q
    rw [isFrac_fr] at h
    cases h
theorem dt_non {K : PySem.W.Frag} {mu : Addr → Prop} {H : Hp} {v : V} {d : PyData} (h : Dt K mu H v d) : decide (v = V.non) = isNon d := by
  cases h <;> rfl
theorem rb_okd {l : Rat} (h : Ok (frD l)) : Rb 1661 1661 l := by
  have e := h.ok
  have big : (10 : Nat) ^ 500 ≤ 2 ^ 1661 := by decide +kernel
  have e : (decide ((rF l).1.natAbs < 10 ^ 500) && (decide ((rF l).2.natAbs < 10 ^ 500) && true)) = true := e
  simp only [Bool.and_eq_true, decide_eq_true_eq, and_true] at e
  exact ⟨rF_fr l, Nat.lt_of_lt_of_le e.1 big, Nat.lt_of_lt_of_le e.2 big⟩
def spJ (K : PySem.W.Frag) : Sp := fun vs H Q _ => ∃ (a : Addr) (xs : List V) (cs : List Cv) (y v : V) (A : Rat) (mu : Addr → Prop) (d : PyData), vs = [.ref a, y, v] ∧ SqL K H a xs ∧ DtA K mT H xs (cs.map cvD) ∧ cs.length ≤ 5 ∧ (∀ c ∈ cs, LC c) ∧ Ql K H y A ∧ Dt K mu H v d ∧ Ok d ∧ ∀ H', Same H H' → Q (.bl (jP cs A d)) H'
def spSumAny (K : PySem.W.Frag) : Sp := fun vs H Q _ => ∃ (a : Addr) (xs : List V) (cs : List Cv) (y : V) (x : Rat), vs = [.ref a, y] ∧ SqL K H a xs ∧ DtA K mT H xs (cs.map cvD) ∧ cs.length ≤ 5 ∧ (∀ c ∈ cs, LC c) ∧ Ql K H y x ∧ Rb 1661 1661 x ∧ 0 ≤ x ∧ ∀ v H', Same H H' → Ql K H' v (sumE cs x) → Q v H'
section
variable {P : Program} {w : World} {K : PySem.W.Frag} {mg : Str → Option Value} {base : Heap}
abbrev sis_level_paper : Stmt := topS 36
theorem sc_is_level_paper : FnScope ["curves", "amount", "thing", "level", "index", "one"] ["curves", "amount", "thing"] (defScope sis_level_paper) := ⟨rfl, rfl, rfl, by decide +kernel, rfl, by decide +kernel, by decide +kernel⟩
theorem ok_is_level_paper {f z : Addr} {fd : FuncData} (F : Fun K "is_level_paper" "is_level_paper" sis_level_paper f fd) (B : Bt mg) (TZ : ∃ u, mg "ZERO" = some u ∧ RelV (.ref z) u) (KZ : KTup K z [.int 0, .int 1]) (c_is_amount : CalG P w K mg base 3 "is_amount" (spP K isAmt)) (c_is_integer : CalG P w K mg base 1 "is_integer" (spP K isInt))
    (c_total : CalG P w K mg base 2 "total" (spTotQ K)) (c_pay_at : CalG P w K mg base 6 "pay_at" (spPay K)) (c_rose_to : CalG P w K mg base 6 "rose_to" (spRoseL K)) : FnG P w K mg base 7 f fd ["curves", "amount", "thing"] (spJ K) := by
  refine Fun.okG F sc_is_level_paper (fun vs H Q E h => ?_) (fun cdv A outer s H vs Q E hg hr h => ?_)
  · obtain ⟨_, _, _, _, _, _, _, _, rfl, _⟩ := h
    rfl
  obtain ⟨a, xs, cs, y, v, A1, mu, d, rfl, hS, hA, hl, hc, hy, hv, hd, k⟩ := h
  have hu := Room.u64 hr
  obtain ⟨uz, mz, rz⟩ := TZ
  refine ⟨_, (pss_cons (ps_if (PW.pt (pw_or (pt_not (pt_val (pe_callB call_isD (by rfl) B.isin bb_isin (pa_cons (pv 2) (pa_cons (pe_bltn (v := .ty "tuple") rfl B.tuple bb_tuple rfl) pa_nil))))) (pw_or1 (pt_cmpR op_ne (pe_callB call_lenA (by rfl) B.len boot_len (pa_cons (pv 2) pa_nil)) pe_int (nomark _)))))
      (pss_one (ps_ret pe_bl))
      pss_nil)
    (pss_cons (ps_asg (pv 2) (pg_tup (n := 2) rfl (pgs_cons (pg_name (i := 3) sc_is_level_paper.nd rfl (Or.inr rfl)) (pgs_cons (pg_name (i := 4) sc_is_level_paper.nd rfl (Or.inl rfl)) pgs_nil))))
    (pss_cons (ps_if (PW.pt (pw_or (pt_not (pt_val (pc c_is_amount hg hr (by decide) (by rfl) (pa_cons (pv 3) pa_nil)))) (pw_or1 (pt_cmpR (op_neW hu) (pc c_total hg hr (by decide) (by rfl) (pa_cons (pe_lc (own := [("one", 5)]) rfl sc_is_level_paper.nd (pi_list (pv 0)) (blkOk_by (own := [("one", 5)]) (N := ["curves", "amount", "thing", "level", "index", "one"]) (sc := (defScope sis_level_paper)) (by decide +kernel)) (fun _ _ _ _ _ => (pg_name (i := 5) sc_is_level_paper.nd rfl (Or.inl rfl))) (fun _ _ _ _ _ => pts_nil) (fun _ _ _ _ _ => (pc c_pay_at hg hr (by decide) (by rfl) (pa_cons (pv 5) (pa_cons (pv 3) pa_nil))))) pa_nil)) (pv 1) (nomark _)))))
      (pss_one (ps_ret pe_bl))
      pss_nil)
    (pss_cons (ps_if (pt_cmpR (op_eqW hu) (pv 3) (pe_glob (v := .ref z) (by rfl) mz rz) (nomark _))
      (pss_one (ps_ret (pe_cmpR op_isN (pv 4) pe_non (nomark _))))
      pss_nil)
    (pss_one (ps_ret (pe_and (pc c_is_integer hg hr (by decide) (by rfl) (pa_cons (pv 4) pa_nil)) (pe_and (pe_chain op_le op_lt pe_int (pv 4) (pe_callB call_lenA (by rfl) B.len boot_len (pa_cons (pv 0) pa_nil))) (pe_one (pe_cmpR (op_neW hu) (pc c_rose_to hg hr (by decide) (by rfl) (pa_cons (pe_ix ix_list (pv 0) (pv 4) (fun _ _ => rfl)) (pa_cons (pv 3) pa_nil))) (pe_glob (v := .ref z) (by rfl) mz rz) (nomark _))))))))))), ?_⟩
  have sm := sm_of hc hl
  have hlen := hA.length
  rw [List.length_map] at hlen
  have hz : ∀ H, Ql K H (.ref z) 0 := fun H => ql_zero KZ
  refine ⟨_, rfl, _, "tuple", mu, d, rfl, by decide, hv, _, rfl, ?_⟩
  have k0 := k H (Same.refl H)
  refine iteN (fun ht => ?_) fun ht => ?_
  · have e : jP cs A1 d = false := by
      cases d <;> first | rfl | (simp [isT, tyName] at ht)
    rw [e] at k0
    exact iteT k0
  · obtain ⟨ds, rfl⟩ := (isTup d).mp ht
    obtain ⟨t, ts, rfl, hT, hD⟩ := hv.tupAt
    have el := hD.length
    refine ⟨_, rfl, _, ts.length, rfl, .inr ⟨_, hT, rfl⟩, rfl, _, rfl, iteNe (fun hn => ?_) fun hn => ?_⟩
    · have e : jP cs A1 (.tuple ds) = false := by
        unfold jP
        split
        · rename_i z
          injection z with z
          rw [z] at el
          simp at el
          omega
        · rfl
      rw [e] at k0
      exact k0
    · obtain ⟨x4, x5, d1, d2, rfl, rfl, r1, r2⟩ := hD.two (by omega)
      have o1 : Ok d1 := hd.inT (by simp)
      have o2 : Ok d2 := hd.inT (by simp)
      refine ⟨_, rfl, t, _, rfl, hT, rfl, _, _, rfl, _, _, rfl, rfl, ?_⟩
      refine ⟨_, rfl, x4, mu, d1, rfl, r1, o1, fun H1 s1 => ⟨_, rfl, iteN (fun h1 => iteT ?_) fun h1 => ?_⟩⟩
      · have kk := k H1 s1
        have e : jP cs A1 (.tuple [d1, d2]) = false := by
          rw [jP_two, h1]
          rfl
        rw [e] at kk
        exact kk
      · obtain ⟨l, rfl, l0⟩ := amt_fr h1
        have bl := rb_okd o1
        have hx : Ql K H1 x4 l := dt_ql (r1.fut (.of_same s1))
        have eJ : jP cs A1 (.tuple [frD l, d2]) = (decide (sumE cs l = A1) && ixJ cs l d2) := by
          rw [jP_two, h1, Bool.true_and, frV_fr]
        have hS1 := SqL.exN hS (exN_same s1)
        have hA1 := hA.fut (mu := mT) (.of_same s1)
        refine ⟨_, rfl, a, rfl, ⟨xs, hS1⟩, fun D nD => ?_⟩
        refine lc_it (walk_list (K := K) (a := a) (xs := xs)) (fun i H' => Same H1 H' ∧ ∃ us, H' D = some (.lst us) ∧ DtA K mT H' us (((cs.take i).map fun c => c.ev l).map frD)) ⟨same_upd nD, [], upd_same, .nil⟩ (fun i H' _ h => SqL.exN hS1 (exN_same h.1)) ?_ ?_
        · rintro i x1 H3 H4 hi ⟨s3, us, e3, a3⟩ ⟨rfl, gx⟩
          obtain ⟨c, hcc⟩ : ∃ c, cs[i]? = some c := ⟨_, List.getElem?_eq_getElem (by omega)⟩
          have mc := List.mem_of_getElem? hcc
          obtain ⟨v', w1, dv⟩ := hA1.getD (i := i) (d := cvD c) (by rw [List.getElem?_map, hcc]; rfl)
          rw [gx] at w1
          cases w1
          have l1 := a3.length
          rw [List.length_map, List.length_map, List.length_take] at l1
          refine ⟨rfl, _, rfl, _, rfl, x1, x4, c, l, rfl, dt_same dv s3, hx.same s3, sm.ok c mc, (sm.cb c mc).mono (by decide) (by decide), bl.mono (by decide) (by decide), l0, Nat.le_trans (sm.n c mc) (by decide), fun v3 H5 s5 h5 => ?_⟩
          have e5 := s5 _ _ e3
          refine ⟨us, e5, small1000 (by omega), same_at (s3.trans s5) nD, us ++ [v3], upd_same, ?_⟩
          rw [take_snoc hcc, List.map_append]
          exact dtA_at ((a3.fut (.of_same s5)).append (.cons h5.dt .nil)) e5
        · rintro H3 ⟨s3, us, e3, a3⟩
          rw [List.take_of_length_le (by omega)] at a3
          refine ⟨D, us, cs.map (fun c : Cv => c.ev l), rfl, .inl (.inl e3), a3, fun q hq => ?_, fun i hi => ?_, fun v3 H4 s4 h4 => ?_⟩
          · obtain ⟨c, h, rfl⟩ := List.mem_map.mp hq
            exact (ev_any (hc c h) l0 bl).bq (by decide) (by decide)
          · rw [← List.map_take]
            exact (sumE_any (cs := cs.take i) (fun c h => hc c (List.mem_of_mem_take h)) (by rw [List.length_take]; omega) l0 bl).bq (by decide) (by decide)
          · have h4 : Ql K H4 v3 (sumE cs l) := h4
            have s14 := s3.trans s4
            have s04 := s1.trans s14
            refine ⟨_, rfl, ⟨mT, frD _, frD A1, h4.dt, (hy.same s04).dt, fr_shaped _, fr_shaped _, _, rfl, ?_⟩⟩
            rw [eqv_fr]
            have kk := k H4 s04
            rw [eJ] at kk
            by_cases w : sumE cs l = A1
            · rw [decide_eq_true w] at kk ⊢
              rw [Bool.true_and] at kk
              refine iteF ?_
              refine ⟨_, rfl, ⟨mT, frD l, frD 0, (hx.same s14).dt, (hz H4).dt, fr_shaped _, fr_shaped _, _, rfl, ?_⟩⟩
              rw [eqv_fr]
              refine iteP (fun e => ?_) fun e => ?_
              · refine ⟨_, rfl, rfl, ?_⟩
                unfold ixJ at kk
                rw [if_pos e] at kk
                have := dt_non (r2.fut (.of_same s04))
                rw [← this] at kk
                exact kk
              · have kx : ∀ H', Same H4 H' → Q (.bl (ixJ cs l d2)) H' := fun H' s' => by
                  have kk := k H' (s04.trans s')
                  rw [eJ, decide_eq_true w, Bool.true_and] at kk
                  exact kk
                have no : (∀ i, d2 = .int i → False) → ixJ cs l d2 = false := fun z => by
                  unfold ixJ
                  rw [if_neg e]
                  cases d2 <;> first | rfl | exact (z _ rfl).elim
                refine ⟨_, rfl, x5, mu, d2, rfl, r2.fut (.of_same s04), o2, fun H5 s5 => ⟨_, rfl, iteB (fun h2 => ?_) fun h2 => ?_⟩⟩
                · obtain ⟨i, rfl⟩ := (isIntD d2).mp h2
                  cases r2
                  have ek : ixJ cs l (.int i) = (decide (0 ≤ i) && decide (i < cs.length) && (match cs[i.toNat]? with | some c => !decide (lsl c l = 0) | none => false)) := by
                    unfold ixJ
                    rw [if_neg e]
                  rw [ek] at kx
                  have s15 := s14.trans s5
                  have s05 := s04.trans s5
                  refine ⟨_, rfl, _, _, rfl, rfl, _, rfl, iteP (fun h3 => ?_) fun h3 => ?_⟩
                  · rw [decide_eq_true h3, Bool.true_and] at kx
                    refine ⟨_, rfl, _, xs.length, rfl, .inl ⟨xs, SqL.exN hS (exN_same s05), rfl⟩, _, _, rfl, rfl, _, rfl, iteP (fun h4' => ?_) fun h4' => ?_⟩
                    · have h5 : i < (cs.length : Int) := by omega
                      rw [decide_eq_true h5, Bool.true_and] at kx
                      obtain ⟨c, hcc⟩ : ∃ c, cs[i.toNat]? = some c := ⟨_, List.getElem?_eq_getElem (by omega)⟩
                      have mc := List.mem_of_getElem? hcc
                      obtain ⟨v', w1, dv⟩ := hA.getD (i := i.toNat) (d := cvD c) (by rw [List.getElem?_map, hcc]; rfl)
                      rw [hcc] at kx
                      have ei : i = ((i.toNat : Nat) : Int) := by omega
                      refine ⟨_, rfl, _, rfl, a, xs, i, v', rfl, rfl, SqL.exN hS (exN_same s05), by rw [ei]; exact atI_nat (j := i.toNat) w1, _, rfl, v', x4, c, l, rfl, dt_same dv s05, hx.same s15, sm.ok c mc, (sm.cb c mc).mono (by decide) (by decide), bl.mono (by decide) (by decide), l0, Nat.le_trans (sm.n c mc) (by decide), fun v6 H6 s6 h6 => ?_⟩
                      refine ⟨mT, frD _, frD 0, h6.dt, (hz H6).dt, fr_shaped _, fr_shaped _, ?_⟩
                      rw [eqv_fr]
                      exact kx H6 (s5.trans s6)
                    · rw [decide_eq_false (show ¬ i < (cs.length : Int) by omega), Bool.false_and] at kx
                      exact kx H5 s5
                  · rw [decide_eq_false h3, Bool.false_and, Bool.false_and] at kx
                    exact ⟨_, rfl, iteF (kx H5 s5)⟩
                · rw [no fun i e' => by rw [e'] at h2; cases h2] at kx
                  exact kx H5 s5
            · rw [decide_eq_false w] at kk ⊢
              exact iteT kk
theorem ok__law_sum_any {f : Addr} {fd : FuncData} (F : Fun K "_law_sum_at" "_law_sum_at" s_law_sum_at f fd) (B : Bt mg) (c__law_total : CalG P w K mg base 4 "_law_total" (spTotQ K)) (c__law_paid_at : CalG P w K mg base 4 "_law_paid_at" (spPay K)) : FnG P w K mg base 5 f fd ["curves", "level"] (spSumAny K) := by
  refine Fun.okG F sc__law_sum_at (fun vs H Q E h => ?_) (fun cdv A outer s H vs Q E hg hr h => ?_)
  · obtain ⟨_, _, _, _, _, rfl, _⟩ := h
    rfl
  obtain ⟨a, xs, cs, y, x, rfl, hS, hA, l5, hc5, hy, bx, x0, k⟩ := h
  have sm := sm_of hc5 l5
  refine ⟨_, (pss_one (ps_ret (pc c__law_total hg hr (by decide) (by rfl) (pa_cons (pe_lc (own := [("one", 2)]) rfl sc__law_sum_at.nd (pi_list (pv 0)) (blkOk_by (own := [("one", 2)]) (N := ["curves", "level", "one"]) (sc := (defScope s_law_sum_at)) (by decide +kernel)) (fun _ _ _ _ _ => (pg_name (i := 2) sc__law_sum_at.nd rfl (Or.inl rfl))) (fun _ _ _ _ _ => pts_nil) (fun _ _ _ _ _ => (pc c__law_paid_at hg hr (by decide) (by rfl) (pa_cons (pv 2) (pa_cons (pv 1) pa_nil))))) pa_nil)))), ?_⟩
  have hlen := hA.length
  rw [List.length_map] at hlen
  refine ⟨_, rfl, a, rfl, ⟨xs, hS⟩, fun D nD => ?_⟩
  refine lc_it (walk_list (K := K) (a := a) (xs := xs)) (fun i H' => Same H H' ∧ ∃ us, H' D = some (.lst us) ∧ DtA K mT H' us (((cs.take i).map fun c => c.ev x).map frD)) ⟨same_upd nD, [], upd_same, .nil⟩ (fun i H' _ h => SqL.exN hS (exN_same h.1)) ?_ ?_
  · rintro i x1 H1 H2 hi ⟨s1, us, e1, a1⟩ ⟨rfl, gx⟩
    obtain ⟨c, hc⟩ : ∃ c, cs[i]? = some c := ⟨_, List.getElem?_eq_getElem (by omega)⟩
    have mc := List.mem_of_getElem? hc
    obtain ⟨v, w1, dv⟩ := hA.getD (i := i) (d := cvD c) (by rw [List.getElem?_map, hc]; rfl)
    rw [gx] at w1
    cases w1
    have l1 := a1.length
    rw [List.length_map, List.length_map, List.length_take] at l1
    refine ⟨rfl, _, rfl, _, rfl, x1, y, c, x, rfl, dt_same dv s1, hy.same s1, sm.ok c mc, (sm.cb c mc).mono (by decide) (by decide), bx.mono (by decide) (by decide), x0, Nat.le_trans (sm.n c mc) (by decide), fun v3 H3 s3 h3 => ?_⟩
    have e3 := s3 _ _ e1
    refine ⟨us, e3, small1000 (by omega), same_at (s1.trans s3) nD, us ++ [v3], upd_same, ?_⟩
    rw [take_snoc hc, List.map_append]
    exact dtA_at ((a1.fut (.of_same s3)).append (.cons h3.dt .nil)) e3
  · rintro H1 ⟨s1, us, e1, a1⟩
    rw [List.take_of_length_le (by omega)] at a1
    refine ⟨D, us, cs.map (fun c : Cv => c.ev x), rfl, .inl (.inl e1), a1, fun q hq => ?_, fun i hi => ?_, fun v H2 s2 h2 => k v H2 (s1.trans s2) h2⟩
    · obtain ⟨c, h, rfl⟩ := List.mem_map.mp hq
      exact (ev_any (hc5 c h) x0 bx).bq (by decide) (by decide)
    · rw [← List.map_take]
      exact (sumE_any (cs := cs.take i) (fun c h => hc5 c (List.mem_of_mem_take h)) (by rw [List.length_take]; omega) x0 bx).bq (by decide) (by decide)
abbrev s_law_is_paper : Stmt := topS 68
theorem sc__law_is_paper : FnScope ["curves", "amount", "thing", "level", "index"] ["curves", "amount", "thing"] (defScope s_law_is_paper) := ⟨rfl, rfl, rfl, by decide +kernel, rfl, by decide +kernel, by decide +kernel⟩
theorem ok__law_is_paper {f : Addr} {fd : FuncData} (F : Fun K "_law_is_paper" "_law_is_paper" s_law_is_paper f fd) (B : Bt mg) (c__law_is_fraction : CalG P w K mg base 2 "_law_is_fraction" (spP K isFrac)) (c__law_is_int : CalG P w K mg base 1 "_law_is_int" (spP K isInt))
    (c__law_sum_at : CalG P w K mg base 5 "_law_sum_at" (spSumAny K)) (c__law_rose : CalG P w K mg base 5 "_law_rose" (spRoseB K)) : FnG P w K mg base 6 f fd ["curves", "amount", "thing"] (spJ K) := by
  refine Fun.okG F sc__law_is_paper (fun vs H Q E h => ?_) (fun cdv A outer s H vs Q E hg hr h => ?_)
  · obtain ⟨_, _, _, _, _, _, _, _, rfl, _⟩ := h
    rfl
  obtain ⟨a, xs, cs, y, v, A1, mu, d, rfl, hS, hA, hl, hc, hy, hv, hd, k⟩ := h
  have hu := Room.u64 hr
  refine ⟨_, (pss_cons (ps_if (PW.pt (pw_or (pt_not (pt_val (pe_callB call_isD (by rfl) B.isin bb_isin (pa_cons (pv 2) (pa_cons (pe_bltn (v := .ty "tuple") rfl B.tuple bb_tuple rfl) pa_nil))))) (pw_or (pt_cmpR op_ne (pe_callB call_lenA (by rfl) B.len boot_len (pa_cons (pv 2) pa_nil)) pe_int (nomark _)) (pw_or (pt_not (pt_val (pc c__law_is_fraction hg hr (by decide) (by rfl) (pa_cons (pe_ix ix_tup (pv 2) pe_int (fun _ _ => rfl)) pa_nil)))) (pw_or1 (pt_cmpR op_lt (pe_ix ix_tup (pe_ix ix_tup (pv 2) pe_int (fun _ _ => rfl)) pe_int (fun _ _ => rfl)) pe_int (nomark _)))))))
      (pss_one (ps_ret pe_bl))
      pss_nil)
    (pss_cons (ps_asg (pv 2) (pg_tup (n := 2) rfl (pgs_cons (pg_name (i := 3) sc__law_is_paper.nd rfl (Or.inl rfl)) (pgs_cons (pg_name (i := 4) sc__law_is_paper.nd rfl (Or.inl rfl)) pgs_nil))))
    (pss_cons (ps_if (pt_cmpR (op_neW hu) (pc c__law_sum_at hg hr (by decide) (by rfl) (pa_cons (pv 0) (pa_cons (pv 3) pa_nil))) (pv 1) (nomark _))
      (pss_one (ps_ret pe_bl))
      pss_nil)
    (pss_cons (ps_if (pt_cmpR (op_eqW hu) (pv 3) (pe_tup (pa_cons pe_int (pa_cons pe_int pa_nil))) (nomark _))
      (pss_one (ps_ret (pe_cmpR op_isN (pv 4) pe_non (nomark _))))
      pss_nil)
    (pss_one (ps_ret (pe_and (pc c__law_is_int hg hr (by decide) (by rfl) (pa_cons (pv 4) pa_nil)) (pe_and (pe_chain op_le op_lt pe_int (pv 4) (pe_callB call_lenA (by rfl) B.len boot_len (pa_cons (pv 0) pa_nil))) (pe_one (pc c__law_rose hg hr (by decide) (by rfl) (pa_cons (pe_ix ix_list (pv 0) (pv 4) (fun _ _ => rfl)) (pa_cons (pv 3) pa_nil)))))))))))), ?_⟩
  have sm := sm_of hc hl
  have hlen := hA.length
  rw [List.length_map] at hlen
  refine ⟨_, rfl, _, "tuple", mu, d, rfl, by decide, hv, _, rfl, ?_⟩
  have k0 := k H (Same.refl H)
  refine iteN (fun ht => ?_) fun ht => ?_
  · have e : jP cs A1 d = false := by
      cases d <;> first | rfl | (simp [isT, tyName] at ht)
    rw [e] at k0
    exact iteT k0
  · obtain ⟨ds, rfl⟩ := (isTup d).mp ht
    obtain ⟨t, ts, rfl, hT, hD⟩ := hv.tupAt
    have el := hD.length
    refine ⟨_, rfl, _, ts.length, rfl, .inr ⟨_, hT, rfl⟩, rfl, _, rfl, iteNe (fun hn => ?_) fun hn => ?_⟩
    · have e : jP cs A1 (.tuple ds) = false := by
        unfold jP
        split
        · rename_i z
          injection z with z
          rw [z] at el
          simp at el
          omega
        · rfl
      rw [e] at k0
      exact iteT k0
    · obtain ⟨x4, x5, d1, d2, rfl, rfl, r1, r2⟩ := hD.two (by omega)
      have o1 : Ok d1 := hd.inT (by simp)
      have o2 : Ok d2 := hd.inT (by simp)
      refine ⟨_, rfl, t, _, 0, x4, rfl, rfl, hT, atI_nat (j := 0) rfl, x4, mu, d1, rfl, r1, o1, fun H1 s1 => ⟨_, rfl, iteN (fun h1 => iteT ?_) fun h1 => ?_⟩⟩
      · have kk := k H1 s1
        have e : jP cs A1 (.tuple [d1, d2]) = false := by
          rw [jP_two, frac_amt h1]
          rfl
        rw [e] at kk
        exact kk
      · obtain ⟨l, rfl⟩ := frac_fr h1
        have bl := rb_okd o1
        have hx : Ql K H1 x4 l := dt_ql (r1.fut (.of_same s1))
        obtain ⟨ta, rfl, hta⟩ := id hx
        refine ⟨_, rfl, t, _, 0, _, rfl, rfl, s1.seqT hT, atI_nat (j := 0) rfl, ta, _, 0, _, rfl, rfl, hta, atI_nat (j := 0) rfl, _, _, rfl, rfl, _, rfl, iteP (fun h2 => ?_) fun h2 => ?_⟩
        · have kk := k H1 s1
          have e : jP cs A1 (.tuple [frD l, d2]) = false := by
            rw [jP_two, isAmt_fr, decide_eq_false (by omega)]
            rfl
          rw [e] at kk
          exact kk
        · have ha : isAmt (frD l) = true := by
            rw [isAmt_fr]
            exact decide_eq_true (by omega)
          obtain ⟨l', el', l0⟩ := amt_fr ha
          have el' := fr_inj.mp el'
          rw [← el'] at l0
          have eJ : jP cs A1 (.tuple [frD l, d2]) = (decide (sumE cs l = A1) && ixJ cs l d2) := by
            rw [jP_two, ha, Bool.true_and, frV_fr]
          refine ⟨_, rfl, t, _, rfl, s1.seqT hT, rfl, _, _, rfl, _, _, rfl, rfl, ?_⟩
          refine ⟨_, rfl, _, rfl, a, xs, cs, _, l, rfl, SqL.exN hS (exN_same s1), hA.fut (.of_same s1), hl, hc, hx, bl, l0, fun v3 H4 s14 h4 => ?_⟩
          have s04 := s1.trans s14
          refine ⟨_, rfl, ⟨mT, frD _, frD A1, h4.dt, (hy.same s04).dt, fr_shaped _, fr_shaped _, _, rfl, ?_⟩⟩
          rw [eqv_fr]
          have kk := k H4 s04
          rw [eJ] at kk
          by_cases w : sumE cs l = A1
          · rw [decide_eq_true w]
            refine iteF ?_
            refine ⟨_, rfl, sz8 (by simp), fun Z nZ => ?_⟩
            have sZ := same_upd (o := .tup [V.int 0, V.int 1]) nZ
            have qz : Ql K (upd H4 Z (.tup [V.int 0, V.int 1])) (.ref Z) 0 := ⟨Z, rfl, .inl (.inl upd_same)⟩
            generalize upd H4 Z (.tup [V.int 0, V.int 1]) = H6 at sZ qz
            have s16 := s14.trans sZ
            have s06 := s04.trans sZ
            have kx : ∀ H', Same H6 H' → Q (.bl (ixJ cs l d2)) H' := fun H' s' => by
              have kk := k H' (s06.trans s')
              rw [eJ, decide_eq_true w, Bool.true_and] at kk
              exact kk
            refine ⟨mT, frD l, frD 0, (hx.same s16).dt, qz.dt, fr_shaped _, fr_shaped _, _, rfl, ?_⟩
            rw [eqv_fr]
            refine iteP (fun e => ?_) fun e => ?_
            · refine ⟨_, rfl, rfl, ?_⟩
              have kk := kx H6 (.refl H6)
              unfold ixJ at kk
              rw [if_pos e] at kk
              have := dt_non (r2.fut (.of_same s06))
              rw [← this] at kk
              exact kk
            · have lp : 0 < l := by grind
              have no : (∀ i, d2 = .int i → False) → ixJ cs l d2 = false := fun z => by
                unfold ixJ
                rw [if_neg e]
                cases d2 <;> first | rfl | exact (z _ rfl).elim
              refine ⟨_, rfl, x5, mu, d2, rfl, r2.fut (.of_same s06), o2, fun H5 s5 => ⟨_, rfl, iteB (fun h2 => ?_) fun h2 => ?_⟩⟩
              · obtain ⟨i, rfl⟩ := (isIntD d2).mp h2
                cases r2
                have ek : ixJ cs l (.int i) = (decide (0 ≤ i) && decide (i < cs.length) && (match cs[i.toNat]? with | some c => !decide (lsl c l = 0) | none => false)) := by
                  unfold ixJ
                  rw [if_neg e]
                rw [ek] at kx
                have s15 := s16.trans s5
                have s05 := s06.trans s5
                refine ⟨_, rfl, _, _, rfl, rfl, _, rfl, iteP (fun h3 => ?_) fun h3 => ?_⟩
                · rw [decide_eq_true h3, Bool.true_and] at kx
                  refine ⟨_, rfl, _, xs.length, rfl, .inl ⟨xs, SqL.exN hS (exN_same s05), rfl⟩, _, _, rfl, rfl, _, rfl, iteP (fun h4' => ?_) fun h4' => ?_⟩
                  · have h5 : i < (cs.length : Int) := by omega
                    rw [decide_eq_true h5, Bool.true_and] at kx
                    obtain ⟨c, hcc⟩ : ∃ c, cs[i.toNat]? = some c := ⟨_, List.getElem?_eq_getElem (by omega)⟩
                    have mc := List.mem_of_getElem? hcc
                    obtain ⟨v', w1, dv⟩ := hA.getD (i := i.toNat) (d := cvD c) (by rw [List.getElem?_map, hcc]; rfl)
                    rw [hcc] at kx
                    have ei : i = ((i.toNat : Nat) : Int) := by omega
                    refine ⟨_, rfl, _, rfl, a, xs, i, v', rfl, rfl, SqL.exN hS (exN_same s05), by rw [ei]; exact atI_nat (j := i.toNat) w1, _, rfl, v', _, c, l, rfl, dt_same dv s05, hx.same s15, sm.ok c mc, (sm.cb c mc).mono (by decide) (by decide), bl.mono (by decide) (by decide), (ev_any (hc c mc) l0 bl).mono (by decide) (by decide), lp, Nat.le_trans (sm.n c mc) (by decide), fun H7 s7 => kx H7 (s5.trans s7)⟩
                  · rw [decide_eq_false (show ¬ i < (cs.length : Int) by omega), Bool.false_and] at kx
                    exact kx H5 s5
                · rw [decide_eq_false h3, Bool.false_and, Bool.false_and] at kx
                  exact ⟨_, rfl, iteF (kx H5 s5)⟩
              · rw [no fun i e' => by rw [e'] at h2; cases h2] at kx
                exact kx H5 s5
          · rw [decide_eq_false w] at kk ⊢
            exact iteT kk
end
end K33
namespace K33
open PySem PySem.Spec PyProof.Rows L2 Sw MC LamX
/-! what is paid, of any value -/
def pyD (cs : List Cv) : Option Rat → PyData
  | some q => .tuple ((cs.map fun c => c.ev q).map frD)
  | none => .none
def jA (cs : List Cv) (o : Option Rat) : PyData → Bool
  | .tuple ds => ds.all isFrac && PyData.eqv (.tuple ds) (pyD cs o)
  | _ => false
theorem all_fr : ∀ {ds : List PyData}, ds.all isFrac = true → ∃ qs : List Rat, ds = qs.map frD
  | [], _ => ⟨[], rfl⟩
  | d :: ds, h => by
    rw [List.all_cons, Bool.and_eq_true] at h
    obtain ⟨q, rfl⟩ := frac_fr h.1
    obtain ⟨qs, rfl⟩ := all_fr h.2
    exact ⟨q :: qs, rfl⟩
theorem dtA_fr {K : PySem.W.Frag} {mu mv : Addr → Prop} {H : Hp} : ∀ {xs : List V} {qs : List Rat}, DtA K mu H xs (qs.map frD) → DtA K mv H xs (qs.map frD)
  | [], [], _ => .nil
  | x :: xs, q :: qs, h => by
    cases h with
    | cons h t => exact .cons (dt_ql h).dt (dtA_fr t)
  | [], _ :: _, h => by cases h
  | _ :: _, [], h => by cases h
theorem shaped_frs (qs : List Rat) : SeqAt.shaped (.tuple (qs.map frD)) = true := by
  have h1 : PyData.canLayAll0 (qs.map frD) = true := by
    induction qs with
    | nil => rfl
    | cons q qs ih =>
      show (PyData.canLay0 (frD q) && PyData.canLayAll0 (qs.map frD)) = true
      rw [ih]
      rfl
  have h2 : PyData.depthAll (qs.map frD) ≤ 1 := by
    clear h1
    induction qs with
    | nil => exact Nat.zero_le _
    | cons q qs ih =>
      show max (PyData.depth (frD q)) (PyData.depthAll (qs.map frD)) ≤ 1
      exact Nat.max_le.mpr ⟨Nat.le_refl _, ih⟩
  show (PyData.canLayAll0 (qs.map frD) && decide (PyData.depthAll (qs.map frD) + 1 ≤ 64)) = true
  rw [h1, decide_eq_true (by omega)]
  rfl
theorem shaped_py (cs : List Cv) (o : Option Rat) : SeqAt.shaped (pyD cs o) = true := by
  cases o with
  | none => rfl
  | some q => exact shaped_frs _
theorem pm_dt {K : PySem.W.Frag} {H : Hp} {v : V} {cs : List Cv} {o : Option Rat} (h : match o, v with | some l, v => Dt K mT H v (.tuple ((cs.map fun c => c.ev l).map frD)) | none, v => v = .non) : Dt K mT H v (pyD cs o) := by
  cases o with
  | none =>
    have h : v = .non := h
    subst h
    exact .non
  | some q => exact h
def spAP (K : PySem.W.Frag) (pt : Addr) : Sp := fun vs H Q _ => ∃ (a : Addr) (xs : List V) (cs : List Cv) (y v : V) (A : Rat) (mu : Addr → Prop) (d : PyData) (o : Option Rat), vs = [.ref a, y, v] ∧ SqL K H a xs ∧ DtA K mT H xs (cs.map cvD) ∧ cs.length ≤ 5 ∧ (∀ c ∈ cs, LC c) ∧ Ql K H y A ∧ 0 ≤ A ∧ Rb 480 380 A ∧ Lst (sumE cs) A o ∧ Dt K mu H v d ∧ Ok d ∧ Tabs (tbT pt) H ∧
  ∀ H', ExtN H H' → Tabs (tbT pt) H' → Q (.bl (jA cs o d)) H'
section
variable {P : Program} {w : World} {K : PySem.W.Frag} {mg : Str → Option Value} {base : Heap}
abbrev sare_paid : Stmt := topS 37
theorem sc_are_paid : FnScope ["curves", "amount", "thing", "one"] ["curves", "amount", "thing"] (defScope sare_paid) := ⟨rfl, rfl, rfl, by decide +kernel, rfl, by decide +kernel, by decide +kernel⟩
theorem ok_are_paid {f pt : Addr} {fd : FuncData} (F : Fun K "are_paid" "are_paid" sare_paid f fd) (B : Bt mg) (TA : mg "all" = none) (c_is_fraction : CalG P w K mg base 2 "is_fraction" (spP K isFrac)) (c_payments : CalG P w K mg base 8 "payments" (spPmt K pt)) : FnG P w K mg base 9 f fd ["curves", "amount", "thing"] (spAP K pt) := by
  refine Fun.okG F sc_are_paid (fun vs H Q E h => ?_) (fun cdv A outer s H vs Q E hg hr h => ?_)
  · obtain ⟨_, _, _, _, _, _, _, _, _, rfl, _⟩ := h
    rfl
  obtain ⟨a, xs, cs, y, v, A1, mu, d, o, rfl, hS, hA, hl, hc, hy, A0, bA, hL, hv, hd, hT, k⟩ := h
  have hu := Room.u64 hr
  refine ⟨_, (pss_cons (ps_if (PW.pt (pw_or (pt_not (pt_val (pe_callB call_isD (by rfl) B.isin bb_isin (pa_cons (pv 2) (pa_cons (pe_bltn (v := .ty "tuple") rfl B.tuple bb_tuple rfl) pa_nil))))) (pw_or1 (pt_not (pt_val (pe_callB (cr_all rfl) (by rfl) TA bb_all (pa_cons (pe_lc (own := [("one", 3)]) rfl sc_are_paid.nd (pi_tup (pv 2)) (blkOk_by (own := [("one", 3)]) (N := ["curves", "amount", "thing", "one"]) (sc := (defScope sare_paid)) (by decide +kernel)) (fun _ _ _ _ _ => (pg_name (i := 3) sc_are_paid.nd rfl (Or.inl rfl))) (fun _ _ _ _ _ => pts_nil) (fun _ _ _ _ _ => (pc c_is_fraction hg hr (by decide) (by rfl) (pa_cons (pv 3) pa_nil)))) pa_nil)))))))
      (pss_one (ps_ret pe_bl))
      pss_nil)
    (pss_one (ps_ret (pe_cmpR (op_eqW hu) (pv 2) (pc c_payments hg hr (by decide) (by rfl) (pa_cons (pv 0) (pa_cons (pv 1) pa_nil))) (nomark _))))), ?_⟩
  have sm := sm_of hc hl
  refine ⟨_, rfl, _, "tuple", mu, d, rfl, by decide, hv, _, rfl, ?_⟩
  have k0 := k H (.refl H) hT
  refine iteN (fun ht => ?_) fun ht => ?_
  · have e : jA cs o d = false := by
      cases d <;> first | rfl | (simp [isT, tyName] at ht)
    rw [e] at k0
    exact iteT k0
  · obtain ⟨ds, rfl⟩ := (isTup d).mp ht
    obtain ⟨t, ts, rfl, hTS, hD⟩ := hv.tupAt
    have el := hD.length
    have wt := hd.wt
    have tl : ts.length ≤ 27000 := by
      have : ∀ ds : List PyData, ds.length ≤ PyData.weightAll ds := fun ds => by
        induction ds with
        | nil => exact Nat.zero_le _
        | cons d ds ih =>
          show ds.length + 1 ≤ PyData.weight d + 1 + PyData.weightAll ds
          omega
      have h1 := this ds
      have h2 : PyData.weightAll ds ≤ 27000 := wt
      omega
    have big : (27000 : Nat) < sizeLine := by
      rw [sizeLine_eq]
      decide
    refine ⟨_, rfl, t, rfl, ⟨ts, hTS⟩, fun D nD => ?_⟩
    refine lc_it (walk_tup (K := K) (xs := ts) (a := t)) (fun i H' => Same H H' ∧ H' D = some (.lst (((ds.take i).map isFrac).map V.bl))) ⟨same_upd nD, upd_same⟩ (fun i H' _ h => h.1.seqT hTS) ?_ ?_
    · rintro i x H1 H2 hi ⟨s1, e1⟩ ⟨rfl, gx⟩
      obtain ⟨e, he⟩ : ∃ e, ds[i]? = some e := ⟨_, List.getElem?_eq_getElem (by omega)⟩
      obtain ⟨v', w1, dv⟩ := hD.getD he
      rw [gx] at w1
      cases w1
      refine ⟨rfl, _, rfl, x, mu, e, rfl, dv.fut (.of_same s1), hd.inT (List.mem_of_getElem? he), fun H3 s3 => ?_⟩
      have e3 := s3 _ _ e1
      refine ⟨_, e3, by rw [List.length_map, List.length_map, List.length_take]; omega, same_at (s1.trans s3) nD, ?_⟩
      rw [get_take he, List.map_append, List.map_append]
      exact upd_same
    · rintro H1 ⟨s1, e1⟩
      rw [List.take_of_length_le (by omega)] at e1
      refine ⟨D, ds.map isFrac, rfl, .inl (.inl e1), ⟨_, rfl, ?_⟩⟩
      have ea : (ds.map isFrac).all id = ds.all isFrac := by
        rw [List.all_map]
        rfl
      rw [ea]
      refine iteN (fun h1 => ?_) fun h1 => ?_
      · have kk := k H1 (exN_same s1) (tabs_same hT s1)
        have e : jA cs o (.tuple ds) = false := by
          show (ds.all isFrac && _) = false
          rw [h1]
          rfl
        rw [e] at kk
        exact kk
      · obtain ⟨qs, rfl⟩ := all_fr h1
        have T1 := tabs_same hT s1
        have hv1 : Dt K mT H1 (.ref t) (.tuple (qs.map frD)) := dt_tupS (s1.seqT hTS) (dtA_fr (hD.fut (.of_same s1)))
        refine ⟨_, rfl, _, rfl, _, rfl, false, a, xs, cs, y, A1, rfl, sqk_l (SqL.exN hS (exN_same s1)), hA.fut (.of_same s1), sm, hy.same s1, bA.mono (by decide) (by decide), A0, T1, fun l h => (lst_rb hc hl bA h).mono (by decide) (by decide), fun o2 v2 H2 e2 T2 hL2 hv2 => ?_⟩
        obtain rfl := hL2.uniq hL
        refine ⟨mT, .tuple (qs.map frD), pyD cs o2, hv1.fut (exN_fut e2), pm_dt hv2, shaped_frs _, shaped_py _ _, ?_⟩
        have kk := k H2 ((exN_same s1).trans e2) T2
        have e : jA cs o2 (.tuple (qs.map frD)) = PyData.eqv (.tuple (qs.map frD)) (pyD cs o2) := by
          show (((qs.map frD).all isFrac) && _) = _
          rw [h1, Bool.true_and]
        rw [e] at kk
        exact kk
end
end K33
namespace K33
open PySem PySem.Spec PyProof.Rows L2 Sw StX RZ
theorem bag_ne {H : Hp} {b a : Addr} (hb : BagAt H b) (n : H a = none) : a ≠ b := not_bag hb n
theorem gv_disp1i {K : PySem.W.Frag} {b : Addr} {mu : Addr → Prop} {σ : L2.St} {H0 : Hp} {D : PyData → Prop} {te : TE} {k : Int} {d : PyData} (hm : mu b) (h : ∀ mv : Addr → Prop, mv b → Ge K b mv σ H0 te d) (hd : D (.dict [(.int k, d)])) :
    Gv K b mu σ H0 (tDispN [(tC (.int k), te)]) D := fun H hb m Q q p np ns => by
  have npb : p ≠ b := fun z => by
    obtain ⟨_, _, _, _, _, e, _⟩ := hb.bag
    rw [z, e] at np
    cases np
  have r0 := Rel.of_same hb.bag (same_upd (o := .dK []) np)
  refine h (fun a => mu a ∨ a = p) (.inl hm) (upd H p (.dK [])) (hb.trans r0) (fun a z => ?_) _ fun v H1 r1 e1 => ?_
  · rcases z with z | rfl
    · exact (m.rel r0) a z
    · exact .inl (by rw [upd_same]; exact fun z => nomatch z)
  have hp := r1.keep _ _ npb upd_same
  refine ⟨hp, [(.inl k, v)], rfl, by simp, q _ _ _ hd ((r0.trans r1).at hb.bag np) (.dct (m.new np ns) (.inl upd_same) ?_) (own_not (fun _ z => nomatch z))⟩
  refine .cons (k := .inl k) ((e1.fut (mu := fun a => mu a ∨ a = p) fun c o e z => ?_).less fun a z => .inl z) .nil
  by_cases c1 : c = p
  · subst c1
    rw [hp] at e
    cases e
    rcases z with z | ⟨xs, z⟩ | ⟨ob, u, z⟩
    · exact absurd (.inr rfl) z
    · cases z
    · cases z
  · rw [upd_ne c1]
    exact e
theorem ge_pow {K : PySem.W.Frag} {b : Addr} {mu : Addr → Prop} {σ : L2.St} {H0 : Hp} {i j : Int} (hc : CPow i j) : Ge K b mu σ H0 (tOp (rI CPow fun i j => .int (i ^ j.toNat)) (tC (.int i)) (tC (.int j))) (.int (i ^ j.toNat)) := fun H hb _ _ q => ⟨i, j, rfl, rfl, hc, q _ H (.refl hb.bag) (.int _)⟩
theorem gvL_use {K : PySem.W.Frag} {b : Addr} {mu : Addr → Prop} {σ : L2.St} {H : Hp} {ta : TA} {g : TG} {D : PyData → Prop} {n : Nat} {E : Ends} (h : GvA K b mu σ H ta D n) (hb : BagAt H b) (m : MuOk mu H) (hn : n ≤ 1000) (k : ∀ p H' vs ds, ds.length = n → (∀ d ∈ ds, D d) → Rel b H H' → DtA K mu H' vs ds → H' p = some (.lst vs) → p ≠ b → g (.ref p) σ H' E.nx) : tAsg (tLst ta) g E σ H := by
  refine h H (.refl hb) m _ fun vs H1 ds hl hd R e _ => ⟨Nat.le_of_lt (small1000 (by rw [e.length, hl]; exact hn)), fun p np => ?_⟩
  exact k p _ vs ds hl hd (R.same (same_upd np)) (e.fut (.of_same (same_upd np))) upd_same (bag_ne R.bag np)
theorem gvT_use {K : PySem.W.Frag} {b : Addr} {mu : Addr → Prop} {σ : L2.St} {H : Hp} {ta : TA} {D : PyData → Prop} {n : Nat} {Q : VK} (h : GvA K b mu σ H ta D n) (hb : BagAt H b) (m : MuOk mu H) (hn : n ≤ 1000) (k : ∀ p H' vs ds, ds.length = n → (∀ d ∈ ds, D d) → Rel b H H' → DtA K mu H' vs ds → H' p = some (.lst vs) → p ≠ b → Q (.ref p) H') : tLst ta σ H Q := by
  refine h H (.refl hb) m _ fun vs H1 ds hl hd R e _ => ⟨Nat.le_of_lt (small1000 (by rw [e.length, hl]; exact hn)), fun p np => ?_⟩
  exact k p _ vs ds hl hd (R.same (same_upd np)) (e.fut (.of_same (same_upd np))) upd_same (bag_ne R.bag np)
def lenT (d : PyData) : Nat := match d with
  | .tuple ts => ts.length
  | _ => 0
/-- a small datum -/
def Om (d : PyData) : Prop := okD d = true ∧ d.depth ≤ 4 ∧ d.weight ≤ 1000 ∧ lenT d ≤ 50
instance (d : PyData) : Decidable (Om d) := inferInstanceAs (Decidable (okD d = true ∧ d.depth ≤ 4 ∧ d.weight ≤ 1000 ∧ lenT d ≤ 50))
section
variable {P : Program} {w : World} {K : PySem.W.Frag} {mg : Str → Option Value} {base : Heap}
def spOdd (K : PySem.W.Frag) : Sp := fun vs H Q _ => ∃ (b : Addr) (mu : Addr → Prop), vs = [.ref b] ∧ mu b ∧ BagAt H b ∧ MuOk mu H ∧ ∀ v H' d, Om d → Rel b H H' → Dt K mu H' v d → Q v H'
abbrev s_law_odd : Stmt := topS 65
theorem sc__law_odd : FnScope ["bag", "some"] ["bag"] (defScope s_law_odd) := ⟨rfl, rfl, rfl, by decide +kernel, rfl, by decide +kernel, by decide +kernel⟩
theorem ok__law_odd {f : Addr} {fd : FuncData} (F : Fun K "_law_odd" "_law_odd" s_law_odd f fd) (B : Bt mg) (c__law_some : CalG P w K mg base 2 "_law_some" spSome) : FnG P w K mg base 3 f fd ["bag"] (spOdd K) := by
  refine Fun.okG F sc__law_odd (fun vs H Q E h => ?_) (fun cdv A outer s H vs Q E hg hr h => ?_)
  · obtain ⟨_, _, rfl, _⟩ := h
    rfl
  obtain ⟨b, mu, rfl, hmu, hb, hM, k⟩ := h
  refine ⟨_, (pss_cons (ps_set (i := 1) sc__law_odd.nd rfl (Or.inl rfl) (pe_lst (pa_cons pe_non (pa_cons pe_bl (pa_cons pe_bl (pa_cons pe_int (pa_cons pe_int (pa_cons (pe_un un_neg pe_int) (pa_cons (pe_op op_pow pe_int pe_int) (pa_cons pe_str (pa_cons pe_str (pa_cons pe_str (pa_cons (pe_tup pa_nil) (pa_cons (pe_lstN pa_nil) (pa_cons pe_dnewN (pa_cons (pe_tup (pa_cons pe_int pa_nil)) (pa_cons (pe_lstN (pa_cons pe_int pa_nil)) (pa_cons (pe_tup (pa_cons pe_int (pa_cons pe_int pa_nil))) (pa_cons (pe_tup (pa_cons pe_int (pa_cons pe_int pa_nil))) (pa_cons (pe_tup (pa_cons pe_int (pa_cons pe_int pa_nil))) pa_nil))))))))))))))))))))
    (pss_cons (ps_set (i := 1) sc__law_odd.nd rfl (Or.inl rfl) (pe_op op_cat (pv 1) (pe_lst (pa_cons (pe_tup (pa_cons (pe_tup (pa_cons pe_int (pa_cons pe_int pa_nil))) (pa_cons pe_int pa_nil))) (pa_cons (pe_tup (pa_cons (pe_tup (pa_cons pe_int (pa_cons pe_int pa_nil))) (pa_cons pe_non pa_nil))) (pa_cons (pe_tup (pa_cons pe_str (pa_cons pe_str pa_nil))) (pa_cons (pe_tup (pa_cons pe_str pa_nil)) (pa_cons (pe_dispN (pps_cons pe_str (pe_tup pa_nil) pps_nil) rfl rfl (fun z => nomatch z) (by decide)) (pa_cons (pe_dispN (pps_cons pe_str (pe_tup (pa_cons pe_int (pa_cons pe_int pa_nil))) pps_nil) rfl rfl (fun z => nomatch z) (by decide)) (pa_cons (pe_tup (pa_cons (pe_tup (pa_cons pe_int (pa_cons pe_int pa_nil))) pa_nil)) (pa_cons (pe_dispN (pps_cons pe_int pe_int pps_nil) rfl rfl (fun z => nomatch z) (by decide)) pa_nil)))))))))))
    (pss_one (ps_ret (pc c__law_some hg hr (by omega) (by rfl) (pa_cons (pv 0) (pa_cons (pv 1) pa_nil))))))), ?_⟩
  have sz9 : ∀ {xs : List V}, xs.length ≤ 1000 → xs.length ≤ sizeLine := fun h => Nat.le_of_lt (small1000 h)
  have g2 : ∀ {σ : L2.St} {H0 : Hp} {ta : TA} {ds : List PyData}, GeA K b mu σ H0 ta ds → ds.length ≤ 1000 → Om (.tuple ds) → Gv K b mu σ H0 (tTup ta) Om := fun {σ H0 ta ds} h l t => (ge_tup hmu h l).gv t
  have p01 : ∀ {σ : L2.St} {H0 : Hp} {x y : Int}, Ge K b mu σ H0 (tTup (tCons (tC (.int x)) (tCons (tC (.int y)) tNil))) (.tuple [.int x, .int y]) := fun {σ H0 x y} => ge_tup hmu (geA_cons hmu ge_int (geA_cons hmu ge_int geA_nil)) (show 2 ≤ 1000 by decide)
  refine gvL_use (D := Om) (n := 18) (b := b) (mu := mu) (K := K) (
    gvA_cons hmu (ge_non.gv (by decide +kernel))
    (gvA_cons hmu (ge_bl.gv (by decide +kernel))
    (gvA_cons hmu (ge_bl.gv (by decide +kernel))
    (gvA_cons hmu (ge_int.gv (by decide +kernel))
    (gvA_cons hmu (ge_int.gv (by decide +kernel))
    (gvA_cons hmu (ge_neg.gv (by decide +kernel))
    (gvA_cons hmu ((ge_pow (i := 10) (j := 39) ⟨by decide, by decide, by decide⟩).gv (by decide +kernel))
    (gvA_cons hmu (ge_str.gv (by decide +kernel))
    (gvA_cons hmu (ge_str.gv (by decide +kernel))
    (gvA_cons hmu (ge_str.gv (by decide +kernel))
    (gvA_cons hmu (g2 geA_nil (show 0 ≤ 1000 by decide) (by decide +kernel))
    (gvA_cons hmu (gv_lst hmu geA_nil (show 0 ≤ 1000 by decide) (by decide +kernel))
    (gvA_cons hmu (gv_dict (by decide +kernel))
    (gvA_cons hmu (g2 (geA_cons hmu ge_int geA_nil) (show 1 ≤ 1000 by decide) (by decide +kernel))
    (gvA_cons hmu (gv_lst hmu (geA_cons hmu ge_int geA_nil) (show 1 ≤ 1000 by decide) (by decide +kernel))
    (gvA_cons hmu (p01.gv (by decide +kernel))
    (gvA_cons hmu (p01.gv (by decide +kernel))
    (gvA_cons hmu (p01.gv (by decide +kernel)) gvA_nil)))))))))))))))))) hb hM (by decide) fun p1 H2 vs1 ds1 hl1 hd1 R1' e1' hp1 p1b => ?_
  refine ⟨_, rfl, gvT_use (D := Om) (n := 8) (b := b) (mu := mu) (K := K) (
    gvA_cons hmu (g2 (geA_cons hmu p01 (geA_cons hmu ge_int geA_nil)) (show 2 ≤ 1000 by decide) (by decide +kernel))
    (gvA_cons hmu (g2 (geA_cons hmu p01 (geA_cons hmu ge_non geA_nil)) (show 2 ≤ 1000 by decide) (by decide +kernel))
    (gvA_cons hmu (g2 (geA_cons hmu ge_str (geA_cons hmu ge_str geA_nil)) (show 2 ≤ 1000 by decide) (by decide +kernel))
    (gvA_cons hmu (g2 (geA_cons hmu ge_str geA_nil) (show 1 ≤ 1000 by decide) (by decide +kernel))
    (gvA_cons hmu (gv_disp1 hmu (fun mv hv => ge_tup hv geA_nil (show 0 ≤ 1000 by decide)) (by decide +kernel))
    (gvA_cons hmu (gv_disp1 hmu (fun mv hv => ge_tup hv (geA_cons hv ge_int (geA_cons hv ge_int geA_nil)) (show 2 ≤ 1000 by decide)) (by decide +kernel))
    (gvA_cons hmu (g2 (geA_cons hmu p01 geA_nil) (show 1 ≤ 1000 by decide) (by decide +kernel))
    (gvA_cons hmu (gv_disp1i hmu (fun mv hv => ge_int) (by decide +kernel)) gvA_nil)))))))) R1'.bag (hM.rel R1') (by decide) fun p2 H3 vs2 ds2 hl2 hd2 R3 e3 hp2 p2b => ?_⟩
  have l1 := e1'.length
  have l2 := e3.length
  refine ⟨p1, p2, vs1, vs2, rfl, rfl, R3.keep _ _ p1b hp1, hp2, by have := sizeLine_eq; omega, fun p3 np3 => ?_⟩
  have q3 := same_upd (o := .lst (vs1 ++ vs2)) np3
  have R4 := (R1'.trans R3).same q3
  have e4 : DtA K mu _ (vs1 ++ vs2) (ds1 ++ ds2) := ((e1'.fut (R3.fut hmu R1'.bag)).append e3).fut (.of_same q3)
  refine ⟨_, rfl, _, rfl, b, p3, _, rfl, R4.bag, bag_ne (R1'.trans R3).bag np3, upd_same, by rw [List.length_append]; omega, by rw [List.length_append]; omega, fun i v H5 hv R5 => ?_⟩
  obtain ⟨d, hd, hvd⟩ := e4.get hv
  refine k v H5 d ?_ (R4.trans R5) (hvd.fut (R5.fut hmu R4.bag))
  rcases List.mem_append.mp (List.mem_of_getElem? hd) with q | q
  · exact hd1 d q
  · exact hd2 d q
end
end K33
namespace K33
open PySem PySem.Spec PyProof.Rows L2 Sw MC LamX
/-! equal by == : the text tells whether all parts are FRACTIONS -/
theorem len_app (x y : Str) : (x ++ y).length = x.length + y.length := by
  show (_ ++ _ : Array Nat).size = _
  rw [Array.size_append]
  rfl
theorem tt_len (ts : List Str) (h : ts ≠ []) : (tupleText ts).length + 2 = 1 + piled ts + (if ts.length == 1 then 2 else 1) := by
  have j := join_length_add ts h
  unfold tupleText
  rw [len_app, len_app]
  have e1 : (("(" : Str)).length = 1 := rfl
  have e2 : ((if ts.length == 1 then ",)" else ")" : String) : Str).length = (if ts.length == 1 then 2 else 1) := by
    split <;> rfl
  rw [e1, e2]
  omega
theorem sh_int {x : PyData} {n : Int} (h : PyData.eqv x (.int n) = true) : x = .int n ∨ (PyData.shown (.int n)).length < (PyData.shown x).length := by
  cases x with
  | int i =>
    have : i = n := by simpa [PyData.eqv] using h
    exact .inl (by rw [this])
  | bool b =>
    have h : (if b then (1 : Int) else 0) = n := by simpa [PyData.eqv] using h
    subst h
    right
    cases b <;> decide +kernel
  | _ => simp [PyData.eqv] at h
theorem eqvAll_two {ds : List PyData} {a b : PyData} (h : PyData.eqvAll ds [a, b] = true) : ∃ x y, ds = [x, y] ∧ PyData.eqv x a = true ∧ PyData.eqv y b = true := by
  match ds, h with
  | [x, y], h =>
    simp only [PyData.eqvAll, Bool.and_true, Bool.and_eq_true] at h
    exact ⟨x, y, rfl, h.1, h.2⟩
  | [], h => simp [PyData.eqvAll] at h
  | [_], h => simp [PyData.eqvAll] at h
  | _ :: _ :: _ :: _, h => simp [PyData.eqvAll] at h
theorem two_len (x y : PyData) : (PyData.shown (.tuple [x, y])).length + 2 = (PyData.shown x).length + (PyData.shown y).length + 6 := by
  have h := tt_len [PyData.shown x, PyData.shown y] (by simp)
  have e : PyData.shown (.tuple [x, y]) = tupleText [PyData.shown x, PyData.shown y] := rfl
  rw [e, h]
  simp [piled]
  omega
theorem sh_fr {e : PyData} {q : Rat} (h : PyData.eqv e (frD q) = true) : e = frD q ∨ (PyData.shown (frD q)).length < (PyData.shown e).length := by
  unfold frD at h ⊢
  cases e with
  | tuple ds =>
    have h : PyData.eqvAll ds [.int (rF q).1, .int (rF q).2] = true := by simpa [PyData.eqv] using h
    obtain ⟨x, y, rfl, h1, h2⟩ := eqvAll_two h
    have l1 := two_len x y
    have l2 := two_len (.int (rF q).1) (.int (rF q).2)
    rcases sh_int h1 with rfl | a1
    · rcases sh_int h2 with rfl | a2
      · exact .inl rfl
      · exact .inr (by omega)
    · rcases sh_int h2 with rfl | a2
      · exact .inr (by omega)
      · exact .inr (by omega)
  | _ => simp [PyData.eqv] at h
theorem sh_all : ∀ {ds : List PyData} {qs : List Rat}, PyData.eqvAll ds (qs.map frD) = true → ds.length = qs.length ∧ (ds = qs.map frD ∨ piled (PyData.shownAll (qs.map frD)) < piled (PyData.shownAll ds))
  | [], [], _ => ⟨rfl, .inl rfl⟩
  | d :: ds, q :: qs, h => by
    have h : (PyData.eqv d (frD q) && PyData.eqvAll ds (qs.map frD)) = true := by simpa [PyData.eqvAll] using h
    rw [Bool.and_eq_true] at h
    obtain ⟨l, r⟩ := sh_all h.2
    refine ⟨by rw [List.length_cons, List.length_cons, l], ?_⟩
    have p1 : piled (PyData.shownAll (d :: ds)) = (PyData.shown d).length + 2 + piled (PyData.shownAll ds) := piled_cons _ _
    have p2 : piled (PyData.shownAll ((q :: qs).map frD)) = (PyData.shown (frD q)).length + 2 + piled (PyData.shownAll (qs.map frD)) := piled_cons _ _
    rw [p1, p2]
    rcases sh_fr h.1 with rfl | a
    · rcases r with rfl | r
      · exact .inl rfl
      · exact .inr (by omega)
    · rcases r with rfl | r
      · exact .inr (by omega)
      · exact .inr (by omega)
  | [], _ :: _, h => by simp [PyData.eqvAll] at h
  | _ :: _, [], h => by simp [PyData.eqvAll] at h
theorem shA_len : ∀ ds : List PyData, (PyData.shownAll ds).length = ds.length
  | [] => rfl
  | d :: ds => by
    show (PyData.shownAll ds).length + 1 = _
    rw [shA_len ds]
    rfl
theorem fr_all (qs : List Rat) : (qs.map frD).all isFrac = true := by
  rw [List.all_map, List.all_eq_true]
  exact fun q _ => isFrac_fr q
/-- the two judges of what is paid are one -/
theorem paid_judge {ds : List PyData} {qs : List Rat} (h : PyData.eqv (.tuple ds) (.tuple (qs.map frD)) = true) : ds.all isFrac = decide (PyData.shown (.tuple ds) = PyData.shown (.tuple (qs.map frD))) := by
  have h : PyData.eqvAll ds (qs.map frD) = true := by simpa [PyData.eqv] using h
  obtain ⟨l, r⟩ := sh_all h
  rcases r with rfl | r
  · rw [fr_all, decide_eq_true rfl]
  · have ne : PyData.shown (.tuple ds) ≠ PyData.shown (.tuple (qs.map frD)) := fun e => by
      have e : tupleText (PyData.shownAll ds) = tupleText (PyData.shownAll (qs.map frD)) := e
      have n1 : PyData.shownAll ds ≠ [] := fun z => by rw [z] at r; simp [piled] at r
      have n2 : PyData.shownAll (qs.map frD) ≠ [] := fun z => by
        have a := shA_len (qs.map frD)
        have b := shA_len ds
        rw [z, List.length_map] at a
        exact n1 (List.eq_nil_of_length_eq_zero (by rw [b, l, ← a]; rfl))
      have a1 := tt_len _ n1
      have a2 := tt_len _ n2
      rw [e] at a1
      have s1 := shA_len ds
      have s2 := shA_len (qs.map frD)
      rw [List.length_map] at s2
      rw [s1, l] at a1
      rw [s2] at a2
      omega
    rw [decide_eq_false ne]
    cases q : ds.all isFrac with
    | false => rfl
    | true =>
      exfalso
      obtain ⟨ps, rfl⟩ := all_fr q
      have : ∀ {ps qs : List Rat}, PyData.eqvAll (ps.map frD) (qs.map frD) = true → ps = qs := fun {ps} => by
        induction ps with
        | nil =>
          intro qs h
          cases qs with
          | nil => rfl
          | cons a b => simp [PyData.eqvAll] at h
        | cons p ps ih =>
          intro qs h
          cases qs with
          | nil => simp [PyData.eqvAll] at h
          | cons q qs =>
            have h : (PyData.eqv (frD p) (frD q) && PyData.eqvAll (ps.map frD) (qs.map frD)) = true := by simpa [PyData.eqvAll] using h
            rw [Bool.and_eq_true, eqv_fr, decide_eq_true_eq] at h
            rw [h.1, ih h.2]
      have := this h
      subst this
      omega
end K33
namespace K33
open PySem PySem.Spec PyProof.Rows L2 Sw StX RZ
/-- whole numbers and None in tuples, n deep -/
def Bi : Nat → PyData → Prop
  | 0, d => d = .none ∨ ∃ i : Int, d = .int i ∧ i.natAbs < 2 ^ 1600
  | n + 1, d => Bi n d ∨ ∃ es : List PyData, d = .tuple es ∧ es.length ≤ 6 ∧ ∀ e ∈ es, Bi n e
/-- what may come of a datum of this weight -/
def Bo (n w : Nat) (d : PyData) : Prop := okD d = true ∧ d.depth ≤ n + 4 ∧ d.weight ≤ 2 * w + 2100
theorem okA_iff {es : List PyData} : okA es = true ↔ ∀ e ∈ es, okD e = true := by
  induction es with
  | nil => simp [okA]
  | cons e es ih => simp [okA, ih]
theorem gnL_use {K : PySem.W.Frag} {b : Addr} {mu : Addr → Prop} {σ : L2.St} {H : Hp} {ta : TA} {g : TG} {D : PyData → Prop} {n : Nat} {E : Ends} (h : GnA K b mu σ H ta D n) (hb : BagAt H b) (m : MuOk mu H) (hn : n ≤ 1000) (k : ∀ p H' vs ds, ds.length = n → (∀ d ∈ ds, D d) → Rel b H H' → DtA K mu H' vs ds → H' p = some (.lst vs) → p ≠ b → g (.ref p) σ H' E.nx) : tAsg (tLst ta) g E σ H := by
  refine h H (.refl hb) m _ fun vs H1 ds hl hd R e => ⟨Nat.le_of_lt (small1000 (by rw [e.length, hl]; exact hn)), fun p np => ?_⟩
  exact k p _ vs ds hl hd (R.same (same_upd np)) (e.fut (.of_same (same_upd np))) upd_same (bag_ne R.bag np)
theorem wt_int {i : Int} {a : Nat} (h : i.natAbs < 2 ^ a) : PyData.weight (.int i) ≤ a := by
  show (if i == 0 then 0 else i.natAbs.log2 + 1) ≤ a
  split
  · exact Nat.zero_le _
  · rename_i z
    have z : i ≠ 0 := by simpa using z
    have := (Nat.log2_lt (by omega)).mpr h
    omega
theorem ok_ofS (s : String) : PyData.strOk (Str.ofString s) = true := by
  unfold PyData.strOk
  rw [Str.ofString_eq_toList]
  simp only [Array.all_eq_true]
  intro i hi
  simp only [List.getElem_toArray, List.getElem_map, decide_eq_true_eq]
  generalize s.toList[i]'(by simpa using hi) = c
  have := c.valid
  have e : c.toNat = c.val.toNat := rfl
  rcases this with h | h
  · show c.val.toNat < _
    have : c.val.toNat < 0xd800 := h
    omega
  · exact h.2
theorem nopart {σ : L2.St} {H : Hp} {Q : Option Int → Hp → Prop} (h : Q none H) : tNoPart σ H Q := h
theorem bi_up {n : Nat} {d : PyData} (h : Bi n d) : Bi (n + 1) d := .inl h
theorem bi_cases : ∀ {n : Nat} {d : PyData}, Bi n d → d = .none ∨ (∃ i : Int, d = .int i ∧ i.natAbs < 2 ^ 1600) ∨ ∃ m es, n = m + 1 ∧ d = .tuple es ∧ es.length ≤ 6 ∧ ∀ e ∈ es, Bi m e
  | 0, d, h => h.elim .inl fun h => .inr (.inl h)
  | n + 1, d, h => by
    rcases h with h | ⟨es, h⟩
    · rcases bi_cases h with h | h | ⟨m, es, rfl, h1, h2, h3⟩
      · exact .inl h
      · exact .inr (.inl h)
      · exact .inr (.inr ⟨m + 1, es, rfl, h1, h2, fun e he => bi_up (h3 e he)⟩)
    · exact .inr (.inr ⟨n, es, rfl, h⟩)
theorem int_ok {i : Int} (h : i.natAbs < 2 ^ 1610) : okD (.int i) = true := by
  have big : (2 : Nat) ^ 1610 ≤ 10 ^ 500 := by decide +kernel
  exact decide_eq_true (Nat.lt_of_lt_of_le h big)
theorem bi_ok : ∀ {n : Nat} {d : PyData}, Bi n d → okD d = true ∧ d.depth ≤ n
  | 0, d, h => by
    rcases h with rfl | ⟨i, rfl, h⟩
    · exact ⟨rfl, Nat.le_refl _⟩
    · exact ⟨int_ok (Nat.lt_of_lt_of_le h (Nat.pow_le_pow_right (by decide) (by decide))), Nat.le_refl _⟩
  | n + 1, d, h => by
    rcases h with h | ⟨es, rfl, _, h⟩
    · obtain ⟨a, b⟩ := bi_ok h
      exact ⟨a, by omega⟩
    · refine ⟨by simp only [okD]; exact okA_iff.mpr fun e he => (bi_ok (h e he)).1, ?_⟩
      have := dpA_le.mpr fun e he => (bi_ok (h e he)).2
      simp only [PyData.depth]
      omega
theorem wt_sub : ∀ {ds es : List PyData}, es.Sublist ds → PyData.weightAll es ≤ PyData.weightAll ds := fun {ds es} h => by
  induction h with
  | slnil => exact Nat.le_refl _
  | cons a _ ih =>
    simp only [PyData.weightAll]
    omega
  | cons_cons a _ ih =>
    simp only [PyData.weightAll]
    omega
theorem wt_rev : ∀ ds : List PyData, PyData.weightAll ds.reverse = PyData.weightAll ds
  | [] => rfl
  | d :: ds => by
    rw [List.reverse_cons, wtA_app, wt_rev ds]
    simp only [PyData.weightAll]
    omega
theorem sli_sub (ds : List PyData) (lo hi : Option Int) : (sliD ds lo hi).Sublist ds := by
  unfold sliD
  exact (List.take_sublist _ _).trans (List.drop_sublist _ _)
theorem bo_tup {m W : Nat} {es : List PyData} (h : ∀ e ∈ es, okD e = true ∧ e.depth ≤ m + 4) (hw : PyData.weightAll es ≤ 2 * W + 2100) : Bo (m + 1) W (.tuple es) ∧ Bo (m + 1) W (.list es) := by
  have h2 := dpA_le.mpr fun e he => (h e he).2
  have h3 := okA_iff.mpr fun e he => (h e he).1
  constructor
  · exact ⟨by simp only [okD]; exact h3, by simp only [PyData.depth]; omega, by simp only [PyData.weight]; exact hw⟩
  · exact ⟨by simp only [okD]; exact h3, by simp only [PyData.depth]; omega, by simp only [PyData.weight]; exact hw⟩
def spBent (K : PySem.W.Frag) (n : Nat) : Sp := fun vs H Q _ => ∃ (b : Addr) (mu : Addr → Prop) (v : V) (d : PyData), vs = [.ref b, v] ∧ mu b ∧ BagAt H b ∧ MuOk mu H ∧ Dt K mu H v d ∧ Bi n d ∧ ∀ v H' d', Bo n d.weight d' → Rel b H H' → Dt K mu H' v d' → Q v H'
section
variable {P : Program} {w : World} {K : PySem.W.Frag} {mg : Str → Option Value} {base : Heap}
abbrev s_law_bent : Stmt := topS 64
theorem sc__law_bent : FnScope ["bag", "thing", "way", "at", "some", "rows", "late", "menu"] ["bag", "thing"] (defScope s_law_bent) := ⟨rfl, rfl, rfl, by decide +kernel, rfl, by decide +kernel, by decide +kernel⟩
theorem ok__law_bent {f : Addr} {fd : FuncData} {j n : Nat} {sp : Sp} (hsp : n = 0 ∨ ∃ m, n = m + 1 ∧ sp = spBent K m) (F : Fun K "_law_bent" "_law_bent" s_law_bent f fd) (B : Bt mg) (c__law_take : CalG P w K mg base 1 "_law_take" spTake) (c__law_some : CalG P w K mg base 2 "_law_some" spSome) (c__law_is_int : CalG P w K mg base 1 "_law_is_int" (spP K isInt)) (c__law_odd : CalG P w K mg base 3 "_law_odd" (spOdd K)) (c__law_bent : CalG P w K mg base (j + 3) "_law_bent" sp) : FnG P w K mg base (j + 4) f fd ["bag", "thing"] (spBent K n) := by
  refine Fun.okG F sc__law_bent (fun vs H Q E h => ?_) (fun cdv A outer s H vs Q E hg hr h => ?_)
  · obtain ⟨_, _, _, _, rfl, _⟩ := h
    rfl
  obtain ⟨b, mu, v, d, rfl, hmu, hb, hM, hd, hbi, k⟩ := h
  have hu := Room.u64 hr
  refine ⟨_, (pss_cons (ps_set (i := 2) sc__law_bent.nd rfl (Or.inl rfl) (pc c__law_take hg hr (by omega) (by rfl) (pa_cons (pv 0) (pa_cons pe_int pa_nil))))
    (pss_cons (ps_if (PW.pt (pw_and (pt_val (pe_callB call_isD (by rfl) B.isin bb_isin (pa_cons (pv 1) (pa_cons (pe_bltn (v := .ty "tuple") rfl B.tuple bb_tuple rfl) pa_nil)))) (pw_and (pt_cmpR (op_neNilT (K := K) rfl hu) (pv 1) (pe_tup pa_nil) (nomark _)) (pw_and1 (pt_cmpR op_gt (pv 2) pe_int (nomark _))))))
      (pss_cons (ps_set (i := 3) sc__law_bent.nd rfl (Or.inl rfl) (pc c__law_take hg hr (by omega) (by rfl) (pa_cons (pv 0) (pa_cons (pe_callB call_lenA (by rfl) B.len boot_len (pa_cons (pv 1) pa_nil)) pa_nil))))
      (pss_one (ps_ret (pe_op op_catA (pe_op op_catA (pe_slice sl_tupA (pv 1) po_none (po_some (pv 3))) (pe_tup (pa_cons (pc c__law_bent hg hr (by omega) (by rfl) (pa_cons (pv 0) (pa_cons (pe_ix ix_tup (pv 1) (pv 3) (fun _ _ => rfl)) pa_nil))) pa_nil))) (pe_slice sl_tupA (pv 1) (po_some (pe_op op_add (pv 3) pe_int)) po_none)))))
      pss_nil)
    (pss_cons (ps_if (pt_val (pe_callB call_isD (by rfl) B.isin bb_isin (pa_cons (pv 1) (pa_cons (pe_bltn (v := .ty "tuple") rfl B.tuple bb_tuple rfl) pa_nil))))
      (pss_cons (ps_set (i := 4) sc__law_bent.nd rfl (Or.inl rfl) (pe_lst (pa_cons (pe_callTy call_listN (by rfl) B.list bb_list (pa_cons (pv 1) pa_nil)) (pa_cons (pe_slice sl_tupA (pv 1) (po_some pe_int) po_none) (pa_cons (pe_op op_catA (pv 1) (pe_slice sl_tupA (pv 1) po_none (po_some pe_int))) (pa_cons (pe_revT (pv 1)) (pa_cons (pe_op op_catA (pv 1) (pe_tup (pa_cons pe_non pa_nil))) (pa_cons (pe_slice sl_tupA (pv 1) po_none (po_some (pe_un un_neg pe_int))) (pa_cons (pc c__law_odd hg hr (by omega) (by rfl) (pa_cons (pv 0) pa_nil)) pa_nil)))))))))
      (pss_one (ps_ret (pc c__law_some hg hr (by omega) (by rfl) (pa_cons (pv 0) (pa_cons (pv 4) pa_nil))))))
      pss_nil)
    (pss_cons (ps_if (PW.pt (pw_and (pt_val (pe_callB call_isD (by rfl) B.isin bb_isin (pa_cons (pv 1) (pa_cons (pe_bltn (v := .ty "dict") rfl B.dict bb_dict rfl) pa_nil)))) (pw_and1 (pt_cmpR (op_neNilD hu) (pv 1) pe_dnewN (nomark _)))))
      Sw.pss_never
      pss_nil)
    (pss_cons (ps_if (pt_val (pc c__law_is_int hg hr (by omega) (by rfl) (pa_cons (pv 1) pa_nil)))
      (pss_one (ps_ret (pc c__law_some hg hr (by omega) (by rfl) (pa_cons (pv 0) (pa_cons (pe_lst (pa_cons (pe_cmpR op_eq (pv 1) pe_int (nomark _)) (pa_cons (pe_op op_add (pv 1) pe_int) (pa_cons (pe_op op_sub (pv 1) pe_int) (pa_cons (pe_un un_neg (pv 1)) (pa_cons (pe_op op_mul pe_int (pv 1)) (pa_cons (pe_callTy call_str_int (by rfl) B.str bb_str (pa_cons (pv 1) pa_nil)) (pa_cons pe_non (pa_cons (pe_tup pa_nil) pa_nil))))))))) pa_nil)))))
      pss_nil)
    (pss_cons (ps_if (pt_val (pe_callB call_isD (by rfl) B.isin bb_isin (pa_cons (pv 1) (pa_cons (pe_bltn (v := .ty "str") rfl B.str bb_str rfl) pa_nil))))
      Sw.pss_never
      pss_nil)
    (pss_one (ps_ret (pc c__law_odd hg hr (by omega) (by rfl) (pa_cons (pv 0) pa_nil)))))))))), ?_⟩
  have sz9 : ∀ {xs : List V}, xs.length ≤ 1000 → xs.length ≤ sizeLine := fun h => Nat.le_of_lt (small1000 h)
  have sl := sizeLine_eq
  refine ⟨_, rfl, b, 7, rfl, hb, by decide, by decide, fun way H1 w0 w1 R1 => ?_⟩
  have hd1 := hd.fut (R1.fut hmu hb)
  have M1 := hM.rel R1
  rcases bi_cases hbi with rfl | ⟨i, rfl, hi⟩ | ⟨m, es, rfl, rfl, hel, hes⟩
  · cases hd1
    have out : ∀ v H' d, Om d → Rel b H1 H' → Dt K mu H' v d → Q v H' := fun v H' d ho R hd => k v H' d ⟨ho.1, by have := ho.2.1; omega, by have := ho.2.2.1; omega⟩ (R1.trans R) hd
    refine ⟨_, rfl, _, "tuple", mu, .none, rfl, by decide, .non, _, rfl, ?_⟩
    rw [show isT "tuple" PyData.none = false from rfl]
    refine iteF ?_
    refine ⟨_, rfl, _, "tuple", mu, .none, rfl, by decide, .non, _, rfl, ?_⟩
    rw [show isT "tuple" PyData.none = false from rfl]
    refine iteF ?_
    refine ⟨_, rfl, _, "dict", mu, .none, rfl, by decide, .non, _, rfl, ?_⟩
    rw [show isT "dict" PyData.none = false from rfl]
    refine iteF ?_
    refine ⟨_, rfl, .non, mu, .none, rfl, .non, ⟨rfl, Nat.zero_le _, Nat.zero_le _⟩, fun H2 s2 => ⟨_, rfl, ?_⟩⟩
    rw [show isInt PyData.none = false from rfl]
    refine iteF ?_
    refine ⟨_, rfl, _, "str", mu, .none, rfl, by decide, .non, _, rfl, ?_⟩
    rw [show isT "str" PyData.none = false from rfl]
    refine iteF ?_
    have R2 := Rel.of_same R1.bag s2
    exact ⟨_, rfl, b, mu, rfl, hmu, R2.bag, M1.rel R2, fun v H' d ho R hd => out v H' d ho (R2.trans R) hd⟩
  · cases hd1
    have oi : okD (.int i) = true := int_ok (Nat.lt_of_lt_of_le hi (Nat.pow_le_pow_right (by decide) (by decide)))
    have wi := wt_int hi
    refine ⟨_, rfl, _, "tuple", mu, .int i, rfl, by decide, .int i, _, rfl, ?_⟩
    rw [show isT "tuple" (PyData.int i) = false from rfl]
    refine iteF ?_
    refine ⟨_, rfl, _, "tuple", mu, .int i, rfl, by decide, .int i, _, rfl, ?_⟩
    rw [show isT "tuple" (PyData.int i) = false from rfl]
    refine iteF ?_
    refine ⟨_, rfl, _, "dict", mu, .int i, rfl, by decide, .int i, _, rfl, ?_⟩
    rw [show isT "dict" (PyData.int i) = false from rfl]
    refine iteF ?_
    refine ⟨_, rfl, .int i, mu, .int i, rfl, .int i, ⟨oi, Nat.zero_le _, by omega⟩, fun H2 s2 => ⟨_, rfl, ?_⟩⟩
    rw [show isInt (PyData.int i) = true from rfl]
    refine iteT ?_
    have R2 := Rel.of_same R1.bag s2
    have M2 := M1.rel R2
    have bi : ∀ {j : Int}, j.natAbs < 2 ^ 1610 → Bo n (PyData.int i).weight (.int j) := fun h => ⟨int_ok h, Nat.zero_le _, by have := wt_int h; omega⟩
    have up : ∀ {j : Int} {a : Nat}, j.natAbs < 2 ^ a → a ≤ 1610 → j.natAbs < 2 ^ 1610 := fun h l => Nat.lt_of_lt_of_le h (Nat.pow_le_pow_right (by decide) l)
    have one : (1 : Int).natAbs < 2 ^ 1600 := Nat.lt_of_lt_of_le (show (1 : Int).natAbs < 2 ^ 1 by decide) (Nat.pow_le_pow_right (by decide) (by decide))
    have mone : (-1 : Int).natAbs < 2 ^ 1600 := one
    have i500 : i.natAbs < 10 ^ 500 := of_decide_eq_true oi
    refine Sw.gn_some (K := K) (b := b) (mu := mu) (H0 := H2) (D := Bo n (PyData.int i).weight) (n := 8) hmu rfl
      (gnA_cons hmu (fun H r m Q q => ⟨_, rfl, rfl, q _ H (.bool _) ⟨rfl, Nat.zero_le _, Nat.zero_le _⟩ (.refl r.bag) (.bl _)⟩)
      (gnA_cons hmu (fun H r m Q q => ⟨_, rfl, _, _, rfl, rfl, q _ H (.int (i + 1)) (bi (up (natAbs_lt_add hi one) (by decide))) (.refl r.bag) (.int _)⟩)
      (gnA_cons hmu (fun H r m Q q => ⟨_, rfl, _, _, rfl, rfl, q _ H (.int (i - 1)) (bi (up (natAbs_lt_add hi mone) (by decide))) (.refl r.bag) (.int _)⟩)
      (gnA_cons hmu (fun H r m Q q => ⟨_, rfl, _, rfl, q _ H (.int (-i)) (bi (by rw [Int.natAbs_neg]; exact up hi (by decide))) (.refl r.bag) (.int _)⟩)
      (gnA_cons hmu (fun H r m Q q => ⟨_, rfl, _, _, rfl, rfl, .inl ⟨by decide, by decide⟩, q _ H (.int (2 * i)) (bi (up (natAbs_lt_mul (i := 2) (a := 2) (by decide) hi) (by decide))) (.refl r.bag) (.int _)⟩)
      (gnA_cons hmu (fun H r m Q q => ⟨_, rfl, i, rfl, int_log i500, q _ H (.str _) ⟨by simp only [okD]; exact ok_ofS _, Nat.zero_le _, by
        have e := int_short i500
        have e2 : (Str.ofString (toString i)).length ≤ 600 := e
        show (Str.ofString (toString i)).length ≤ _
        omega⟩ (.refl r.bag) (.str _)⟩)
      (gnA_cons hmu (fun H r m Q q => q _ H .none ⟨rfl, Nat.zero_le _, Nat.zero_le _⟩ (.refl r.bag) .non)
      (gnA_cons hmu (fun H r m Q q => ⟨Nat.zero_le _, fun p np => q _ _ (.tuple []) ⟨rfl, by show 0 + 1 ≤ n + 4; omega, Nat.zero_le _⟩ (Rel.of_same r.bag (same_upd np)) (.tup (.inl upd_same) .nil)⟩) gnA_nil))))))))
      (by decide) (by decide) H2 (.refl R2.bag) M2 _ fun v H' d ho R hd => k v H' d ho ((R1.trans R2).trans R) hd
  · have hsp1 : sp = spBent K m := by
      rcases hsp with h | ⟨m', h, e⟩
      · cases h
      · cases h
        exact e
    subst hsp1
    obtain ⟨a, xs, rfl, hS, hA⟩ := hd1.tupAt
    have om1 : ∀ e ∈ es, okD e = true ∧ e.depth ≤ m + 4 := fun e he => by
      obtain ⟨a, b⟩ := bi_ok (hes e he)
      exact ⟨a, by omega⟩
    have omN : okD .none = true ∧ PyData.depth .none ≤ m + 4 := ⟨rfl, Nat.zero_le _⟩
    have xel := hA.length
    have hxl : xs.length ≤ 6 := by omega
    have hdl : es.length ≤ 6 := hel
    refine ⟨_, rfl, _, "tuple", mu, _, rfl, by decide, hd1, _, rfl, ?_⟩
    rw [show isT "tuple" (PyData.tuple es) = true from rfl]
    refine iteT ?_
    refine ⟨_, rfl, Nat.zero_le _, fun q nq => ⟨a, q, xs, rfl, rfl, (same_upd nq).seqT hS, .of upd_same, _, rfl, ?_⟩⟩
    have sq := same_upd (o := .tup []) nq
    have R2 := R1.same sq
    have hS2 := sq.seqT hS
    have hA2 := hA.fut (.of_same sq)
    have hb2 := R2.bag
    have M2 := hM.rel R2
    have hd2 := hd1.fut (.of_same sq)
    generalize upd H1 q (.tup []) = H2 at sq R2 hS2 hA2 hb2 M2 hd2
    refine iteB (fun h1 => ⟨_, rfl, _, _, rfl, rfl, _, rfl, iteP (fun h2 => ?_) fun h2 => ?_⟩) fun h1 => ?_
    · have hne : es ≠ [] := fun z => by
        rw [z] at xel
        have e0 : xs = [] := List.eq_nil_of_length_eq_zero xel
        rw [e0] at h1
        simp at h1
      have hpos := List.length_pos_iff.mpr hne
      refine ⟨_, rfl, _, rfl, _, xs.length, rfl, .inr ⟨_, hS2, rfl⟩, b, _, rfl, hb2, by omega, by omega, fun at' H3 a0 a1 R3 => ?_⟩
      obtain ⟨k0, rfl⟩ : ∃ k0 : Nat, at' = (k0 : Int) := ⟨at'.toNat, by omega⟩
      have hS3 := sq_fut hS2 (R3.fut hmu hb2)
      have hA3 := hA2.fut (R3.fut hmu hb2)
      obtain ⟨c0, hc0⟩ : ∃ c, es[k0]? = some c := ⟨_, List.getElem?_eq_getElem (by omega)⟩
      obtain ⟨vc, hvc, dvc⟩ := hA3.getD hc0
      refine ⟨_, rfl, nopart ⟨_, rfl, _, rfl, sl_use hS3 fun p1 H4 s4 hp1 => ?_⟩⟩
      rw [cutV_upto] at hp1
      have R4 := R3.same s4
      have hS4 := s4.seqT hS3
      refine ⟨_, rfl, _, rfl, _, rfl, a, _, (k0 : Int), vc, rfl, rfl, hS4, atI_nat (j := k0) hvc, b, mu, vc, c0, rfl, hmu, R4.bag, M2.rel R4, dvc.fut (.of_same s4), hes c0 (List.mem_of_getElem? hc0), fun v' H5 d' hom R5 hd' => ⟨sz9 (by simp), fun t nt => ?_⟩⟩
      have st := same_upd (o := .tup [v']) nt
      have f45 := (R5.fut hmu R4.bag).trans (.of_same st)
      refine cat_use (sq_fut hp1 f45) (.of upd_same) (by rw [List.length_take, List.length_cons, List.length_nil]; omega) fun p2 H6 s6 hp2 => ?_
      have f46 := f45.trans (.of_same s6)
      refine ⟨_, rfl, _, rfl, _, _, rfl, rfl, _, rfl, nopart (sl_use (sq_fut hS4 f46) fun p3 H7 s7 hp3 => ?_)⟩
      rw [show ((k0 : Nat) : Int) + 1 = ((k0 + 1 : Nat) : Int) from rfl, cutV_fromN] at hp3
      refine cat_use (s7.seqT hp2) hp3 (by simp only [List.length_append, List.length_take, List.length_drop, List.length_cons, List.length_nil]; omega) fun p4 H8 s8 hp4 => ?_
      have fE : Fut mu H3 H8 := (Fut.of_same s4).trans (f46.trans (.of_same (s7.trans s8)))
      have hA8 := hA3.fut fE
      have hd8 := hd'.fut (.of_same (((st.trans s6).trans s7).trans s8))
      have wsum : PyData.weightAll es = PyData.weightAll (es.take k0) + (c0.weight + 1 + PyData.weightAll (es.drop (k0 + 1))) := by
        have e1 : es = es.take k0 ++ c0 :: es.drop (k0 + 1) := by
          have hk := (List.getElem?_eq_some_iff.mp hc0)
          rw [← hk.2, ← List.drop_eq_getElem_cons hk.1, List.take_append_drop]
        have e2 := congrArg PyData.weightAll e1
        rw [wtA_app] at e2
        exact e2
      obtain ⟨g1, g2, g3⟩ := hom
      refine k _ H8 _ (bo_tup (m := m) (es := es.take k0 ++ [d'] ++ es.drop (k0 + 1)) (fun e he => ?_) ?_).1 (R2.trans (R4.trans ((R5.same st).same ((s6.trans s7).trans s8)))) (dt_tupS hp4 (((hA8.take k0).append (.cons hd8 .nil)).append (hA8.drop (k0 + 1))))
      · rcases List.mem_append.mp he with q | q
        · rcases List.mem_append.mp q with q | q
          · exact om1 e (List.mem_of_mem_take q)
          · rw [List.mem_singleton.mp q]
            exact ⟨g1, g2⟩
        · exact om1 e (List.mem_of_mem_drop q)
      · have W0 : (PyData.tuple es).weight = PyData.weightAll es := rfl
        rw [wtA_app, wtA_app, W0, wsum]
        simp only [PyData.weightAll]
        omega
    all_goals
      refine ⟨_, rfl, _, "tuple", mu, _, rfl, by decide, hd2, _, rfl, ?_⟩
      rw [show isT "tuple" (PyData.tuple es) = true from rfl]
      refine iteT ?_
      have gv := gs_var (K := K) (b := b) (σ := [some (.ref b), some (.ref a), some (.int way), none, none, none, none, none]) (i := 1) hb2 rfl hS2
      have W0 : (PyData.tuple es).weight = PyData.weightAll es := rfl
      have sub : ∀ {es' : List PyData}, (∀ e ∈ es', e ∈ es ∨ e = .none) → PyData.weightAll es' ≤ 2 * (PyData.tuple es).weight + 2100 → Bo (m + 1) (PyData.tuple es).weight (.tuple es') ∧ Bo (m + 1) (PyData.tuple es).weight (.list es') := fun h l => bo_tup (fun e he => (h e he).elim (om1 e) fun q => q ▸ omN) l
      have wc : ∀ lo hi, PyData.weightAll (sliD es lo hi) ≤ PyData.weightAll es := fun lo hi => wt_sub (sli_sub es lo hi)
      refine gnL_use (D := Bo (m + 1) (PyData.tuple es).weight) (n := 7) (b := b) (mu := mu) (K := K)
        (gnA_cons hmu (gv.gnL hmu hb2 hA2 (sub (fun e h => .inl h) (by omega)).2)
        (gnA_cons hmu ((gs_sl gv gp_int gp_none).gn hmu hb2 (dtA_cut hA2) (sub (fun e h => .inl (sliD_mem h)) (Nat.le_trans (wc _ _) (by omega))).1)
        (gnA_cons hmu ((gs_cat gv (gs_sl gv gp_none gp_int) (by have := cut_len xs none (some 1); omega)).gn hmu hb2 (hA2.append (dtA_cut hA2)) (sub (fun e h => (List.mem_append.mp h).elim .inl fun h => .inl (sliD_mem h)) (by have := wc none (some 1); rw [wtA_app]; omega)).1)
        (gnA_cons hmu ((gs_rev gv).gn hmu hb2 (dtA_revS hA2) (sub (fun e h => .inl (List.mem_reverse.mp h)) (by rw [wt_rev]; omega)).1)
        (gnA_cons hmu ((gs_cat gv (gs_tup1 (v := .non) fun H Q q => q) (by simp only [List.length_cons, List.length_nil]; omega)).gn hmu hb2 (hA2.append (.cons .non .nil)) (sub (fun e h => (List.mem_append.mp h).elim .inl fun h => .inr (List.mem_singleton.mp h)) (by rw [wtA_app]; simp only [PyData.weightAll, PyData.weight]; omega)).1)
        (gnA_cons hmu ((gs_sl gv gp_none gp_neg).gn hmu hb2 (dtA_cut hA2) (sub (fun e h => .inl (sliD_mem h)) (Nat.le_trans (wc _ _) (by omega))).1)
        (gnA_cons hmu (fun H r m Q q => ⟨_, rfl, b, mu, rfl, hmu, r.bag, m, fun v H' d ho r' hd => q v H' d ⟨ho.1, by have := ho.2.1; omega, by have := ho.2.2.1; omega⟩ r' hd⟩) gnA_nil))))))) hb2 M2 (by decide) fun p1 H3 vs1 ds1 hl1 hds1 R3 e1 hp1 p1b => ?_
      have l1 := e1.length
      refine ⟨_, rfl, _, rfl, b, p1, _, rfl, R3.bag, p1b, hp1, by omega, by omega, fun i v H5 hv R5 => ?_⟩
      obtain ⟨d, hd, hvd⟩ := e1.get hv
      exact k v H5 d (hds1 d (List.mem_of_getElem? hd)) ((R2.trans R3).trans R5) (hvd.fut (R5.fut hmu R3.bag))
end
end K33
namespace K33
open PySem PySem.Spec PyProof.Rows L2 Sw MC LamX
theorem bent_any {f : Addr} {P : Program} {w : World} {K : PySem.W.Frag} {mg : Str → Option Value} {base : Heap} {fd : FuncData} (F : Fun K "_law_bent" "_law_bent" s_law_bent f fd) (B : Bt mg) (c1 : CalG P w K mg base 1 "_law_take" spTake) (c2 : CalG P w K mg base 2 "_law_some" spSome) (c3 : CalG P w K mg base 1 "_law_is_int" (spP K isInt)) (c4 : CalG P w K mg base 3 "_law_odd" (spOdd K))
    (mk : ∀ j sp, FnG P w K mg base j f fd ["bag", "thing"] sp → CalG P w K mg base j "_law_bent" sp) : ∀ n, FnG P w K mg base (n + 4) f fd ["bag", "thing"] (spBent K n)
  | 0 => ok__law_bent (j := 0) (sp := fun _ _ _ _ => False) (.inl rfl) F B c1 c2 c3 c4 (mk 3 _ ⟨fun _ _ _ _ h => h.elim, fun _ _ _ _ _ h => h.elim⟩)
  | n + 1 => ok__law_bent (j := n + 1) (.inr ⟨n, rfl, rfl⟩) F B c1 c2 c3 c4 (mk _ _ (bent_any F B c1 c2 c3 c4 mk n))
/-- the places of a turn that change, and that of sys.modules -/
def mS (b : Addr) : Addr → Prop := fun a => a = b ∨ a = sysModules
/-- a thing that is asked for -/
def Th (K : PySem.W.Frag) (b : Addr) (H : Hp) (v : V) : Prop := ∃ d, Dt K (mS b) H v d ∧ Ok d
def spNear (K : PySem.W.Frag) : Sp := fun vs H Q _ => ∃ (b a : Addr) (xs : List V) (v : V) (cs : List Cv) (o : Option Rat), vs = [.ref b, .ref a, v] ∧ BagAt H b ∧ a ≠ b ∧ H a = some (.lst xs) ∧ xs.length = cs.length ∧ cs.length ≤ 5 ∧ (∀ c ∈ cs, LC c) ∧ Dt K mT H v (ppD cs o) ∧ (∀ l, o = some l → Rb 830 724 l) ∧
  ∀ p H' ys, Rel b H H' → p ≠ b → H' p = some (.lst ys) → (∀ u ∈ ys, Th K b H' u) → ys.length ≤ 100 → Q (.ref p) H'
end K33
namespace K33
open PySem PySem.Spec PyProof.Rows L2 Sw MC LamX
theorem grD_half : GrD (.tuple [.int 1, .int 2]) := by
  have hf : Fr 1 2 := ⟨by decide, gI_cp.mp (by decide)⟩
  refine ⟨vf (1, 2), by unfold frD; rw [rF_vf hf], 703500, ?_, by decide, by decide⟩
  unfold vf
  have e1 : ((1 : Int) : Rat) = 1 := rfl
  have e2 : ((2 : Int) : Rat) = 2 := rfl
  have e3 : ((703500 : Int) : Rat) = 703500 := rfl
  rw [e1, e2, e3]
  grind
/-- data that may be shown and compared -/
structure Fit (d : PyData) (k w : Nat) : Prop where
  ok : okD d = true
  nd : d.hasDict = false
  dp : d.depth ≤ k
  wt : d.weight ≤ w
theorem Fit.mono {d : PyData} {k w k' w' : Nat} (h : Fit d k w) (a : k ≤ k') (b : w ≤ w') : Fit d k' w' := ⟨h.ok, h.nd, Nat.le_trans h.dp a, Nat.le_trans h.wt b⟩
theorem Fit.get {d : PyData} {k w : Nat} (h : Fit d k w) (a : k ≤ 50) (b : w ≤ 27000) : Ok d := ⟨h.ok, Nat.le_trans h.dp a, Nat.le_trans h.wt b⟩
theorem fit_fr {q : Rat} {a b : Nat} (h : Rb a b q) (ha : a ≤ 1600) (hb : b ≤ 1600) : Fit (frD q) 1 (a + b + 2) := by
  have big : (2 : Nat) ^ 1600 ≤ 10 ^ 500 := by decide +kernel
  have w1 := wt_int h.n
  have w2 := wt_int h.d
  have o1 : (rF q).1.natAbs < 10 ^ 500 := Nat.lt_of_lt_of_le (Nat.lt_of_lt_of_le h.n (p2 ha)) big
  have o2 : (rF q).2.natAbs < 10 ^ 500 := Nat.lt_of_lt_of_le (Nat.lt_of_lt_of_le h.d (p2 hb)) big
  refine ⟨?_, rfl, Nat.le_refl _, ?_⟩
  · show (decide ((rF q).1.natAbs < 10 ^ 500) && (decide ((rF q).2.natAbs < 10 ^ 500) && true)) = true
    rw [decide_eq_true o1, decide_eq_true o2]
    rfl
  · show PyData.weight (.int (rF q).1) + 1 + (PyData.weight (.int (rF q).2) + 1 + 0) ≤ _
    omega
theorem fit_all {k w : Nat} : ∀ {ds : List PyData}, (∀ d ∈ ds, Fit d k w) → okA ds = true ∧ PyData.hasDictAll ds = false ∧ PyData.depthAll ds ≤ k ∧ PyData.weightAll ds ≤ ds.length * (w + 1)
  | [], _ => ⟨rfl, rfl, Nat.zero_le _, Nat.zero_le _⟩
  | d :: ds, h => by
    have h1 := h d List.mem_cons_self
    obtain ⟨a, b, c, e⟩ := fit_all (ds := ds) fun x hx => h x (List.mem_cons_of_mem _ hx)
    refine ⟨?_, ?_, ?_, ?_⟩
    · show (okD d && okA ds) = true
      rw [h1.ok, a]
      rfl
    · show (d.hasDict || PyData.hasDictAll ds) = false
      rw [h1.nd, b]
      rfl
    · show max d.depth (PyData.depthAll ds) ≤ k
      exact Nat.max_le.mpr ⟨h1.dp, c⟩
    · show d.weight + 1 + PyData.weightAll ds ≤ (ds.length + 1) * (w + 1)
      have := h1.wt
      rw [Nat.succ_mul]
      omega
theorem fit_tup {k w : Nat} {ds : List PyData} (h : ∀ d ∈ ds, Fit d k w) : Fit (.tuple ds) (k + 1) (ds.length * (w + 1)) := by
  obtain ⟨a, b, c, e⟩ := fit_all h
  exact ⟨a, b, Nat.succ_le_succ c, e⟩
theorem fit_lst {k w : Nat} {ds : List PyData} (h : ∀ d ∈ ds, Fit d k w) : Fit (.list ds) (k + 1) (ds.length * (w + 1)) := by
  obtain ⟨a, b, c, e⟩ := fit_all h
  exact ⟨a, b, Nat.succ_le_succ c, e⟩
def ixD (cs : List Cv) (l : Rat) : PyData := match (risn cs l)[0]? with | some i => .int ((i : Nat) : Int) | none => .none
def PrA (K : PySem.W.Frag) (H : Hp) (A : PyData) (us : List V) : Prop := ∀ u ∈ us, ∃ i : Int, 0 ≤ i ∧ i ≤ 6 ∧ Dt K mT H u (.tuple [A, .int i])
theorem PrA.same {K : PySem.W.Frag} {H H' : Hp} {A : PyData} {us : List V} (h : PrA K H A us) (s : Same H H') : PrA K H' A us := fun u hu => let ⟨i, a, b, d⟩ := h u hu; ⟨i, a, b, d.fut (.of_same s)⟩
theorem pr_step {K : PySem.W.Frag} {H G : Hp} {D T : Addr} {A : PyData} {us : List V} {x : V} {i : Nat} {j : Int} (s : Same H G) (n : H D = none) (e : G D = some (.lst us)) (l : us.length = i) (g : PrA K G A us) (hx : Dt K mT G x A) (j0 : 0 ≤ j) (j6 : j ≤ 6) (nT : G T = none) (hsz : us.length + 1 ≤ sizeLine) :
    ∃ xs, upd G T (.tup [x, .int j]) D = some (.lst xs) ∧ xs.length + 1 ≤ sizeLine ∧ (Same H (upd (upd G T (.tup [x, .int j])) D (.lst (xs ++ [.ref T]))) ∧ ∃ us, upd (upd G T (.tup [x, .int j])) D (.lst (xs ++ [.ref T])) D = some (.lst us) ∧ us.length = i + 1 ∧ PrA K (upd (upd G T (.tup [x, .int j])) D (.lst (xs ++ [.ref T]))) A us) := by
  have sT := same_upd (o := .tup [x, .int j]) nT
  have uT := upd_same (H := G) (a := T) (o := .tup [x, .int j])
  generalize upd G T (.tup [x, .int j]) = G' at *
  have e' := sT _ _ e
  have f : Fut mT G' (upd G' D (.lst (us ++ [.ref T]))) := fut_T (fut_L e')
  refine ⟨us, e', hsz, same_at (s.trans sT) n, us ++ [.ref T], upd_same, by rw [List.length_append, l]; rfl, fun u hu => ?_⟩
  rcases List.mem_append.mp hu with hu | hu
  · obtain ⟨k, k0, k6, d⟩ := g u hu
    exact ⟨k, k0, k6, (d.fut (.of_same sT)).fut f⟩
  · rw [List.mem_singleton.mp hu]
    exact ⟨j, j0, j6, (Dt.tup (.inl uT) (.cons (hx.fut (.of_same sT)) (.cons (.int j) .nil))).fut f⟩
theorem gnT_use {K : PySem.W.Frag} {b : Addr} {mu : Addr → Prop} {σ : L2.St} {H : Hp} {ta : TA} {D : PyData → Prop} {n : Nat} {Q : VK} (h : GnA K b mu σ H ta D n) (hb : BagAt H b) (m : MuOk mu H) (hn : n ≤ 1000) (k : ∀ p H' vs ds, ds.length = n → (∀ d ∈ ds, D d) → Rel b H H' → DtA K mu H' vs ds → H' p = some (.lst vs) → H p = none → Q (.ref p) H') : tLst ta σ H Q := by
  refine h H (.refl hb) m _ fun vs H1 ds hl hd R e => ⟨Nat.le_of_lt (small1000 (by rw [e.length, hl]; exact hn)), fun p np => ?_⟩
  exact k p _ vs ds hl hd (R.same (same_upd np)) (e.fut (.of_same (same_upd np))) upd_same (R.some np)
theorem lk {m n : Nat} (h : Nat.ble m n = true) : m ≤ n := Nat.le_of_ble_eq_true h
/-- a thing that is asked for, these places may change -/
def ThM (K : PySem.W.Frag) (mu : Addr → Prop) (H : Hp) (v : V) : Prop := ∃ d, Dt K mu H v d ∧ Ok d
theorem ge_var {K : PySem.W.Frag} {b : Addr} {mu : Addr → Prop} {σ : L2.St} {H0 : Hp} {i : Nat} {v : V} {d : PyData} (hm : mu b) (hb : BagAt H0 b) (hσ : σ[i]? = some (some v)) (hd : Dt K mu H0 v d) : Ge K b mu σ H0 (tVar i) d := fun H r _ Q q => ⟨_, hσ, q _ H (.refl r.bag) (hd.fut (r.fut hm hb))⟩
theorem ge_ix0 {K : PySem.W.Frag} {b : Addr} {mu : Addr → Prop} {σ : L2.St} {H0 : Hp} {i : Nat} {a : Addr} {xs : List V} {x : V} {d : PyData} (hm : mu b) (hb : BagAt H0 b) (hσ : σ[i]? = some (some (.ref a))) (h : SqT K H0 a xs) (hx : xs[0]? = some x) (hd : Dt K mu H0 x d) : Ge K b mu σ H0 (tOp (rIxT K) (tVar i) (tC (.int 0))) d :=
  fun H r m Q q => ⟨_, hσ, a, xs, 0, x, rfl, rfl, sq_fut h (r.fut hm hb), atI_nat (j := 0) hx, q _ H (.refl r.bag) (hd.fut (r.fut hm hb))⟩
theorem ge_ixj {K : PySem.W.Frag} {b : Addr} {mu : Addr → Prop} {σ : L2.St} {H0 : Hp} {i : Nat} {j : Int} {a : Addr} {xs : List V} {x : V} {d : PyData} (hm : mu b) (hb : BagAt H0 b) (hσ : σ[i]? = some (some (.ref a))) (h : SqT K H0 a xs) (hx : atI xs j = some x) (hd : Dt K mu H0 x d) : Ge K b mu σ H0 (tOp (rIxT K) (tVar i) (tC (.int j))) d :=
  fun H r m Q q => ⟨_, hσ, a, xs, j, x, rfl, rfl, sq_fut h (r.fut hm hb), hx, q _ H (.refl r.bag) (hd.fut (r.fut hm hb))⟩
theorem ge_ixx {K : PySem.W.Frag} {b : Addr} {mu : Addr → Prop} {σ : L2.St} {H0 : Hp} {i : Nat} {a a2 : Addr} {xs ys : List V} {y : V} {j : Int} {d : PyData} (hm : mu b) (hb : BagAt H0 b) (hσ : σ[i]? = some (some (.ref a))) (h : SqT K H0 a xs) (hx : xs[0]? = some (.ref a2)) (h2 : SqT K H0 a2 ys) (hy : atI ys j = some y) (hd : Dt K mu H0 y d) : Ge K b mu σ H0 (tOp (rIxT K) (tOp (rIxT K) (tVar i) (tC (.int 0))) (tC (.int j))) d :=
  fun H r m Q q => ⟨_, hσ, a, xs, 0, _, rfl, rfl, sq_fut h (r.fut hm hb), atI_nat (j := 0) hx, a2, ys, j, y, rfl, rfl, sq_fut h2 (r.fut hm hb), hy, q _ H (.refl r.bag) (hd.fut (r.fut hm hb))⟩
theorem ge_mul2 {K : PySem.W.Frag} {b : Addr} {mu : Addr → Prop} {σ : L2.St} {H0 : Hp} {te : TE} {n : Int} (h : Ge K b mu σ H0 te (.int n)) : Ge K b mu σ H0 (tOp (rI CMul fun i j => V.int (i * j)) (tC (.int 2)) te) (.int (2 * n)) :=
  fun H r m Q q => h H r m _ fun v H' R e => by
    cases e
    exact ⟨2, n, rfl, rfl, .inl ⟨by decide, by decide⟩, q _ H' R (.int _)⟩
theorem fut_mu {mu : Addr → Prop} {F : Addr} {H : Hp} {xs : List V} {u : HO} (h : mu F) (e : H F = some (.lst xs)) : Fut mu H (upd H F u) := (fut_L e).mono fun a z => by rw [show a = F from z]; exact h
theorem fit_sm {d : PyData} (h : d = .none ∨ (∃ i : Int, d = .int i ∧ i.natAbs < 2 ^ 10) ∨ ∃ c, d = .bool c) : Fit d 1 1556 := by
  rcases h with rfl | ⟨i, rfl, h⟩ | ⟨c, rfl⟩
  · exact ⟨rfl, rfl, Nat.zero_le _, Nat.zero_le _⟩
  · exact ⟨int_ok (Nat.lt_of_lt_of_le h (p2 (by decide))), rfl, Nat.zero_le _, Nat.le_trans (wt_int h) (by decide)⟩
  · exact ⟨rfl, rfl, Nat.zero_le _, by cases c <;> decide⟩
section
variable {P : Program} {w : World} {K : PySem.W.Frag} {mg : Str → Option Value} {base : Heap}
abbrev s_law_near_papers : Stmt := topS 70
theorem sc__law_near_papers : FnScope ["bag", "curves", "paper", "far", "found", "at", "turn"] ["bag", "curves", "paper"] (defScope s_law_near_papers) := ⟨rfl, rfl, rfl, by decide +kernel, rfl, by decide +kernel, by decide +kernel⟩
theorem ok__law_near_papers {f : Addr} {fd : FuncData} (F : Fun K "_law_near_papers" "_law_near_papers" s_law_near_papers f fd) (B : Bt mg) (c__law_some : CalG P w K mg base 2 "_law_some" spSome) (c__law_number : CalG P w K mg base 3 "_law_number" (spNumE K)) (c__law_mixed : CalG P w K mg base 2 "_law_mixed" spMixed)
    (c__law_added : CalG P w K mg base 3 "_law_added" (spQ2 K (· + ·))) (c__law_bent : CalG P w K mg base 6 "_law_bent" (spBent K 2)) : FnG P w K mg base 7 f fd ["bag", "curves", "paper"] (spNear K) := by
  refine Fun.okG F sc__law_near_papers (fun vs H Q E h => ?_) (fun cdv A outer s H vs Q E hg hr h => ?_)
  · obtain ⟨_, _, _, _, _, _, rfl, _⟩ := h
    rfl
  obtain ⟨b, a, xs, v, cs, o, rfl, hb, nab, ea, xl, hl, hc, hv, ho, k⟩ := h
  refine ⟨_, (pss_cons (ps_if (pt_cmpR op_isN (pv 2) pe_non (nomark _))
      (pss_one (ps_ret (pe_lst (pa_cons (pe_tup (pa_cons (pe_tup (pa_cons pe_int (pa_cons pe_int pa_nil))) (pa_cons pe_non pa_nil))) (pa_cons (pe_tup (pa_cons (pe_tup (pa_cons pe_int (pa_cons pe_int pa_nil))) (pa_cons pe_int pa_nil))) pa_nil)))))
      pss_nil)
    (pss_cons (ps_set (i := 3) sc__law_near_papers.nd rfl (Or.inr rfl) (pc c__law_added hg hr (by decide) (by rfl) (pa_cons (pe_ix ix_tup (pv 2) pe_int (fun _ _ => rfl)) (pa_cons (pc c__law_some hg hr (by decide) (by rfl) (pa_cons (pv 0) (pa_cons (pe_lst (pa_cons (pe_tup (pa_cons pe_int (pa_cons pe_int pa_nil))) (pa_cons (pe_tup (pa_cons pe_int (pa_cons pe_int pa_nil))) (pa_cons (pc c__law_number hg hr (by decide) (by rfl) (pa_cons (pv 0) (pa_cons pe_int pa_nil))) pa_nil)))) pa_nil))) pa_nil))))
    (pss_cons (ps_set (i := 4) sc__law_near_papers.nd rfl (Or.inl rfl) (pe_op op_cat (pe_lc (own := [("at", 5)]) rfl sc__law_near_papers.nd (pi_range1 (by rfl) B.range (pa_cons (pe_op op_add (pe_callB call_lenA (by rfl) B.len boot_len (pa_cons (pv 1) pa_nil)) pe_int) pa_nil)) (blkOk_by (own := [("at", 5)]) (N := ["bag", "curves", "paper", "far", "found", "at", "turn"]) (sc := (defScope s_law_near_papers)) (by decide +kernel)) (fun _ _ _ _ _ => (pg_name (i := 5) sc__law_near_papers.nd rfl (Or.inl rfl))) (fun _ _ _ _ _ => pts_nil) (fun _ _ _ _ _ => (pe_tup (pa_cons (pe_ix (ix_tupK (K := K) rfl) (pv 2) pe_int (fun _ _ => rfl)) (pa_cons (pv 5) pa_nil))))) (pe_lc (own := [("at", 5)]) rfl sc__law_near_papers.nd (pi_range1 (by rfl) B.range (pa_cons (pe_callB call_lenA (by rfl) B.len boot_len (pa_cons (pv 1) pa_nil)) pa_nil)) (blkOk_by (own := [("at", 5)]) (N := ["bag", "curves", "paper", "far", "found", "at", "turn"]) (sc := (defScope s_law_near_papers)) (by decide +kernel)) (fun _ _ _ _ _ => (pg_name (i := 5) sc__law_near_papers.nd rfl (Or.inl rfl))) (fun _ _ _ _ _ => pts_nil) (fun _ _ _ _ _ => (pe_tup (pa_cons (pv 3) (pa_cons (pv 5) pa_nil)))))))
    (pss_cons (ps_expr (pe_bm PySem.F.plainAttrs_list PySem.F.slot_list_extend PySem.F.type_list_extend mt_extend (pv 4) (pa_cons (pe_lst (pa_cons (pe_tup (pa_cons (pe_ix ix_tup (pv 2) pe_int (fun _ _ => rfl)) (pa_cons pe_non pa_nil))) (pa_cons (pe_tup (pa_cons (pe_ix ix_tup (pv 2) pe_int (fun _ _ => rfl)) (pa_cons pe_bl pa_nil))) (pa_cons (pe_tup (pa_cons (pe_ix ix_tup (pv 2) pe_int (fun _ _ => rfl)) (pa_cons (pe_un un_neg pe_int) pa_nil))) (pa_cons (pe_callTy call_listN (by rfl) B.list bb_list (pa_cons (pv 2) pa_nil)) (pa_cons (pe_slice sl_tupA (pv 2) po_none (po_some pe_int)) (pa_cons (pe_op op_catA (pv 2) (pe_tup (pa_cons pe_int pa_nil))) pa_nil))))))) pa_nil)))
    (pss_cons (ps_expr (pe_bm PySem.F.plainAttrs_list PySem.F.slot_list_append PySem.F.type_list_append mt_append (pv 4) (pa_cons (pe_tup (pa_cons (pe_tup (pa_cons (pe_op op_mul pe_int (pe_ix ix_tup (pe_ix ix_tup (pv 2) pe_int (fun _ _ => rfl)) pe_int (fun _ _ => rfl))) (pa_cons (pe_op op_mul pe_int (pe_ix ix_tup (pe_ix ix_tup (pv 2) pe_int (fun _ _ => rfl)) pe_int (fun _ _ => rfl))) pa_nil))) (pa_cons (pe_ix ix_tup (pv 2) pe_int (fun _ _ => rfl)) pa_nil))) pa_nil)))
    (pss_one (ps_ret (pe_op op_cat (pe_op op_cat (pe_slice sl_list (pc c__law_mixed hg hr (by decide) (by rfl) (pa_cons (pv 0) (pa_cons (pv 4) pa_nil))) po_none (po_some pe_int)) (pe_lst (pa_cons (pv 2) pa_nil))) (pe_lc (own := [("turn", 6)]) rfl sc__law_near_papers.nd (pi_range1 (by rfl) B.range (pa_cons pe_int pa_nil)) (blkOk_by (own := [("turn", 6)]) (N := ["bag", "curves", "paper", "far", "found", "at", "turn"]) (sc := (defScope s_law_near_papers)) (by decide +kernel)) (fun _ _ _ _ _ => (pg_name (i := 6) sc__law_near_papers.nd rfl (Or.inl rfl))) (fun _ _ _ _ _ => pts_nil) (fun _ _ _ _ _ => (pc c__law_bent hg hr (by decide) (by rfl) (pa_cons (pv 0) (pa_cons (pv 2) pa_nil))))))))))))), ?_⟩
  cases o with
  | none =>
    cases hv
    refine ⟨_, rfl, rfl, _, rfl, iteP (fun _ => ?_) fun w => absurd rfl w⟩
    refine ⟨sz8 (by simp), fun z1 n1 => ⟨sz8 (by simp), fun p1 m1 => ⟨sz8 (by simp), fun z2 n2 => ⟨sz8 (by simp), fun p2 m2 => ⟨sz8 (by simp), fun L nL => ?_⟩⟩⟩⟩⟩
    have s1 := same_upd (o := .tup [V.int 0, V.int 1]) n1
    have u1 := upd_same (H := H) (a := z1) (o := .tup [V.int 0, V.int 1])
    generalize upd H z1 (.tup [V.int 0, V.int 1]) = H1 at *
    have s2 := same_upd (o := .tup [V.ref z1, V.non]) m1
    have u2 := upd_same (H := H1) (a := p1) (o := .tup [V.ref z1, V.non])
    generalize upd H1 p1 (.tup [V.ref z1, V.non]) = H2 at *
    have s3 := same_upd (o := .tup [V.int 1, V.int 1]) n2
    have u3 := upd_same (H := H2) (a := z2) (o := .tup [V.int 1, V.int 1])
    generalize upd H2 z2 (.tup [V.int 1, V.int 1]) = H3 at *
    have s4 := same_upd (o := .tup [V.ref z2, V.int 0]) m2
    have u4 := upd_same (H := H3) (a := p2) (o := .tup [V.ref z2, V.int 0])
    generalize upd H3 p2 (.tup [V.ref z2, V.int 0]) = H4 at *
    have s5 := same_upd (o := .lst [V.ref p1, V.ref p2]) nL
    have u5 := upd_same (H := H4) (a := L) (o := .lst [V.ref p1, V.ref p2])
    have s04 := ((s1.trans s2).trans s3).trans s4
    have R := Rel.of_same hb (s04.trans s5)
    have nLb := not_bag (hb.same s04) nL
    generalize upd H4 L (.lst [V.ref p1, V.ref p2]) = H5 at *
    refine k L H5 _ R nLb u5 (fun u hu => ?_) (by show 2 ≤ 100; decide)
    simp only [List.mem_cons, List.not_mem_nil, or_false] at hu
    rcases hu with rfl | rfl
    · exact ⟨.tuple [.tuple [.int 0, .int 1], .none], .tup (.inl ((((s3.trans s4).trans s5)) _ _ u2)) (.cons (.tup (.inl (((s2.trans s3).trans (s4.trans s5)) _ _ u1)) (.cons (.int 0) (.cons (.int 1) .nil))) (.cons .non .nil)), by decide +kernel⟩
    · exact ⟨.tuple [.tuple [.int 1, .int 1], .int 0], .tup (.inl (s5 _ _ u4)) (.cons (.tup (.inl ((s4.trans s5) _ _ u3)) (.cons (.int 1) (.cons (.int 1) .nil))) (.cons (.int 0) .nil)), by decide +kernel⟩
  | some l =>
    obtain ⟨t, ts, rfl, hT, hD⟩ := hv.tupAt
    obtain ⟨x0, x1, d0, d1, rfl, e, r0, r1⟩ := hD.two rfl
    cases e
    have hx0 := dt_ql r0
    have bl := ho l rfl
    refine ⟨_, rfl, rfl, _, rfl, iteP (fun w => V.noConfusion w) fun w => ?_⟩
    refine ⟨_, rfl, t, _, 0, x0, rfl, rfl, hT, atI_nat (j := 0) rfl, gv_some (K := K) (mu := mB b) (D := GrD) (n := 3) rfl rfl (gvA_cons rfl (gv_cpl rfl (grD_nat (n := 1) (by decide))) (gvA_cons rfl (gv_cpl rfl grD_half) (gvA_cons rfl (gv_numE rfl rfl (by decide) (by decide) fun n m h => grD_num h) gvA_nil))) (by decide) (by decide) H (.refl hb) (mB_ok hb) _ fun v3 H1 d hd3 R1 hv3 _ => ?_⟩
    obtain ⟨q, rfl, gq⟩ := hd3
    have f1 := fT R1 hb
    have bq := gq.rb (by decide)
    have bf := bl.add bq (c := 852) (by decide) (by decide)
    refine ⟨x0, v3, l, q, rfl, hx0.fut f1, dt_ql hv3, bl.bq (by decide) (by decide), bq.bq (by decide) (by decide), fun vf H2 s2 hf => ?_⟩
    have R2 := R1.same s2
    have e2 := R2.keep _ _ nab ea
    refine ⟨_, rfl, _, xs.length, rfl, .inl ⟨xs, .inl (.inl e2), rfl⟩, _, _, rfl, rfl, ?_⟩
    have T2 : SqT K H2 t [x0, x1] := sq_fut hT (fT R2 hb)
    have g0 : Dt K mT H2 x0 (frD l) := r0.fut (fT R2 hb)
    have nl6 : xs.length ≤ 5 := by omega
    refine ⟨_, rfl, by omega, by omega, fun D1 n1 => ?_⟩
    refine lc_it (walk_range (lo := 0) (n := ((xs.length : Int) + 1).toNat)) (fun i G => Same H2 G ∧ ∃ us, G D1 = some (.lst us) ∧ us.length = i ∧ PrA K G (frD l) us) ⟨same_upd n1, [], upd_same, rfl, fun u h => nomatch h⟩ (fun _ _ _ _ => trivial) ?_ ?_
    · rintro i x G1 G2 hi ⟨s3, us, e3, l3, g3⟩ ⟨rfl, rfl⟩
      refine ⟨rfl, _, rfl, t, _, 0, x0, rfl, rfl, s3.seqT T2, atI_nat (j := 0) rfl, _, rfl, sz8 (by simp), fun T nT => ?_⟩
      exact pr_step s3 n1 e3 l3 g3 (g0.fut (.of_same s3)) (by omega) (by omega) nT (small1000 (by omega))
    rintro G1 ⟨s3, us1, e3, l3, g3⟩
    refine ⟨_, rfl, _, xs.length, rfl, .inl ⟨xs, .inl (.inl (s3 _ _ e2)), rfl⟩, _, rfl, by omega, by omega, fun D2 n2 => ?_⟩
    refine lc_it (walk_range (lo := 0) (n := ((xs.length : Int)).toNat)) (fun i G => Same G1 G ∧ ∃ us, G D2 = some (.lst us) ∧ us.length = i ∧ PrA K G (frD (l + q)) us) ⟨same_upd n2, [], upd_same, rfl, fun u h => nomatch h⟩ (fun _ _ _ _ => trivial) ?_ ?_
    · rintro i x G2 G3 hi ⟨s4, us, e4, l4, g4⟩ ⟨rfl, rfl⟩
      refine ⟨rfl, _, rfl, _, rfl, sz8 (by simp), fun T nT => ?_⟩
      exact pr_step s4 n2 e4 l4 g4 (hf.dt.fut (.of_same (s3.trans s4))) (by omega) (by omega) nT (small1000 (by omega))
    rintro G2 ⟨s4, us2, e4, l4, g4⟩
    obtain ⟨ix, hix⟩ : ∃ ix : PyData, ix = ixD cs l := ⟨_, rfl⟩
    have r1 : Dt K mT H x1 ix := by rw [hix]; exact r1
    have hv : Dt K mT H (.ref t) (.tuple [frD l, ix]) := by rw [hix]; exact hv
    have sx : Fit ix 1 1556 := fit_sm (by
      rw [hix]
      unfold ixD
      cases hr : (risn cs l)[0]? with
      | none => exact .inl rfl
      | some i =>
        have h1 := List.mem_of_getElem? hr
        unfold risn at h1
        have h2 := List.mem_range.mp (List.mem_filter.mp h1).1
        exact .inr (.inl ⟨_, rfl, by show i < 2 ^ 10; omega⟩))
    have fl : Fit (frD l) 1 1556 := fit_fr bl (by decide) (by decide)
    have fq : Fit (frD (l + q)) 1 1599 := fit_fr bf (by decide) (by decide)
    have ft : ∀ {ds : List PyData}, ds.length ≤ 3 → (∀ d ∈ ds, Fit d 1 1600) → Ok (.tuple ds) ∧ Ok (.list ds) := fun hl h => ⟨(fit_tup h).get (by decide) (Nat.le_trans (Nat.mul_le_mul_right _ hl) (by decide)), (fit_lst h).get (by decide) (Nat.le_trans (Nat.mul_le_mul_right _ hl) (by decide))⟩
    have fl2 := fl.mono (Nat.le_refl 1) (show 1556 ≤ 1600 by decide)
    have fq2 := fq.mono (Nat.le_refl 1) (show 1599 ≤ 1600 by decide)
    have sx2 := sx.mono (Nat.le_refl 1) (show 1556 ≤ 1600 by decide)
    have si : ∀ {d : PyData}, (d = .none ∨ (∃ i : Int, d = .int i ∧ i.natAbs < 2 ^ 10) ∨ ∃ c, d = .bool c) → Fit d 1 1600 := fun h => (fit_sm h).mono (Nat.le_refl 1) (by decide)
    have e3' := s4 _ _ e3
    refine ⟨D1, D2, us1, us2, rfl, rfl, e3', e4, by have := sizeLine_eq; omega, fun F nF => ?_⟩
    have s5 := same_upd (o := .lst (us1 ++ us2)) nF
    have eF := upd_same (H := G2) (a := F) (o := .lst (us1 ++ us2))
    have R4 : Rel b H G2 := R2.same (s3.trans s4)
    have R5 := R4.same s5
    have nHF : H F = none := R4.some nF
    have nFb := not_bag hb nHF
    have a5 : ∀ u ∈ us1 ++ us2, ∃ d, Dt K mT (upd G2 F (.lst (us1 ++ us2))) u d ∧ Ok d := fun u hu => by
      rcases List.mem_append.mp hu with hu | hu
      · obtain ⟨i, i0, i6, hd⟩ := g3 u hu
        refine ⟨_, hd.fut (.of_same (s4.trans s5)), (ft (lk rfl) fun d hd => ?_).1⟩
        simp only [List.mem_cons, List.not_mem_nil, or_false] at hd
        rcases hd with rfl | rfl
        · exact fl2
        · exact si (.inr (.inl ⟨_, rfl, Nat.lt_of_lt_of_le (show i.natAbs < 7 by omega) (by decide)⟩))
      · obtain ⟨i, i0, i6, hd⟩ := g4 u hu
        refine ⟨_, hd.fut (.of_same s5), (ft (lk rfl) fun d hd => ?_).1⟩
        simp only [List.mem_cons, List.not_mem_nil, or_false] at hd
        rcases hd with rfl | rfl
        · exact fq2
        · exact si (.inr (.inl ⟨_, rfl, Nat.lt_of_lt_of_le (show i.natAbs < 7 by omega) (by decide)⟩))
    have ll : (us1 ++ us2).length ≤ 11 := by rw [List.length_append]; omega
    generalize us1 ++ us2 = ws at s5 eF R5 a5 ll ⊢
    generalize upd G2 F (.lst ws) = G3 at s5 eF R5 a5 ⊢
    have T5 : SqT K G3 t [x0, x1] := sq_fut hT (fT R5 hb)
    have d5 : Dt K mT G3 x0 (frD l) := r0.fut (fT R5 hb)
    have d6 : Dt K mT G3 x1 ix := r1.fut (fT R5 hb)
    have hm5 : (fun a => mS b a ∨ a = F) b := .inl (.inl rfl)
    have m5 : MuOk (fun a => mS b a ∨ a = F) G3 := fun a z => by
      rcases z with z | rfl
      · exact MuOk.bag R5.bag a z
      · exact .inl (by rw [eF]; exact fun z => nomatch z)
    have up : ∀ {H' : Hp} {v : V} {d : PyData} {mu : Addr → Prop}, Dt K mT H' v d → Dt K mu H' v d := fun h => h.less fun _ _ => trivial
    have i0 : ∀ {mu : Addr → Prop}, mu b → Ge K b mu ((L2.start ["bag", "curves", "paper", "far", "found", "at", "turn"] [V.ref b, V.ref a, V.ref t]).set 3 (some vf) |>.set 4 (some (.ref F))) G3 (tOp (rIxT K) (tVar 2) (tC (.int 0))) (frD l) := fun hm => ge_ix0 hm R5.bag rfl T5 rfl (up d5)
    refine ⟨_, rfl, ty_lst eF, gnT_use (K := K) (b := b) (mu := fun a => mS b a ∨ a = F) (H := G3) (D := Ok) (n := 6)
      (gnA_cons hm5 ((ge_tup hm5 (geA_cons hm5 (i0 hm5) (geA_cons hm5 ge_non geA_nil)) (lk rfl)).gn (ft (lk rfl) (by
        intro d hd
        simp only [List.mem_cons, List.not_mem_nil, or_false] at hd
        rcases hd with rfl | rfl
        · exact fl2
        · exact si (.inl rfl))).1)
      (gnA_cons hm5 ((ge_tup hm5 (geA_cons hm5 (i0 hm5) (geA_cons hm5 ge_bl geA_nil)) (lk rfl)).gn (ft (lk rfl) (by
        intro d hd
        simp only [List.mem_cons, List.not_mem_nil, or_false] at hd
        rcases hd with rfl | rfl
        · exact fl2
        · exact si (.inr (.inr ⟨_, rfl⟩)))).1)
      (gnA_cons hm5 ((ge_tup hm5 (geA_cons hm5 (i0 hm5) (geA_cons hm5 ge_neg geA_nil)) (lk rfl)).gn (ft (lk rfl) (by
        intro d hd
        simp only [List.mem_cons, List.not_mem_nil, or_false] at hd
        rcases hd with rfl | rfl
        · exact fl2
        · exact si (.inr (.inl ⟨_, rfl, by decide⟩)))).1)
      (gnA_cons hm5 (Gs.gnL hm5 R5.bag (gs_var R5.bag rfl T5) (.cons (up d5) (.cons (up d6) .nil)) (ft (lk rfl) (by
        intro d hd
        simp only [List.mem_cons, List.not_mem_nil, or_false] at hd
        rcases hd with rfl | rfl
        · exact fl2
        · exact sx2)).2)
      (gnA_cons hm5 (Gs.gn hm5 R5.bag (gs_sl (gs_var R5.bag rfl T5) (fun H Q q => nopart q) (fun H Q q => ⟨_, rfl, q⟩)) (.cons (up d5) .nil) (ft (lk rfl) (by
        intro d hd
        rw [List.mem_singleton.mp hd]
        exact fl2)).1)
      (gnA_cons hm5 (Gs.gn hm5 R5.bag (gs_cat (gs_var R5.bag rfl T5) (gs_tup1 (v := .int 0) fun H Q q => q) (lk rfl)) (.cons (up d5) (.cons (up d6) (.cons (.int 0) .nil))) (ft (lk rfl) (by
        intro d hd
        simp only [List.mem_cons, List.not_mem_nil, or_false] at hd
        rcases hd with rfl | rfl | rfl
        · exact fl2
        · exact sx2
        · exact si (.inr (.inl ⟨_, rfl, by decide⟩)))).1)
      gnA_nil)))))) R5.bag m5 (by decide) fun M G4 vs ds hl6 hds R6 e6 eM nM => ⟨F, M, ws, vs, rfl, rfl, R6.keep _ _ nFb eF, eM, by have := e6.length; have := sizeLine_eq; omega, ?_⟩⟩
    have eF4 := R6.keep _ _ nFb eF
    have fF := fut_mu (u := .lst (ws ++ vs)) (mu := fun a => mS b a ∨ a = F) (.inr rfl) eF4
    have f36 : Fut (fun a => mS b a ∨ a = F) G3 (upd G4 F (.lst (ws ++ vs))) := (R6.fut hm5 R5.bag).trans fF
    have R7 : Rel b H (upd G4 F (.lst (ws ++ vs))) := (R5.trans R6).at hb nHF
    have uF := upd_same (H := G4) (a := F) (o := .lst (ws ++ vs))
    have a7 : ∀ u ∈ ws ++ vs, ThM K (fun a => mS b a ∨ a = F) (upd G4 F (.lst (ws ++ vs))) u := fun u hu => by
      rcases List.mem_append.mp hu with hu | hu
      · obtain ⟨d, h1, h2⟩ := a5 u hu
        exact ⟨d, (up h1).fut f36, h2⟩
      · obtain ⟨i, hi⟩ := List.getElem?_of_mem hu
        obtain ⟨d, h1, h2⟩ := e6.get hi
        exact ⟨d, h2.fut fF, hds _ (List.mem_of_getElem? h1)⟩
    have l7 : (ws ++ vs).length ≤ 17 := by have := e6.length; rw [List.length_append]; omega
    generalize ws ++ vs = zs at *
    generalize upd G4 F (.lst zs) = G5 at *
    have T7 : SqT K G5 t [x0, x1] := sq_fut hT (fT R7 hb)
    have d7 : Dt K mT G5 x0 (frD l) := r0.fut (fT R7 hb)
    have d8 : Dt K mT G5 x1 ix := r1.fut (fT R7 hb)
    have m7 : MuOk (fun a => mS b a ∨ a = F) G5 := fun a z => by
      rcases z with z | rfl
      · exact MuOk.bag R7.bag a z
      · exact .inl (by rw [uF]; exact fun z => nomatch z)
    obtain ⟨tx, rfl, hx⟩ := dt_ql d7
    have hm7 : (fun a => mS b a ∨ a = F) b := .inl (.inl rfl)
    refine ⟨_, rfl, ty_lst uF, (ge_tup (K := K) (b := b) (mu := fun a => mS b a ∨ a = F) (H0 := G5) hm7 (geA_cons hm7 (ge_tup hm7 (geA_cons hm7 (ge_mul2 (ge_ixx hm7 R7.bag rfl T7 rfl hx (atI_nat (j := 0) rfl) (.int (rF l).1))) (geA_cons hm7 (ge_mul2 (ge_ixx hm7 R7.bag rfl T7 rfl hx (atI_nat (j := 1) rfl) (.int (rF l).2))) geA_nil)) (lk rfl)) (geA_cons hm7 (ge_ixj hm7 R7.bag rfl T7 (atI_nat (j := 1) rfl) (up d8)) geA_nil)) (lk rfl)) G5 (.refl R7.bag) m7 _ fun v8 G6 R8 e8 => ⟨F, zs, v8, rfl, rfl, R8.keep _ _ nFb uF, small1000 (by omega), ?_⟩⟩
    have eF6 := R8.keep _ _ nFb uF
    have fF6 := fut_mu (u := .lst (zs ++ [v8])) (mu := fun a => mS b a ∨ a = F) (.inr rfl) eF6
    have R9 : Rel b H (upd G6 F (.lst (zs ++ [v8]))) := (R7.trans R8).at hb nHF
    have uF9 := upd_same (H := G6) (a := F) (o := .lst (zs ++ [v8]))
    have a9 : ∀ u ∈ zs ++ [v8], ThM K (fun a => mS b a ∨ a = F) (upd G6 F (.lst (zs ++ [v8]))) u := fun u hu => by
      rcases List.mem_append.mp hu with hu | hu
      · obtain ⟨d, h1, h2⟩ := a7 u hu
        exact ⟨d, (h1.fut (R8.fut hm7 R7.bag)).fut fF6, h2⟩
      · rw [List.mem_singleton.mp hu]
        refine ⟨_, e8.fut fF6, ((fit_tup (k := 1) (w := 1700) fun d hd => ?_).get (by decide) (lk rfl))⟩
        simp only [List.mem_cons, List.not_mem_nil, or_false] at hd
        rcases hd with rfl | rfl
        · refine (fit_tup (k := 0) (w := 832) fun d hd => ?_).mono (by decide) (lk rfl)
          simp only [List.mem_cons, List.not_mem_nil, or_false] at hd
          have two : ∀ {n : Int} {k : Nat}, n.natAbs < 2 ^ k → k ≤ 830 → Fit (.int (2 * n)) 0 832 := fun {n k} h hk => by
            have h2 := natAbs_lt_mul (i := 2) (a := 2) (by decide) h
            exact ⟨int_ok (Nat.lt_of_lt_of_le h2 (p2 (by omega))), rfl, Nat.zero_le _, Nat.le_trans (wt_int h2) (by omega)⟩
          rcases hd with rfl | rfl
          · exact two bl.n (by decide)
          · exact two bl.d (by decide)
        · exact sx.mono (by decide) (by decide)
    have l9 : (zs ++ [v8]).length ≤ 18 := by rw [List.length_append]; show zs.length + 1 ≤ 18; omega
    generalize zs ++ [v8] = zs at fF6 R9 uF9 a9 l9 ⊢
    generalize upd G6 F (.lst zs) = G7 at fF6 R9 uF9 a9 ⊢
    refine ⟨_, rfl, _, rfl, b, F, zs, rfl, R9.bag, nFb, uF9, by omega, fun Pm G8 ms R10 eP hms lms => ?_⟩
    refine ⟨_, rfl, Pm, ms, rfl, .inl (.inl eP), fun S nS => ?_⟩
    rw [show cutV ms none (some 9) = ms.take 9 from cut_take ms 9]
    have R11 := R9.trans R10
    have sS := same_upd (o := .lst (ms.take 9)) nS
    have uS := upd_same (H := G8) (a := S) (o := .lst (ms.take 9))
    have t9 : (ms.take 9).length ≤ 9 := by rw [List.length_take]; omega
    have a11 : ∀ u ∈ ms.take 9, ThM K (fun a => mS b a ∨ a = F) (upd G8 S (.lst (ms.take 9))) u := fun u hu => by
      obtain ⟨d, h1, h2⟩ := a9 u (hms u (List.mem_of_mem_take hu))
      exact ⟨d, (h1.fut (R10.fut hm7 R9.bag)).fut (.of_same sS), h2⟩
    generalize ms.take 9 = ms at sS uS t9 a11 ⊢
    generalize upd G8 S (.lst ms) = G9 at sS uS a11 ⊢
    have R12 := R11.same sS
    refine ⟨_, rfl, sz8 (by simp), fun M2 nM2 => ?_⟩
    have sM := same_upd (o := .lst [V.ref t]) nM2
    have uM := upd_same (H := G9) (a := M2) (o := .lst [V.ref t])
    generalize upd G9 M2 (.lst [V.ref t]) = G10 at sM uM ⊢
    refine ⟨S, M2, ms, _, rfl, rfl, sM _ _ uS, uM, by have := sizeLine_eq; simp only [List.length_cons, List.length_nil]; omega, fun L1 nL1 => ?_⟩
    have sL := same_upd (o := .lst (ms ++ [V.ref t])) nL1
    have uL := upd_same (H := G10) (a := L1) (o := .lst (ms ++ [V.ref t]))
    have R13 : Rel b H (upd G10 L1 (.lst (ms ++ [V.ref t]))) := R12.same (sM.trans sL)
    have hv13 : Dt K mT (upd G10 L1 (.lst (ms ++ [V.ref t]))) (.ref t) (.tuple [frD l, ix]) := hv.fut (fT R13 hb)
    have L1b : L1 ≠ b := not_bag hb ((R12.same sM).some nL1)
    have eF13 : (upd G10 L1 (.lst (ms ++ [V.ref t]))) F = some (.lst zs) := (sM.trans sL) _ _ (sS _ _ (R10.keep _ _ nFb uF9))
    have okp : Ok (.tuple [frD l, ix]) := (ft (lk rfl) (by
        intro d hd
        simp only [List.mem_cons, List.not_mem_nil, or_false] at hd
        rcases hd with rfl | rfl
        · exact fl2
        · exact sx2)).1
    have wtp : PyData.weight (.tuple [frD l, ix]) ≤ 3114 := (fit_tup (k := 1) (w := 1556) (ds := [frD l, ix]) (by
        intro d hd
        simp only [List.mem_cons, List.not_mem_nil, or_false] at hd
        rcases hd with rfl | rfl
        · exact fl
        · exact sx)).wt
    have a13 : ∀ u ∈ ms ++ [V.ref t], ThM K (fun a => mS b a ∨ a = F) (upd G10 L1 (.lst (ms ++ [V.ref t]))) u := fun u hu => by
      rcases List.mem_append.mp hu with hu | hu
      · obtain ⟨d, h1, h2⟩ := a11 u hu
        exact ⟨d, h1.fut (.of_same (sM.trans sL)), h2⟩
      · rw [List.mem_singleton.mp hu]
        exact ⟨_, up hv13, okp⟩
    have l13 : (ms ++ [V.ref t]).length ≤ 10 := by rw [List.length_append]; show ms.length + 1 ≤ 10; omega
    generalize ms ++ [V.ref t] = ms at sL uL R13 hv13 eF13 a13 l13 ⊢
    generalize upd G10 L1 (.lst ms) = G11 at sL uL R13 hv13 eF13 a13 ⊢
    have bi2 : Bi 2 (.tuple [frD l, ix]) := .inr ⟨_, rfl, lk rfl, fun e he => by
      simp only [List.mem_cons, List.not_mem_nil, or_false] at he
      rcases he with rfl | rfl
      · refine .inr ⟨_, rfl, lk rfl, fun e he => ?_⟩
        simp only [List.mem_cons, List.not_mem_nil, or_false] at he
        rcases he with rfl | rfl
        · exact .inr ⟨_, rfl, Nat.lt_of_lt_of_le bl.n (p2 (by decide))⟩
        · exact .inr ⟨_, rfl, Nat.lt_of_lt_of_le bl.d (p2 (by decide))⟩
      · refine .inl ?_
        rw [hix]
        unfold ixD
        cases hr : (risn cs l)[0]? with
        | none => exact .inl rfl
        | some i =>
          have h1 := List.mem_of_getElem? hr
          unfold risn at h1
          have h2 := List.mem_range.mp (List.mem_filter.mp h1).1
          refine .inr ⟨_, rfl, Nat.lt_of_lt_of_le (show i < 2 ^ 10 by omega) (p2 (by decide))⟩⟩
    refine ⟨_, rfl, by decide, by decide, fun D3 n3 => ?_⟩
    have D3b : D3 ≠ b := not_bag hb (R13.some n3)
    have hm3 : (fun a => (mS b a ∨ a = F) ∨ a = D3) b := .inl (.inl (.inl rfl))
    refine lc_it (walk_range (lo := 0) (n := 4)) (fun i G => Rel b G11 G ∧ ∃ us, G D3 = some (.lst us) ∧ us.length = i ∧ ∀ u ∈ us, ThM K (fun a => (mS b a ∨ a = F) ∨ a = D3) G u) ⟨Rel.at (.refl R13.bag) R13.bag n3, [], upd_same, rfl, fun u h => nomatch h⟩ (fun _ _ _ _ => trivial) ?_ ?_
    · rintro i x J1 J2 hi ⟨R, us, e, ul, g⟩ ⟨rfl, rfl⟩
      refine ⟨rfl, _, rfl, _, rfl, b, (fun a => (mS b a ∨ a = F) ∨ a = D3), .ref t, _, rfl, hm3, R.bag, fun a z => ?_, up (hv13.fut (fT R R13.bag)), bi2, fun v J3 d' ho R2 hd => ?_⟩
      · rcases z with (z | rfl) | rfl
        · exact MuOk.bag R.bag a z
        · exact .inl (by rw [R.keep _ _ nFb eF13]; exact fun z => nomatch z)
        · exact .inl (by rw [e]; exact fun z => nomatch z)
      · have e' := R2.keep _ _ D3b e
        have fD := fut_mu (u := .lst (us ++ [v])) (mu := fun a => (mS b a ∨ a = F) ∨ a = D3) (.inr rfl) e'
        refine ⟨us, e', small1000 (by omega), (R.trans R2).at R13.bag n3, us ++ [v], upd_same, by rw [List.length_append, ul]; rfl, fun u hu => ?_⟩
        rcases List.mem_append.mp hu with hu | hu
        · obtain ⟨d, h1, h2⟩ := g u hu
          exact ⟨d, (h1.fut (R2.fut hm3 R.bag)).fut fD, h2⟩
        · rw [List.mem_singleton.mp hu]
          exact ⟨d', hd.fut fD, ⟨ho.1, Nat.le_trans ho.2.1 (by decide), Nat.le_trans ho.2.2 (by omega)⟩⟩
    · rintro J1 ⟨R, us, e, ul, g⟩
      have eL := R.keep _ _ L1b uL
      refine ⟨L1, D3, ms, us, rfl, rfl, eL, e, by have := sizeLine_eq; omega, fun L2 nL2 => ?_⟩
      have s2 := same_upd (o := .lst (ms ++ us)) nL2
      have R14 := R13.trans R
      have R15 := R14.same s2
      refine k L2 _ (ms ++ us) R15 (not_bag hb (R14.some nL2)) upd_same (fun u hu => ?_) (by rw [List.length_append]; omega)
      rcases List.mem_append.mp hu with hu | hu
      · obtain ⟨d, h1, h2⟩ := a13 u hu
        exact ⟨d, (((h1.fut (R.fut hm7 R13.bag)).fut (.of_same s2)).less fun a z => .inl z), h2⟩
      · obtain ⟨d, h1, h2⟩ := g u hu
        exact ⟨d, ((h1.fut (.of_same s2)).less fun a z => .inl (.inl z)), h2⟩
end
end K33
/-! `x or y` by truth within a comprehension. -/
namespace Sw
open PySem PySem.Spec PyProof.Rows L2
theorem pe_orTK {X : Cx} {K : PySem.W.Frag} (hK : X.K = K) {a b : Expr} {ta tb : TE} {rest : List Expr} {pos : Pos} (ha : PE X a ta) (hb : PE X (Expr.BoolOp BoolOp.Or (b :: rest) pos) tb) : PE X (Expr.BoolOp BoolOp.Or (a :: b :: rest) pos) (tOrT K ta tb) := by
  subst hK
  exact pe_orT ha hb
end Sw
/-! Any datum beside whole numbers in tuples: ==. -/
namespace Sw
open PySem PySem.Spec PyProof.Rows L2 PySem.SeqAt
open AutoSeq1 (wpAny_loadPart')
theorem dict_eq_declines_tuple (l b : Addr) (es : Array DictEntry) (ep : Nat) (items2 : Array Value) (n2 : Nat) (dd dd2 : Option Addr) (sl sl2 : Array (Option Value)) :
    Meets (Builtin.«dict.__eq__» ⟨[.ref l, .ref b], []⟩) (fun _ R s => s.heap.get? l = some { cls := .type "dict", dict := dd, data := .dict es ep, slots := sl } ∧ s.heap.get? b = some { cls := .type "tuple", dict := dd2, data := .seq items2 n2, slots := sl2 } ∧ R (.ok (.ret .notImplemented)) s) :=
  .of_wp fun prog w A R s h => by obtain ⟨hp, g, d, tk, os⟩ := s; obtain ⟨hl, hb, h⟩ := h; have f1 := F.sub_tuple_dict; wp_walk using wpAny_loadPart' hl, wpAny_load hl, wpAny_loadPart' hb, wpAny_load hb; exact ⟨_, rfl, h⟩
theorem tuple_eq_declines_dict (l b : Addr) (es : Array DictEntry) (ep : Nat) (items2 : Array Value) (n2 : Nat) (dd dd2 : Option Addr) (sl sl2 : Array (Option Value)) :
    Meets (Builtin.«tuple.__eq__» ⟨[.ref b, .ref l], []⟩) (fun _ R s => s.heap.get? l = some { cls := .type "dict", dict := dd, data := .dict es ep, slots := sl } ∧ s.heap.get? b = some { cls := .type "tuple", dict := dd2, data := .seq items2 n2, slots := sl2 } ∧ R (.ok (.ret .notImplemented)) s) :=
  .of_wp fun prog w A R s h => by obtain ⟨hp, g, d, tk, os⟩ := s; obtain ⟨hl, hb, h⟩ := h; have f1 := F.sub_dict_tuple; wp_walk using wpAny_loadPart' hl, wpAny_load hl, wpAny_loadPart' hb, wpAny_load hb; exact ⟨_, rfl, h⟩
theorem dict_eq_declines_int (l : Addr) (es : Array DictEntry) (ep : Nat) (dd : Option Addr) (sl : Array (Option Value)) (b : Int) (u : Tok) :
    Meets (Builtin.«dict.__eq__» ⟨[.ref l, .int b u], []⟩) (fun _ R s => s.heap.get? l = some { cls := .type "dict", dict := dd, data := .dict es ep, slots := sl } ∧ R (.ok (.ret .notImplemented)) s) :=
  .of_wp fun prog w A R s h => by obtain ⟨hp, g, d, tk, os⟩ := s; obtain ⟨hl, h⟩ := h; have f1 := F.sub_int_dict; wp_walk using wpAny_loadPart' hl, wpAny_load hl; exact ⟨_, rfl, h⟩
theorem int_eq_declines_dict (l : Addr) (es : Array DictEntry) (ep : Nat) (dd : Option Addr) (sl : Array (Option Value)) (b : Int) (u : Tok) :
    Meets (Builtin.«int.__eq__» ⟨[.int b u, .ref l], []⟩) (fun _ R s => s.heap.get? l = some { cls := .type "dict", dict := dd, data := .dict es ep, slots := sl } ∧ R (.ok (.ret .notImplemented)) s) :=
  .of_wp fun prog w A R s h => by obtain ⟨hp, g, d, tk, os⟩ := s; obtain ⟨hl, h⟩ := h; wp_walk using wpAny_loadPart' hl, wpAny_load hl; exact ⟨_, rfl, h⟩
section
variable {A : Around} {s : Shared}
theorem rcAt_dict_tuple {l b : Addr} {o : Obj} {es : Array DictEntry} {ep : Nat} {items : Array Value} (ho : s.heap.get? l = some o) (hc : o.cls = .type "dict") (hd : o.data = .dict es ep) (hb : s.heap.IsTuple b items) (hu : A.units < cLine) : RcAt A s (.ref l) (.ref b) false := fun prog w E Q h => by
  obtain ⟨cls, dd, data, sl⟩ := o
  simp only at hc hd
  subst hc hd
  obtain ⟨⟨cls2, dd2, data2, sl2⟩, ho2, hc2, n2, hd2⟩ := hb
  simp only at hc2 hd2
  subst hc2 hd2
  have ne : l ≠ b := fun z => by
    rw [z, ho2] at ho
    simp at ho
  exact rc_eq_decline_or (k := false) ⟨_, ho, rfl⟩ ⟨_, ho2, rfl⟩ (by decide) F.sub_tuple_dict F.slot_dict_eq F.slot_tuple_eq_refl
    (fun _ hq => call_meets F.slot_dict_eq ⟨_, ho, rfl⟩ F.entry_dict_eq (F.args_dict_eq_2 _ _) (dict_eq_declines_tuple l b es ep items n2 dd dd2 sl sl2) ⟨ho, ho2, hq⟩)
    (fun _ hq => call_meets F.slot_tuple_eq_refl ⟨_, ho2, rfl⟩ F.entry_tuple_eq (F.args_tuple_eq_2 _ _) (tuple_eq_declines_dict l b es ep items n2 dd dd2 sl sl2) ⟨ho, ho2, hq⟩)
    (fun _ hq => by
      simp [isSame, ne]
      wp_walk using wpAny_load ho, wpAny_load ho2
      exact hq) (.inr hu) h
theorem rcAt_dict_int {l : Addr} {o : Obj} {es : Array DictEntry} {ep : Nat} (b : Int) (u : Tok) (ho : s.heap.get? l = some o) (hc : o.cls = .type "dict") (hd : o.data = .dict es ep) (hu : A.units < cLine) : RcAt A s (.ref l) (.int b u) false := fun prog w E Q h => by
  obtain ⟨cls, dd, data, sl⟩ := o
  simp only at hc hd
  subst hc hd
  exact rc_eq_decline_or (k := false) ⟨_, ho, rfl⟩ (typeIs_int s b u) (by decide) F.sub_int_dict F.slot_dict_eq F.slot_int_eq_refl
    (fun _ hq => call_meets F.slot_dict_eq ⟨_, ho, rfl⟩ F.entry_dict_eq (F.args_dict_eq_2 _ _) (dict_eq_declines_int l es ep dd sl b u) ⟨ho, hq⟩)
    (fun _ hq => call_meets F.slot_int_eq_refl (typeIs_int s b u) F.entry_int_eq (F.args_int_eq_2 _ _) (int_eq_declines_dict l es ep dd sl b u) ⟨ho, hq⟩)
    (fun _ hq => wpAny_of_eq (rfl : isSame (.ref l) (.int b u) = pure false) hq) (.inr hu) h
theorem eqAt_rc {l : Addr} {b : Value} {k : Bool} (h : RcAt A s (.ref l) b k) (he : .ref l = b → k = true) : EqAt A s (.ref l) b k := fun prog w E Q q => by
  unfold eqBool
  refine wpAny_holding ?_
  refine wpAny_ite_split (fun hab => ?_) (fun _ => ?_)
  · have := he (eq_of_beq hab)
    subst this
    wp_walk
    exact q
  · exact wpAny_bind (h prog w E _ (wpAny_truthy_bool q))
theorem rds_len {h : Heap} : ∀ {vs : List Value} {ds : List PyData} {as : List Addr}, ReadsAll h vs ds as → vs.length = ds.length
  | _, _, _, .nil => rfl
  | _, _, _, .cons _ t => congrArg Nat.succ (rds_len t)
end
mutual
def isPl : PyData → Bool
  | .int _ => true
  | .tuple ds => isPlA ds
  | _ => false
def isPlA : List PyData → Bool
  | [] => true
  | d :: ds => isPl d && isPlA ds
end
mutual
theorem pl_lay : ∀ d : PyData, isPl d = true → d.canLay0 = true
  | .int _, _ => rfl
  | .tuple ds, h => pl_layA ds h
  | .none, h => by cases h
  | .bool _, h => by cases h
  | .str _, h => by cases h
  | .list _, h => by cases h
  | .dict _, h => by cases h
theorem pl_layA : ∀ ds : List PyData, isPlA ds = true → PyData.canLayAll0 ds = true
  | [], _ => rfl
  | d :: ds, h => by
    have h : (isPl d && isPlA ds) = true := h
    rw [Bool.and_eq_true] at h
    show (d.canLay0 && PyData.canLayAll0 ds) = true
    rw [pl_lay d h.1, pl_layA ds h.2]
    rfl
end
theorem pl_refl (d : PyData) (h : isPl d = true) : d.eqv d = true := PySem.SeqAt.eqv_refl d (pl_lay d h)
mutual
theorem eqAt_pl : ∀ (e d : PyData) (A : Around) (s : Shared) (a b : Value) (as bs : List Addr), isPl e = true → Reads s.heap a d as → Reads s.heap b e bs → A.units + e.depth < cLine → EqAt A s a b (d.eqv e)
  | .int i, d, A, s, a, b, as, bs, _, ra, rb, hu => by
    have hu : A.units < cLine := by
      have : PyData.depth (.int i) = 0 := rfl
      omega
    cases rb with
    | int _ t =>
      cases ra with
      | none => exact EqAt.none_int i t
      | bool c => exact EqAt.bool_int c i t
      | int j u => exact EqAt.int_int j u i t
      | str x u => exact EqAt.str_int x u i t
      | list h1 h2 h3 h4 => exact EqAt.list_int i t ⟨_, h1, h2, _, h3⟩ hu
      | tuple h1 h2 h3 h4 => exact EqAt.tuple_int i t ⟨_, h1, h2, _, h3⟩ hu
      | dict h1 h2 h3 h4 h5 => exact eqAt_rc (rcAt_dict_int i t h1 h2 h3 hu) fun z => by cases z
  | .tuple es, d, A, s, a, b, as, bs, hp, ra, rb, hu => by
    have hd : PyData.depth (.tuple es) = PyData.depthAll es + 1 := rfl
    have hu' : A.units < cLine := by omega
    have hp' : isPlA es = true := hp
    cases rb with
    | tuple b1 b2 b3 b4 =>
      cases ra with
      | none => exact EqAt.none_tuple ⟨_, b1, b2, _, b3⟩ hu'
      | bool c => exact EqAt.bool_tuple c ⟨_, b1, b2, _, b3⟩ hu'
      | int j u => exact EqAt.int_tuple j u ⟨_, b1, b2, _, b3⟩ hu'
      | str x u => exact EqAt.str_tuple x u ⟨_, b1, b2, _, b3⟩ hu'
      | list h1 h2 h3 h4 => exact EqAt.list_tuple ⟨_, h1, h2, _, h3⟩ ⟨_, b1, b2, _, b3⟩ hu'
      | @tuple la oa va na ds _ h1 h2 h3 h4 =>
        refine eqAt_rc ?_ fun z => ?_
        · have := RcAt.tuples (A := A) (e := pairEq ds es) ⟨_, h1, h2, _, h3⟩ ⟨_, b1, b2, _, b3⟩ hu' (fun j j1 j2 => by
            have := eqAt_plA es ds A.in1 s _ _ _ _ hp' h4 b4 (by
              have : A.in1.units = A.units + 1 := rfl
              omega) j (by simpa using j1) (by simpa using j2)
            simpa using this)
          have e1 := rds_len h4
          have e2 := rds_len b4
          have e3 : PyData.eqv (.tuple ds) (.tuple es) = PyData.eqvAll ds es := rfl
          rw [e3, ← eqvAll_eq]
          simp only [Array.length_toList] at e1 e2
          rw [e1, e2] at this
          exact this
        · have ra' := Reads.tuple (h := s.heap) h1 h2 h3 h4
          have rb' := Reads.tuple (h := s.heap) b1 b2 b3 b4
          rw [z] at ra'
          have := (PySem.Reads.unique rb' _ _ ra').1
          rw [← this]
          exact pl_refl _ hp
      | dict h1 h2 h3 h4 h5 =>
        refine eqAt_rc (rcAt_dict_tuple h1 h2 h3 ⟨_, b1, b2, _, b3⟩ hu') fun z => ?_
        cases z
        rw [h1] at b1
        cases b1
        rw [h2] at b2
        simp at b2
  | .none, _, _, _, _, _, _, _, h, _, _, _ => by cases h
  | .bool _, _, _, _, _, _, _, _, h, _, _, _ => by cases h
  | .str _, _, _, _, _, _, _, _, h, _, _, _ => by cases h
  | .list _, _, _, _, _, _, _, _, h, _, _, _ => by cases h
  | .dict _, _, _, _, _, _, _, _, h, _, _, _ => by cases h
theorem eqAt_plA : ∀ (es ds : List PyData) (A : Around) (s : Shared) (vs ws : List Value) (as bs : List Addr), isPlA es = true → ReadsAll s.heap vs ds as → ReadsAll s.heap ws es bs → A.units + PyData.depthAll es < cLine → ∀ (j : Nat) (h1 : j < vs.length) (h2 : j < ws.length), EqAt A s vs[j] ws[j] (pairEq ds es j)
  | [], _, _, _, _, _, _, _, _, _, rb, _, j, _, h2 => by
    cases rb
    cases h2
  | e :: es, ds, A, s, vs, ws, as, bs, hp, ra, rb, hu, j, h1, h2 => by
    have hp : (isPl e && isPlA es) = true := hp
    rw [Bool.and_eq_true] at hp
    have hd : PyData.depthAll (e :: es) = max e.depth (PyData.depthAll es) := rfl
    cases rb with
    | cons b1 b2 =>
      cases ra with
      | nil => cases h1
      | cons r1 r2 =>
        cases j with
        | zero => exact eqAt_pl e _ A s _ _ _ _ hp.1 r1 b1 (by omega)
        | succ j => exact eqAt_plA es _ A s _ _ _ _ hp.2 r2 b2 (by omega) j (by simpa using h1) (by simpa using h2)
end
theorem rcAt_plT (es : List PyData) (d : PyData) (A : Around) (s : Shared) (a b : Value) (as bs : List Addr) (hp : isPl (.tuple es) = true) (ra : Reads s.heap a d as) (rb : Reads s.heap b (.tuple es) bs) (hu : A.units + PyData.depthAll es + 1 < cLine) : RcAt A s a b (d.eqv (.tuple es)) := by
  have hu' : A.units < cLine := by omega
  have hp' : isPlA es = true := hp
  cases rb with
  | tuple b1 b2 b3 b4 =>
    cases ra with
    | none => exact RcAt.none_tuple ⟨_, b1, b2, _, b3⟩ hu'
    | bool c => exact RcAt.bool_tuple c ⟨_, b1, b2, _, b3⟩ hu'
    | int j u => exact RcAt.int_tuple j u ⟨_, b1, b2, _, b3⟩ hu'
    | str x u => exact RcAt.str_tuple x u ⟨_, b1, b2, _, b3⟩ hu'
    | list h1 h2 h3 h4 => exact RcAt.list_tuple ⟨_, h1, h2, _, h3⟩ ⟨_, b1, b2, _, b3⟩ hu'
    | @tuple la oa va na ds _ h1 h2 h3 h4 =>
      have := RcAt.tuples (A := A) (e := pairEq ds es) ⟨_, h1, h2, _, h3⟩ ⟨_, b1, b2, _, b3⟩ hu' (fun j j1 j2 => by
        have := eqAt_plA es ds A.in1 s _ _ _ _ hp' h4 b4 (by
          have : A.in1.units = A.units + 1 := rfl
          omega) j (by simpa using j1) (by simpa using j2)
        simpa using this)
      have e1 := rds_len h4
      have e2 := rds_len b4
      have e3 : PyData.eqv (.tuple ds) (.tuple es) = PyData.eqvAll ds es := rfl
      rw [e3, ← eqvAll_eq]
      simp only [Array.length_toList] at e1 e2
      rw [e1, e2] at this
      exact this
    | dict h1 h2 h3 h4 h5 => exact rcAt_dict_tuple h1 h2 h3 ⟨_, b1, b2, _, b3⟩ hu'
/-- any datum == whole numbers in tuples -/
def rEqP (K : PySem.W.Frag) : R2 := fun x y H Q => ∃ mu mv d es, Dt K mu H x d ∧ Dt K mv H y (.tuple es) ∧ isPl (.tuple es) = true ∧ PyData.depthAll es < 64 ∧ Q (.bl (PyData.eqv d (.tuple es))) H
theorem op_eqP {X : Cx} (hu : X.A.units + 64 < cLine) : OpR X (compareOp .Eq) (rEqP X.K) := by
  intro pins s σ H x y v u Q I rx ry h
  obtain ⟨mu, mv, d, es, hd, he, hp, hl, q⟩ := h
  obtain ⟨as, r1, _⟩ := Dt.reads I d x v hd rx
  obtain ⟨bs, r2, _⟩ := Dt.reads I (.tuple es) y u he ry
  exact rcAt_plT es d X.A s v u as bs hp r1 r2 (by omega) X.prog X.w _ _ ⟨.bl _, H, I, rfl, q⟩
end Sw
namespace K33
open PySem PySem.Spec PyProof.Rows L2 Sw MC LamX
theorem fit_cv {c : Cv} (h : LC c) : Fit (cvD c) 4 1800 := by
  have f1 : ∀ d ∈ c.pts.map ptD, Fit d 2 178 := fun d hd => by
    obtain ⟨p, hp, rfl⟩ := List.mem_map.mp hd
    refine fit_tup (k := 1) (w := 88) (ds := [frD p.1, frD p.2]) fun e he => ?_
    simp only [List.mem_cons, List.not_mem_nil, or_false] at he
    rcases he with rfl | rfl
    · exact (fit_fr ((h.pt p hp).1.rb (by decide)) (by decide) (by decide)).mono (by decide) (by decide)
    · exact (fit_fr ((h.pt p hp).2.rb (by decide)) (by decide) (by decide)).mono (by decide) (by decide)
  have f2 : Fit (.tuple (c.pts.map ptD)) 3 895 := (fit_tup f1).mono (by decide) (by
    rw [List.length_map]
    have := h.n
    exact Nat.le_trans (Nat.mul_le_mul_right _ this) (by decide))
  refine (fit_tup (k := 3) (w := 895) (ds := [.tuple (c.pts.map ptD), frD c.slope]) fun e he => ?_).mono (by decide) (by show 2 * 896 ≤ 1800; decide)
  simp only [List.mem_cons, List.not_mem_nil, or_false] at he
  rcases he with rfl | rfl
  · exact f2
  · exact (fit_fr (h.sl.rb (by decide)) (by decide) (by decide)).mono (by decide) (by decide)
theorem fit_cvs {cs : List Cv} (h : ∀ c ∈ cs, LC c) (hl : cs.length ≤ 5) : Fit (.list (cs.map cvD)) 5 9005 := by
  refine (fit_lst (k := 4) (w := 1800) fun d hd => ?_).mono (by decide) (by
    rw [List.length_map]
    exact Nat.le_trans (Nat.mul_le_mul_right _ hl) (by decide))
  obtain ⟨c, hc, rfl⟩ := List.mem_map.mp hd
  exact fit_cv (h c hc)
def lvD : Option Rat → PyData
  | some q => frD q
  | none => .none
theorem rd_exN {H H' : Hp} (f : ExtN H H') {a : Addr} {o : HO} (r : Rd H a o) (n : ∀ ps, o ≠ .tbl ps) : Rd H' a o := r.imp (fun e => f _ _ e n) fun ⟨u, e⟩ => ⟨u, f _ _ e fun _ z => nomatch z⟩
theorem bag_exN {H H' : Hp} {b : Addr} (h : BagAt H b) (e : ExtN H H') : BagAt H' b := by
  obtain ⟨x, y, z, l, cs, h1, h2, r⟩ := h
  exact ⟨x, y, z, l, cs, e _ _ h1 (fun _ w => nomatch w), e _ _ h2 (fun _ w => nomatch w), r⟩
theorem tabs_rel {T : List (Addr × Str)} {b : Addr} {H H' : Hp} (t : Tabs T H) (R : Rel b H H') (hb : BagAt H b) : Tabs T H' := by
  obtain ⟨x, y, z, l, cs, h1, _⟩ := id hb
  exact tabs_fut t (R.fut (mu := mD b) rfl hb) h1
theorem OQ.dt {K : PySem.W.Frag} {mu : Addr → Prop} {H : Hp} {v : V} {o : Option Rat} (h : OQ K H v o) : Dt K mu H v (lvD o) := by
  cases o with
  | none =>
    have h : v = .non := h
    subst h
    exact .non
  | some q => exact Ql.dt h
theorem OQ.fut {K : PySem.W.Frag} {H H' : Hp} {v : V} {o : Option Rat} (h : OQ K H v o) (f : Fut mT H H') : OQ K H' v o := by
  cases o with
  | none => exact h
  | some q => exact Ql.fut h f
theorem fit_pp {cs : List Cv} (hl : cs.length ≤ 5) {o : Option Rat} (h : ∀ l, o = some l → Rb 830 724 l) : Fit (ppD cs o) 2 3114 := by
  cases o with
  | none => exact ⟨rfl, rfl, Nat.zero_le _, Nat.zero_le _⟩
  | some l =>
    refine fit_tup (k := 1) (w := 1556) (ds := [frD l, ixD cs l]) fun d hd => ?_
    simp only [List.mem_cons, List.not_mem_nil, or_false] at hd
    rcases hd with rfl | rfl
    · exact fit_fr (h l rfl) (by decide) (by decide)
    · refine fit_sm ?_
      unfold ixD
      cases hr : (risn cs l)[0]? with
      | none => exact .inl rfl
      | some i =>
        have h1 := List.mem_of_getElem? hr
        unfold risn at h1
        have h2 := List.mem_range.mp (List.mem_filter.mp h1).1
        exact .inr (.inl ⟨_, rfl, by show i < 2 ^ 10; omega⟩)
/-- the pays as a row -/
def qsO (cs : List Cv) : Option Rat → List Rat
  | some l => cs.map fun c => c.ev l
  | none => []
theorem fit_row {qs : List Rat} (hl : qs.length ≤ 6) (h : ∀ q ∈ qs, Rb 937 829 q) : Fit (.tuple (qs.map frD)) 2 10614 ∧ Fit (.list (qs.map frD)) 2 10614 := by
  have f : ∀ d ∈ qs.map frD, Fit d 1 1768 := fun d hd => by
    obtain ⟨q, hq, rfl⟩ := List.mem_map.mp hd
    exact fit_fr (h q hq) (by decide) (by decide)
  have e : (qs.map frD).length * 1769 ≤ 10614 := by
    rw [List.length_map]
    exact Nat.le_trans (Nat.mul_le_mul_right _ hl) (by decide)
  exact ⟨(fit_tup f).mono (by decide) e, (fit_lst f).mono (by decide) e⟩
theorem fit_py {cs : List Cv} (hl : cs.length ≤ 5) {o : Option Rat} (h : ∀ q ∈ qsO cs o, Rb 937 829 q) : Fit (pyD cs o) 2 10614 := by
  cases o with
  | none => exact ⟨rfl, rfl, Nat.zero_le _, Nat.zero_le _⟩
  | some l => exact (fit_row (qs := qsO cs (some l)) (by show (cs.map _).length ≤ 6; rw [List.length_map]; omega) h).1
mutual
theorem Dt.exN {K : PySem.W.Frag} {mu : Addr → Prop} {H H' : Hp} (f : ExtN H H') : ∀ {v : V} {d : PyData}, Dt K mu H v d → Dt K mu H' v d
  | _, _, .non => .non
  | _, _, .bl b => .bl b
  | _, _, .int i => .int i
  | _, _, .str x => .str x
  | _, _, .lst n r h => .lst n (rd_exN f r (fun _ z => nomatch z)) (DtA.exN f h)
  | _, _, .tup r h => .tup (rd_exN f r (fun _ z => nomatch z)) (DtA.exN f h)
  | _, _, .tupK r h => .tupK r (DtA.exN f h)
  | _, _, .dct n r h => .dct n (rd_exN f r (fun _ z => nomatch z)) (DtK.exN f h)
theorem DtA.exN {K : PySem.W.Frag} {mu : Addr → Prop} {H H' : Hp} (f : ExtN H H') : ∀ {vs : List V} {ds : List PyData}, DtA K mu H vs ds → DtA K mu H' vs ds
  | _, _, .nil => .nil
  | _, _, .cons h t => .cons (Dt.exN f h) (DtA.exN f t)
theorem DtK.exN {K : PySem.W.Frag} {mu : Addr → Prop} {H H' : Hp} (f : ExtN H H') : ∀ {vs : List (Key × V)} {ds : List (PyData × PyData)}, DtK K mu H vs ds → DtK K mu H' vs ds
  | _, _, .nil => .nil
  | _, _, .cons h t => .cons (Dt.exN f h) (DtK.exN f t)
end
theorem Am.exN {K : PySem.W.Frag} {H H' : Hp} {v : V} (h : Am K H v) (e : ExtN H H') : Am K H' v := h.fut (exN_fut e)
/-- what a turn keeps -/
structure Ev (K : PySem.W.Frag) (pt b C S : Addr) (xs as : List V) (cs : List Cv) (H : Hp) : Prop where
  eC : H C = some (.lst xs)
  aC : DtA K mT H xs (cs.map cvD)
  bg : BagAt H b
  tb : Tabs (tbT pt) H
  eS : H S = some (.lst as)
  am : ∀ v ∈ as, Am K H v
theorem Ev.exN {K : PySem.W.Frag} {pt b C S : Addr} {xs as : List V} {cs : List Cv} {H H' : Hp} (h : Ev K pt b C S xs as cs H) (e : ExtN H H') (t : Tabs (tbT pt) H') : Ev K pt b C S xs as cs H' :=
  ⟨exN_list h.eC e, h.aC.fut (exN_fut e), bag_exN h.bg e, t, exN_list h.eS e, fun v hv => (h.am v hv).exN e⟩
theorem Ev.same {K : PySem.W.Frag} {pt b C S : Addr} {xs as : List V} {cs : List Cv} {H H' : Hp} (h : Ev K pt b C S xs as cs H) (s : Same H H') : Ev K pt b C S xs as cs H' := h.exN (exN_same s) (tabs_same h.tb s)
theorem Ev.rel {K : PySem.W.Frag} {pt b C S : Addr} {xs as : List V} {cs : List Cv} {H H' : Hp} (h : Ev K pt b C S xs as cs H) (nC : C ≠ b) (nS : S ≠ b) (R : Rel b H H') : Ev K pt b C S xs as cs H' :=
  ⟨R.keep _ _ nC h.eC, h.aC.fut (fT R h.bg), R.bag, tabs_rel h.tb R h.bg, R.keep _ _ nS h.eS, fun v hv => (h.am v hv).fut (fT R h.bg)⟩
theorem Ev.cdt {K : PySem.W.Frag} {pt b C S : Addr} {xs as : List V} {cs : List Cv} {H : Hp} (h : Ev K pt b C S xs as cs H) : Dt K (fun _ => False) H (.ref C) (.list (cs.map cvD)) := .lst id (.inl h.eC) (h.aC.less fun _ z => z.elim)
/-- greater fractions that may be shown -/
theorem sh_frW {qs : List Rat} (h : ∀ q ∈ qs, Rb 1800 1800 q) : PyData.showableAll (qs.map frD) = true ∧ PyData.leavesShortAll 600 (qs.map frD) = true ∧ PyData.hasDictAll (qs.map frD) = false ∧ PyData.weightAll (qs.map frD) ≤ qs.length * 3604 := by
  have I : ∀ {i : Int}, i.natAbs < 2 ^ 1800 → (PyData.int i).showable = true ∧ (PyData.int i).leavesShort 600 = true := fun {i} h => by
    have e : (2 : Nat) ^ 1800 ≤ 10 ^ 570 := by decide +kernel
    have h2 := int_text_length_le10 (k := 570) (by decide) (Nat.lt_of_lt_of_le h e)
    refine ⟨?_, ?_⟩
    · simp only [PyData.showable, decide_eq_true_eq]
      by_cases z : i.natAbs = 0
      · rw [z]
        decide
      · exact Nat.lt_trans ((Nat.log2_lt z).mpr h) (by decide)
    · simp only [PyData.leavesShort, decide_eq_true_eq]
      show (Str.ofString (toString i)).length ≤ 600
      rw [PySem.ofString_length]
      omega
  induction qs with
  | nil => exact ⟨rfl, rfl, rfl, Nat.zero_le _⟩
  | cons q qs ih =>
    obtain ⟨a1, a2, a3, a4⟩ := ih fun x hx => h x (List.mem_cons_of_mem _ hx)
    have hq := h q List.mem_cons_self
    have n1 := I hq.n
    have n2 := I hq.d
    have e1 : (frD q).showable = true := by
      show ((PyData.int (rF q).1).showable && ((PyData.int (rF q).2).showable && true)) = true
      rw [n1.1, n2.1]
      rfl
    have e2 : (frD q).leavesShort 600 = true := by
      show ((PyData.int (rF q).1).leavesShort 600 && ((PyData.int (rF q).2).leavesShort 600 && true)) = true
      rw [n1.2, n2.2]
      rfl
    refine ⟨?_, ?_, ?_, ?_⟩
    · show ((frD q).showable && PyData.showableAll (qs.map frD)) = true
      rw [e1, a1]
      rfl
    · show ((frD q).leavesShort 600 && PyData.leavesShortAll 600 (qs.map frD)) = true
      rw [e2, a2]
      rfl
    · show ((frD q).hasDict || PyData.hasDictAll (qs.map frD)) = false
      rw [a3]
      rfl
    · show PyData.weight (frD q) + 1 + PyData.weightAll (qs.map frD) ≤ (qs.length + 1) * 3604
      have w1 := wt_int hq.n
      have w2 := wt_int hq.d
      have : PyData.weight (frD q) = PyData.weight (.int (rF q).1) + 1 + (PyData.weight (.int (rF q).2) + 1 + 0) := rfl
      rw [Nat.succ_mul]
      omega
theorem or_pays {K : PySem.W.Frag} {v : V} {H : Hp} {cs : List Cv} {o : Option Rat} {tb : TE} {σ : L2.St} {Q : VK} (h : Dt K mT H v (pyD cs o)) (k1 : ∀ ts us, v = .ref ts → SqT K H ts us → DtA K mT H us ((qsO cs o).map frD) → Q v H) (k2 : qsO cs o = [] → tb σ H Q) : ∃ k, TruV K v H k ∧ if k = true then Q v H else tb σ H Q := by
  cases o with
  | none =>
    have h : Dt K mT H v .none := h
    cases h
    exact ⟨false, rfl, k2 rfl⟩
  | some l =>
    have h : Dt K mT H v (.tuple ((cs.map fun c => c.ev l).map frD)) := h
    obtain ⟨ts, us, rfl, hs, hd⟩ := h.tupAt
    refine ⟨!us.isEmpty, .inr (.inl ⟨us, hs, rfl⟩), ?_⟩
    cases us with
    | nil =>
      refine k2 ?_
      have := hd.length
      rw [List.length_map] at this
      exact List.eq_nil_of_length_eq_zero (by show (cs.map _).length = 0; rw [← this]; rfl)
    | cons x xs => exact k1 ts _ rfl hs hd
theorem dtA_rev {K : PySem.W.Frag} {mu : Addr → Prop} {H : Hp} : ∀ {xs : List V} {ds : List PyData}, DtA K mu H xs ds → DtA K mu H xs.reverse ds.reverse
  | _, _, .nil => .nil
  | _, _, .cons h t => by
    rw [List.reverse_cons, List.reverse_cons]
    exact (dtA_rev t).append (.cons h .nil)
theorem cutV_from (xs : List V) (n : Nat) : cutV xs (some (n : Int)) none = xs.drop n := by
  unfold cutV
  rw [HT.sIx_none, HT.sIx_nat]
  by_cases h : n ≤ xs.length
  · rw [Nat.min_eq_left h]
    exact List.take_of_length_le (by rw [List.length_drop]; omega)
  · rw [List.drop_eq_nil_of_le (by omega), List.drop_eq_nil_of_le (by omega), List.take_nil]
theorem dtA_repl {K : PySem.W.Frag} {mu : Addr → Prop} {H : Hp} {v : V} {q : Rat} : ∀ n : Nat, Dt K mu H v (frD q) → DtA K mu H (List.replicate n v) ((List.replicate n q).map frD)
  | 0, _ => .nil
  | n + 1, h => .cons h (dtA_repl n h)
theorem bi_frs {rs : List Rat} (hl : rs.length ≤ 6) (h : ∀ q ∈ rs, Rb 937 829 q) : Bi 2 (.tuple (rs.map frD)) := .inr ⟨_, rfl, by rw [List.length_map]; exact hl, fun e he => by
  obtain ⟨q, hq, rfl⟩ := List.mem_map.mp he
  refine .inr ⟨_, rfl, lk rfl, fun e he => ?_⟩
  simp only [List.mem_cons, List.not_mem_nil, or_false] at he
  rcases he with rfl | rfl
  · exact .inr ⟨_, rfl, Nat.lt_of_lt_of_le (h q hq).n (p2 (by decide))⟩
  · exact .inr ⟨_, rfl, Nat.lt_of_lt_of_le (h q hq).d (p2 (by decide))⟩⟩
theorem jA_eq {cs : List Cv} {l : Rat} {d : PyData} (c : Bool) (h1 : PyData.eqv d (pyD cs (some l)) = true → c = decide (PyData.shown d = PyData.shown (pyD cs (some l)))) (h2 : PyData.eqv d (pyD cs (some l)) = false → c = false) : c = jA cs (some l) d := by
  cases q : PyData.eqv d (pyD cs (some l)) with
  | false =>
    rw [h2 q]
    cases d with
    | tuple ds =>
      show false = (ds.all isFrac && PyData.eqv (.tuple ds) (pyD cs (some l)))
      rw [q, Bool.and_false]
    | _ => rfl
  | true =>
    rw [h1 q]
    cases d with
    | tuple ds =>
      show _ = (ds.all isFrac && PyData.eqv (.tuple ds) (pyD cs (some l)))
      rw [q, Bool.and_true]
      exact (paid_judge q).symm
    | none => cases q
    | bool _ => cases q
    | int _ => cases q
    | str _ => cases q
    | list _ => cases q
    | dict _ => cases q
def spAlikeW (K : PySem.W.Frag) : Sp := fun vs H Q _ => ∃ (x y : V) (mu : Addr → Prop) (qs : List Rat), vs = [x, y] ∧ Dt K mu H x (.tuple (qs.map frD)) ∧ Dt K mu H y (.tuple (qs.map frD)) ∧ (∀ q ∈ qs, Rb 1800 1800 q) ∧ qs.length ≤ 6 ∧ Q (.bl true) H
def spLaw (K : PySem.W.Frag) (pt : Addr) : Sp := fun vs H Q _ => ∃ (a : Addr) (ns : List Int), vs = [.ref a] ∧ SqL K H a (ns.map V.int) ∧ ns.length ≤ 63 ∧ Tabs (tbT pt) H ∧ ∀ H', Q (.bl true) H'
theorem pl_frs (qs : List Rat) : isPl (.tuple (qs.map frD)) = true ∧ PyData.depthAll (qs.map frD) < 64 := by
  induction qs with
  | nil => exact ⟨rfl, by decide⟩
  | cons q qs ih =>
    refine ⟨?_, ?_⟩
    · show (isPl (frD q) && isPlA (qs.map frD)) = true
      rw [show isPlA (qs.map frD) = true from ih.1]
      rfl
    · show max (PyData.depth (frD q)) (PyData.depthAll (qs.map frD)) < 64
      have : PyData.depth (frD q) = 1 := rfl
      have := ih.2
      omega
section
variable {P : Program} {w : World} {K : PySem.W.Frag} {mg : Str → Option Value} {base : Heap}
theorem ok__law_alikeW {f : Addr} {fd : FuncData} (F : Fun K "_law_alike" "_law_alike" s_law_alike f fd) (B : Bt mg) : FnG P w K mg base 1 f fd ["found", "due"] (spAlikeW K) := by
  refine Fun.okG F sc__law_alike (fun vs H Q E h => ?_) (fun cdv A outer s H vs Q E hg hr h => ?_)
  · obtain ⟨x, y, mu, d, rfl, _⟩ := h
    rfl
  obtain ⟨x, y, mu, qs, rfl, hx, hy, hq, hl, k⟩ := h
  have hu := Room.u64 hr
  refine ⟨_, (pss_one (ps_ret (pe_and (pe_cmpR (op_eqA hu) (pv 0) (pv 1) (nomark _)) (pe_one (pe_cmpR op_eq (pe_callB (call_repr hg hu) (by rfl) B.repr bb_repr (pa_cons (pv 0) pa_nil)) (pe_callB (call_repr hg hu) (by rfl) B.repr bb_repr (pa_cons (pv 1) pa_nil)) (nomark _)))))), ?_⟩
  obtain ⟨e1, e2, e3, e4⟩ := sh_frW hq
  have sh := shaped_frs qs
  have lay : PyData.canLay0 (.tuple (qs.map frD)) = true := by
    unfold SeqAt.shaped at sh
    rw [Bool.and_eq_true] at sh
    exact sh.1
  have fits : (PyData.shown (.tuple (qs.map frD))).length ≤ sizeLine := by
    have e := PyData.shown_le 600 (by decide) (.tuple (qs.map frD)) e2
    have w : PyData.weight (.tuple (qs.map frD)) ≤ 27000 := Nat.le_trans e4 (Nat.le_trans (Nat.mul_le_mul_right _ hl) (by decide))
    rw [sizeLine_eq]
    omega
  have dp : PyData.depth (.tuple (qs.map frD)) ≤ 60 := by
    have h2 : PyData.depthAll (qs.map frD) ≤ 1 := by
      clear hq hl e1 e2 e3 e4 fits lay sh hx hy
      induction qs with
      | nil => exact Nat.zero_le _
      | cons q qs ih =>
        show max (PyData.depth (frD q)) (PyData.depthAll (qs.map frD)) ≤ 1
        exact Nat.max_le.mpr ⟨Nat.le_refl _, ih⟩
    show PyData.depthAll (qs.map frD) + 1 ≤ 60
    omega
  have key : ∀ Q' : VK, Q' (.bl true) H → rEqA K x y H Q' := fun Q' q => by
    refine .inl ⟨mu, _, _, hx, hy, sh, sh, ?_⟩
    rw [eqv_same lay]
    exact q
  have sho : PyData.showable (.tuple (qs.map frD)) = true := e1
  have nd : PyData.hasDict (.tuple (qs.map frD)) = false := e3
  refine ⟨_, rfl, _, rfl, key _ ?_⟩
  refine ⟨_, rfl, iteT ⟨_, rfl, ?_⟩⟩
  refine ⟨x, mu, _, rfl, hx, sho, .inl nd, dp, fits, ?_⟩
  refine ⟨_, rfl, ?_⟩
  refine ⟨y, mu, _, rfl, hy, sho, .inl nd, dp, fits, ?_⟩
  have e : decide (V.str (PyData.shown (.tuple (qs.map frD))) = V.str (PyData.shown (.tuple (qs.map frD)))) = true := decide_eq_true rfl
  first
    | (show Q (.bl (decide (V.str (PyData.shown (.tuple (qs.map frD))) = V.str (PyData.shown (.tuple (qs.map frD)))))) H; rw [e]; exact k)
    | (refine ⟨rfl, ?_⟩; rw [e]; exact k)
    | (refine ⟨rfl, rfl, ?_⟩; rw [e]; exact k)
end
end K33
namespace K33
open PySem PySem.Spec PyProof.Rows L2 Sw MC LamX
section
variable {P : Program} {w : World} {K : PySem.W.Frag} {mg : Str → Option Value} {base : Heap}
abbrev slaw : Stmt := topS 71
theorem sc_law : FnScope ["script", "bag", "turn", "curves", "amounts", "kept", "amount", "paper", "level", "thing", "said", "due", "pays", "one", "some", "near", "more", "other"] ["script"] (defScope slaw) := ⟨rfl, rfl, rfl, by decide +kernel, rfl, by decide +kernel, by decide +kernel⟩
theorem ok_law {f pt : Addr} {fd : FuncData} (F : Fun K "law" "law" slaw f fd) (B : Bt mg) (c__law_bag : CalG P w K mg base 1 "_law_bag" (spBag K)) (c__law_some_curves : CalG P w K mg base 6 "_law_some_curves" (spSCs K)) (c__law_some_amounts : CalG P w K mg base 6 "_law_some_amounts" (spAms K))
    (c__law_least_level : CalG P w K mg base 6 "_law_least_level" (spLeast K)) (c__law_paid_at : CalG P w K mg base 4 "_law_paid_at" (spPay K)) (c__law_due_paper : CalG P w K mg base 7 "_law_due_paper" (spDueP K)) (c_level_paper : CalG P w K mg base 8 "level_paper" (spLpap K pt)) (c__law_alike : CalG P w K mg base 1 "_law_alike" (spAlike K)) (c__law_alikeW : CalG P w K mg base 1 "_law_alike" (spAlikeW K))
    (c__law_near_papers : CalG P w K mg base 7 "_law_near_papers" (spNear K)) (c__law_odd : CalG P w K mg base 3 "_law_odd" (spOdd K)) (c__law_is_paper : CalG P w K mg base 6 "_law_is_paper" (spJ K)) (c_is_level_paper : CalG P w K mg base 7 "is_level_paper" (spJ K)) (c__law_bent : CalG P w K mg base 6 "_law_bent" (spBent K 2)) (c_are_paid : CalG P w K mg base 9 "are_paid" (spAP K pt))
    (c__law_is_below : CalG P w K mg base 1 "_law_is_below" (spQb K)) (c__law_lessened : CalG P w K mg base 3 "_law_lessened" (spQ2 K (· - ·))) (c_parting_of : CalG P w K mg base 9 "parting_of" (spPart K pt)) : FnG P w K mg base 10 f fd ["script"] (spLaw K pt) := by
  refine Fun.okG F sc_law (fun vs H Q E h => ?_) (fun cdv A outer s H vs Q E hg hr h => ?_)
  · obtain ⟨_, _, rfl, _⟩ := h
    rfl
  obtain ⟨a, ns, rfl, hS, hn, hT, k⟩ := h
  have hu := Room.u64 hr
  refine ⟨_, (pss_cons (ps_set (i := 1) sc_law.nd rfl (Or.inr rfl) (pc c__law_bag hg hr (by omega) (by rfl) (pa_cons (pv 0) pa_nil)))
    (pss_cons (ps_for PassesOwn.never rfl (pi_range1 (by rfl) B.range (pa_cons pe_int pa_nil)) (pg_name (i := 2) sc_law.nd rfl (Or.inl rfl))
      (pss_cons (ps_set (i := 3) sc_law.nd rfl (Or.inl rfl) (pc c__law_some_curves hg hr (by omega) (by rfl) (pa_cons (pv 1) (pa_cons pe_int pa_nil))))
      (pss_cons (ps_par (i := 4) (j := 5) rfl sc_law.nd rfl rfl (by decide) rfl rfl (pa_cons (pe_slice sl_list (pc c__law_some_amounts hg hr (by omega) (by rfl) (pa_cons (pv 1) (pa_cons (pv 3) pa_nil))) po_none (po_some pe_int)) (pa_cons (pe_callB (call_repr hg hu) (by rfl) B.repr bb_repr (pa_cons (pv 3) pa_nil)) pa_nil)) (by rfl))
      (pss_one (ps_for PassesOwn.never rfl (pi_list (pv 4)) (pg_name (i := 6) sc_law.nd rfl (Or.inl rfl))
        (pss_cons (ps_asg (pe_tup (pa_cons (pc c__law_due_paper hg hr (by omega) (by rfl) (pa_cons (pv 3) (pa_cons (pv 6) pa_nil))) (pa_cons (pc c__law_least_level hg hr (by omega) (by rfl) (pa_cons (pv 3) (pa_cons (pv 6) pa_nil))) pa_nil))) (pg_tup (n := 2) rfl (pgs_cons (pg_name (i := 7) sc_law.nd rfl (Or.inl rfl)) (pgs_cons (pg_name (i := 8) sc_law.nd rfl (Or.inr rfl)) pgs_nil))))
        (pss_cons (ps_if (pt_not (pt_val (pc c__law_alike hg hr (by omega) (by rfl) (pa_cons (pc c_level_paper hg hr (by omega) (by rfl) (pa_cons (pv 3) (pa_cons (pv 6) pa_nil))) (pa_cons (pv 7) pa_nil)))))
          (pss_one (ps_ret pe_bl))
          pss_nil)
        (pss_cons (ps_for PassesOwn.never rfl (pi_list (pe_op op_cat (pc c__law_near_papers hg hr (by omega) (by rfl) (pa_cons (pv 1) (pa_cons (pv 3) (pa_cons (pv 7) pa_nil)))) (pe_lst (pa_cons (pc c__law_odd hg hr (by omega) (by rfl) (pa_cons (pv 1) pa_nil)) pa_nil)))) (pg_name (i := 9) sc_law.nd rfl (Or.inl rfl))
          (pss_cons (ps_par (i := 10) (j := 11) rfl sc_law.nd rfl rfl (by decide) rfl rfl (pa_cons (pe_callB (call_repr hg hu) (by rfl) B.repr bb_repr (pa_cons (pv 9) pa_nil)) (pa_cons (pc c__law_is_paper hg hr (by omega) (by rfl) (pa_cons (pv 3) (pa_cons (pv 6) (pa_cons (pv 9) pa_nil)))) pa_nil)) (by rfl))
          (pss_one (ps_if (PW.pt (pw_or (pt_not (pt_val (pc c__law_alike hg hr (by omega) (by rfl) (pa_cons (pc c_is_level_paper hg hr (by omega) (by rfl) (pa_cons (pv 3) (pa_cons (pv 6) (pa_cons (pv 9) pa_nil)))) (pa_cons (pv 11) pa_nil))))) (pw_or1 (pt_cmpR op_ne (pe_callB (call_repr hg hu) (by rfl) B.repr bb_repr (pa_cons (pv 9) pa_nil)) (pv 10) (nomark _)))))
            (pss_one (ps_ret pe_bl))
            pss_nil))))
        (C8.pss_cut (ps_set (i := 12) sc_law.nd rfl (Or.inr rfl) (pe_ifExp (pt_cmpR op_isN (pv 8) pe_non (nomark _)) pe_non (pe_callTy call_tuple_of (by rfl) B.tuple bb_tuple (pa_cons (pe_lc (own := [("one", 13)]) rfl sc_law.nd (pi_list (pv 3)) (blkOk_by (own := [("one", 13)]) (N := ["script", "bag", "turn", "curves", "amounts", "kept", "amount", "paper", "level", "thing", "said", "due", "pays", "one", "some", "near", "more", "other"]) (sc := (defScope slaw)) (by decide +kernel)) (fun _ _ _ _ _ => (pg_name (i := 13) sc_law.nd rfl (Or.inl rfl))) (fun _ _ _ _ _ => pts_nil) (fun _ _ _ _ _ => (pc c__law_paid_at hg hr (by omega) (by rfl) (pa_cons (pv 13) (pa_cons (pv 8) pa_nil))))) pa_nil))))
        (C8.pss_cut (ps_set (i := 14) sc_law.nd rfl (Or.inl rfl) (pe_orT (pv 12) (pe_one (pe_tup pa_nil))))
        (pss_cons (ps_set (i := 15) sc_law.nd rfl (Or.inl rfl) (pe_lst (pa_cons (pv 12) (pa_cons (pe_callTy call_listN (by rfl) B.list bb_list (pa_cons (pv 14) pa_nil)) (pa_cons (pe_revT (pv 14)) (pa_cons (pe_slice sl_tupA (pv 14) (po_some pe_int) po_none) (pa_cons (pe_op op_catA (pe_tup (pa_cons (pv 6) pa_nil)) (pe_op op_repU (pe_tup (pa_cons (pe_tup (pa_cons pe_int (pa_cons pe_int pa_nil))) pa_nil)) (pe_callB (call_max2 rfl) (by rfl) B.max bb_max (pa_cons pe_int (pa_cons (pe_op op_sub (pe_callB call_lenA (by rfl) B.len boot_len (pa_cons (pv 3) pa_nil)) pe_int) pa_nil))))) pa_nil)))))))
        (pss_cons (ps_for PassesOwn.never rfl (pi_list (pe_op op_cat (pe_op op_cat (pv 15) (pe_lc (own := [("more", 16)]) rfl sc_law.nd (pi_range1 (by rfl) B.range (pa_cons pe_int pa_nil)) (blkOk_by (own := [("more", 16)]) (N := ["script", "bag", "turn", "curves", "amounts", "kept", "amount", "paper", "level", "thing", "said", "due", "pays", "one", "some", "near", "more", "other"]) (sc := (defScope slaw)) (by decide +kernel)) (fun _ _ _ _ _ => (pg_name (i := 16) sc_law.nd rfl (Or.inl rfl))) (fun _ _ _ _ _ => pts_nil) (fun _ _ _ _ _ => (pc c__law_bent hg hr (by omega) (by rfl) (pa_cons (pv 1) (pa_cons (pe_orTK (K := K) rfl (pv 12) (pe_one (pe_tup (pa_cons (pe_tup (pa_cons pe_int (pa_cons pe_int pa_nil))) pa_nil)))) pa_nil)))))) (pe_lst (pa_cons (pc c__law_odd hg hr (by omega) (by rfl) (pa_cons (pv 1) pa_nil)) pa_nil)))) (pg_name (i := 9) sc_law.nd rfl (Or.inl rfl))
          (C8.pss_cut (ps_set (i := 11) sc_law.nd rfl (Or.inl rfl) (pe_and (pe_cmpR op_notN (pv 12) pe_non (nomark _)) (pe_and (pe_cmpR (op_eqP hu) (pv 9) (pv 12) (nomark _)) (pe_one (pe_cmpR op_eq (pe_callB (call_repr hg hu) (by rfl) B.repr bb_repr (pa_cons (pv 9) pa_nil)) (pe_callB (call_repr hg hu) (by rfl) B.repr bb_repr (pa_cons (pv 12) pa_nil)) (nomark _))))))
          (pss_one (ps_if (pt_not (pt_val (pc c__law_alike hg hr (by omega) (by rfl) (pa_cons (pc c_are_paid hg hr (by omega) (by rfl) (pa_cons (pv 3) (pa_cons (pv 6) (pa_cons (pv 9) pa_nil)))) (pa_cons (pv 11) pa_nil)))))
            (pss_one (ps_ret pe_bl))
            pss_nil))))
        (pss_one (ps_for PassesOwn.never rfl (pi_list (pv 4)) (pg_name (i := 17) sc_law.nd rfl (Or.inl rfl))
          (pss_cons (ps_set (i := 16) sc_law.nd rfl (Or.inr rfl) (pc c__law_least_level hg hr (by omega) (by rfl) (pa_cons (pv 3) (pa_cons (pv 17) pa_nil))))
          (pss_one (ps_if (PW.pt (pw_and (pt_cmpR op_notN (pv 8) pe_non (nomark _)) (pw_and (pt_cmpR op_notN (pv 16) pe_non (nomark _)) (pw_and1 (pt_not (pt_val (pc c__law_is_below hg hr (by omega) (by rfl) (pa_cons (pv 17) (pa_cons (pv 6) pa_nil)))))))))
            (pss_cons (ps_set (i := 11) sc_law.nd rfl (Or.inl rfl) (pe_callTy call_tuple_of (by rfl) B.tuple bb_tuple (pa_cons (pe_lc (own := [("one", 13)]) rfl sc_law.nd (pi_list (pv 3)) (blkOk_by (own := [("one", 13)]) (N := ["script", "bag", "turn", "curves", "amounts", "kept", "amount", "paper", "level", "thing", "said", "due", "pays", "one", "some", "near", "more", "other"]) (sc := (defScope slaw)) (by decide +kernel)) (fun _ _ _ _ _ => (pg_name (i := 13) sc_law.nd rfl (Or.inl rfl))) (fun _ _ _ _ _ => pts_nil) (fun _ _ _ _ _ => (pc c__law_lessened hg hr (by omega) (by rfl) (pa_cons (pc c__law_paid_at hg hr (by omega) (by rfl) (pa_cons (pv 13) (pa_cons (pv 16) pa_nil))) (pa_cons (pc c__law_paid_at hg hr (by omega) (by rfl) (pa_cons (pv 13) (pa_cons (pv 8) pa_nil))) pa_nil))))) pa_nil)))
            (pss_one (ps_if (PW.pt (pw_or (pt_not (pt_val (pc c__law_alikeW hg hr (by omega) (by rfl) (pa_cons (pc c_parting_of hg hr (by omega) (by rfl) (pa_cons (pv 3) (pa_cons (pv 6) (pa_cons (pv 17) pa_nil)))) (pa_cons (pv 11) pa_nil))))) (pw_or1 (pt_cmpR op_ne (pe_callB (call_repr hg hu) (by rfl) B.repr bb_repr (pa_cons (pv 3) pa_nil)) (pv 5) (nomark _)))))
              (pss_one (ps_ret pe_bl))
              pss_nil)))
            pss_nil)))))))))))))))))
    (pss_one (ps_ret pe_bl)))), ?_⟩
  refine ⟨_, rfl, a, ns, rfl, hS, hn, fun b H1 s1 nb hb => ?_⟩
  refine ⟨3, rfl, by decide, by decide, for_it (walk_range (lo := 0) (n := 3)) (fun i σ H' => (∃ o2 o3 o4 o5 o6 o7 o8 o9 o10 o11 o12 o13 o14 o15 o16 o17, σ = [some (.ref a), some (.ref b), o2, o3, o4, o5, o6, o7, o8, o9, o10, o11, o12, o13, o14, o15, o16, o17]) ∧ BagAt H' b ∧ Tabs (tbT pt) H') ⟨⟨_, _, _, _, _, _, _, _, _, _, _, _, _, _, _, _, rfl⟩, hb, tabs_same hT s1⟩ (fun i σ H' _ h => trivial) (fun i x2 σ G0 G hi h y' => ?_) fun σ G0 h => k _⟩
  obtain ⟨⟨o2, o3, o4, o5, o6, o7, o8, o9, o10, o11, o12, o13, o14, o15, o16, o17, rfl⟩, hb0, T0⟩ := h
  obtain ⟨rfl, rfl⟩ := y'
  refine ⟨_, rfl, b, rfl, hb0, fun C H2 xs cs R2 nCb eC aC l5 lc => ?_⟩
  have T2 := tabs_rel T0 R2 hb0
  have sm := sm_of lc l5
  have fits := fit_cvs lc l5
  have okc := fits.get (by decide) (by decide)
  have xl := aC.length
  rw [List.length_map] at xl
  refine ⟨_, rfl, _, rfl, b, C, xs, cs, rfl, R2.bag, nCb, eC, aC, l5, lc, fun p H3 ys R3 npb ep hg yl => ?_⟩
  have T3 := tabs_rel T2 R3 R2.bag
  refine ⟨_, rfl, p, ys, rfl, .inl (.inl ep), fun S nS => ?_⟩
  rw [show cutV ys none (some 4) = ys.take 4 from cut_take ys 4]
  have sS := same_upd (o := .lst (ys.take 4)) nS
  have nSb : S ≠ b := not_bag R2.bag (R3.some nS)
  have ev3 : Ev K pt b C S xs (ys.take 4) cs (upd H3 S (.lst (ys.take 4))) := ⟨sS _ _ (R3.keep _ _ nCb eC), aC.fut ((fT R3 R2.bag).trans (.of_same sS)), R3.bag.same sS, tabs_same T3 sS, upd_same, fun v hv => Am.fut (hg v (List.mem_of_mem_take hv)) (.of_same sS)⟩
  generalize ys.take 4 = as at sS ev3 ⊢
  generalize upd H3 S (.lst as) = H4 at sS ev3 ⊢
  refine ⟨_, rfl, .ref C, (fun _ => False), .list (cs.map cvD), rfl, ev3.cdt, okc.show, .inl fits.nd, by have := okc.dp; omega, okc.fits, ?_⟩
  obtain ⟨kept, hkept⟩ : ∃ kept, kept = (PyData.list (cs.map cvD)).shown := ⟨_, rfl⟩
  rw [← hkept]
  refine ⟨_, _, rfl, _, rfl, S, rfl, ⟨_, .inl (.inl ev3.eS)⟩, for_it (walk_list (K := K) (xs := as) (a := S)) (fun j σ H' => ∃ x2, (∃ o6 o7 o8 o9 o10 o11 o12 o13 o14 o15 o16 o17, σ = [some (.ref a), some (.ref b), some x2, some (.ref C), some (.ref S), some (.str kept), o6, o7, o8, o9, o10, o11, o12, o13, o14, o15, o16, o17]) ∧ Ev K pt b C S xs as cs H')
    ⟨_, ⟨_, _, _, _, _, _, _, _, _, _, _, _, rfl⟩, ev3⟩ (fun j σ H' _ h => ?_) (fun j v σ G1 G2 hj h y' => ?_) fun σ G1 h => ?_⟩
  · obtain ⟨_, _, ev⟩ := h
    exact .inl (.inl ev.eS)
  · obtain ⟨x2, ⟨o6, o7, o8, o9, o10, o11, o12, o13, o14, o15, o16, o17, rfl⟩, ev⟩ := h
    obtain ⟨rfl, gv⟩ := y'
    obtain ⟨A, hA, A0, bA⟩ := ev.am v (List.mem_of_getElem? gv)
    have bA6 : Rb 600 600 A := bA.mono (by decide) (by decide)
    have hbl : ∀ l, Lst (sumE cs) A (some l) → Rb 830 724 l := fun l hl => lst_rb lc l5 bA hl
    refine ⟨_, rfl, _, rfl, C, xs, cs, v, A, rfl, .inl (.inl ev.eC), ev.aC, sm, hA, bA6, A0, fun l hl => ⟨(hbl l hl).mono (by decide) (by decide), fun c hc => (ev_lev (lc c hc) hl.1 (hbl l hl)).mono (by decide) (by decide)⟩, fun v7 G3 o s3 hL h7 => ?_⟩
    refine ⟨_, rfl, _, rfl, C, xs, cs, v, A, rfl, .inl (.inl (s3 _ _ ev.eC)), ev.aC.fut (.of_same s3), sm, hA.same s3, bA6, A0, fun o' v8 G4 s4 hL' h8 => ⟨sz8 (by simp), fun T nT => ?_⟩⟩
    obtain rfl := hL'.uniq hL
    have bnd : ∀ l, o' = some l → Rb 830 724 l := fun l e => hbl l (by rw [← e]; exact hL)
    have sT := same_upd (o := .tup [v7, v8]) nT
    have uT := upd_same (H := G4) (a := T) (o := .tup [v7, v8])
    generalize upd G4 T (.tup [v7, v8]) = G5 at sT uT ⊢
    have ev5 := ev.same ((s3.trans s4).trans sT)
    have hA5 := hA.same ((s3.trans s4).trans sT)
    have h75 := h7.fut (.of_same (s4.trans sT))
    have h85 : OQ K G5 v8 o' := h8.fut (.of_same sT)
    refine ⟨T, _, rfl, .of uT, rfl, _, _, rfl, _, _, rfl, rfl, ?_⟩
    have fpp := fit_pp l5 bnd
    refine ⟨_, rfl, _, rfl, C, xs, cs, v, A, rfl, .inl (.inl ev5.eC), ev5.aC, sm, hA5, bA6, A0, ev5.tb, fun l hl => (hbl l hl).mono (by decide) (by decide), fun v3 G6 o3 x6 T6 hL3 h3 => ?_⟩
    obtain rfl := hL3.uniq hL
    have ev6 := ev5.exN x6 T6
    have hA6 := hA5.fut (exN_fut x6)
    have h76 := h75.fut (exN_fut x6)
    have h86 : OQ K G6 v8 o3 := h85.fut (exN_fut x6)
    refine ⟨_, rfl, v3, v7, mT, ppD cs o3, rfl, h3, h76, fpp.get (by decide) (by decide), .inl fpp.nd, ⟨true, rfl, iteF ?_⟩⟩
    refine ⟨_, rfl, _, rfl, _, rfl, b, C, xs, v7, cs, o3, rfl, ev6.bg, nCb, ev6.eC, xl, l5, lc, h76, bnd, fun p1 G7 ys1 R7 npb1 ep1 th1 yl1 => ?_⟩
    refine ⟨_, rfl, b, mS b, rfl, .inl rfl, R7.bag, MuOk.bag R7.bag, fun vo G8 d om R8 dto => ⟨sz8 (by simp), fun M nM => ?_⟩⟩
    have ep8 := R8.keep _ _ npb1 ep1
    have sM := same_upd (o := .lst [vo]) nM
    have uM := upd_same (H := G8) (a := M) (o := .lst [vo])
    generalize upd G8 M (.lst [vo]) = G9 at sM uM ⊢
    refine ⟨p1, M, ys1, [vo], rfl, rfl, sM _ _ ep8, uM, by have := sizeLine_eq; show ys1.length + 1 ≤ sizeLine; omega, fun L nL => ?_⟩
    have sL := same_upd (o := .lst (ys1 ++ [vo])) nL
    have uL := upd_same (H := G9) (a := L) (o := .lst (ys1 ++ [vo]))
    have th : ∀ u ∈ ys1 ++ [vo], Th K b (upd G9 L (.lst (ys1 ++ [vo]))) u := fun u hu => by
      rcases List.mem_append.mp hu with hu | hu
      · obtain ⟨d, h1, h2⟩ := th1 u hu
        exact ⟨d, (h1.fut (R8.fut (.inl rfl) R7.bag)).fut (.of_same (sM.trans sL)), h2⟩
      · rw [List.mem_singleton.mp hu]
        exact ⟨d, dto.fut (.of_same (sM.trans sL)), ⟨om.1, Nat.le_trans om.2.1 (by decide), Nat.le_trans om.2.2.1 (by decide)⟩⟩
    generalize ys1 ++ [vo] = zs at sL uL th ⊢
    generalize upd G9 L (.lst zs) = G10 at sL uL th ⊢
    have R610 := (R7.trans R8).same (sM.trans sL)
    have ev10 := ev6.rel nCb nSb R610
    have f610 := fT R610 ev6.bg
    have hA10 := hA6.fut f610
    have h710 := h76.fut f610
    have h810 : OQ K G10 v8 o3 := h86.fut f610
    refine ⟨L, rfl, ⟨_, .inl (.inl uL)⟩, for_it (walk_list (K := K) (xs := zs) (a := L)) (fun j σ H' => (∃ o9 o10 o11 o12 o13 o14 o15 o16 o17, σ = [some (.ref a), some (.ref b), some x2, some (.ref C), some (.ref S), some (.str kept), some v, some v7, some v8, o9, o10, o11, o12, o13, o14, o15, o16, o17]) ∧ Same G10 H') ⟨⟨_, _, _, _, _, _, _, _, _, rfl⟩, .refl _⟩ (fun j σ H' _ h => .inl (.inl (h.2 _ _ uL))) (fun j u σ J1 J2 hj h y' => ?_) fun σ J1 h => ?_⟩
    · obtain ⟨⟨o9, o10, o11, o12, o13, o14, o15, o16, o17, rfl⟩, s⟩ := h
      obtain ⟨rfl, gu⟩ := y'
      obtain ⟨d, hd, od⟩ := th u (List.mem_of_getElem? gu)
      have hd := hd.fut (.of_same s)
      have ev1 := ev10.same s
      have hA1 := hA10.same s
      refine ⟨_, rfl, u, mS b, d, rfl, hd, od.show, .inr (.inr rfl), by have := od.dp; omega, od.fits, ?_⟩
      refine ⟨_, rfl, _, rfl, _, rfl, C, xs, cs, v, u, A, mS b, d, rfl, .inl (.inl ev1.eC), ev1.aC, l5, lc, hA1, hd, od, fun J3 s3 => ?_⟩
      refine ⟨_, _, rfl, ?_⟩
      have ev2 := ev1.same s3
      have hd3 := hd.fut (.of_same s3)
      refine ⟨_, rfl, _, rfl, _, rfl, C, xs, cs, v, u, A, mS b, d, rfl, .inl (.inl ev2.eC), ev2.aC, l5, lc, hA1.same s3, hd3, od, fun J4 s4 => ?_⟩
      refine ⟨_, rfl, _, _, mT, .bool (jP cs A d), rfl, .bl _, .bl _, ⟨rfl, Nat.zero_le _, by cases (jP cs A d) <;> decide⟩, .inl rfl, ⟨true, rfl, iteF ?_⟩⟩
      have hd4 := hd3.fut (.of_same s4)
      refine ⟨_, rfl, u, mS b, d, rfl, hd4, od.show, .inr (.inr rfl), by have := od.dp; omega, od.fits, ?_⟩
      refine ⟨_, rfl, rfl, _, rfl, ?_⟩
      rw [show (!decide (V.str d.shown = V.str d.shown)) = false by rw [decide_eq_true rfl]; rfl]
      exact iteF ⟨⟨_, _, _, _, _, _, _, _, _, rfl⟩, (s.trans s3).trans s4⟩
    obtain ⟨⟨o9, o10, o11, o12, o13, o14, o15, o16, o17, rfl⟩, s10⟩ := h
    have ev11 := ev10.same s10
    have hA11 := hA10.same s10
    have h811 : OQ K J1 v8 o3 := h810.fut (.of_same s10)
    clear s10
    refine ⟨fun σ H' => ∃ vp, (∃ o9 o10 o11 o13 o14 o15 o16 o17, σ = [some (.ref a), some (.ref b), some x2, some (.ref C), some (.ref S), some (.str kept), some v, some v7, some v8, o9, o10, o11, some vp, o13, o14, o15, o16, o17]) ∧ Same J1 H' ∧ Dt K mT H' vp (pyD cs o3), ?_, ?_⟩
    · cases o3 with
      | none =>
        have hv : v8 = .non := h811
        subst hv
        refine ⟨_, rfl, rfl, _, rfl, iteP (fun _ => ?_) fun w => absurd rfl w⟩
        exact ⟨_, ⟨_, _, _, _, _, _, _, _, rfl⟩, .refl _, .non⟩
      | some q =>
        have hv : Ql K J1 v8 q := h811
        obtain ⟨t, rfl, ht⟩ := id hv
        have bq := bnd q rfl
        refine ⟨_, rfl, rfl, _, rfl, iteP (fun w => V.noConfusion w) fun w => ?_⟩
        refine ⟨_, rfl, C, rfl, ⟨xs, .inl (.inl ev11.eC)⟩, fun D nD => ?_⟩
        refine lc_it (walk_list (K := K) (a := C) (xs := xs)) (fun i H' => Same J1 H' ∧ ∃ us, H' D = some (.lst us) ∧ DtA K mT H' us (((cs.take i).map fun c => c.ev q).map frD)) ⟨same_upd nD, [], upd_same, .nil⟩ (fun i H' _ h => .inl (.inl (h.1 _ _ ev11.eC))) ?_ ?_
        · rintro i x1 K1 K2 hi ⟨t1, us, e1, a1⟩ ⟨rfl, gx⟩
          obtain ⟨c, hc⟩ : ∃ c, cs[i]? = some c := ⟨_, List.getElem?_eq_getElem (by omega)⟩
          have mc := List.mem_of_getElem? hc
          obtain ⟨v', w1, dv⟩ := ev11.aC.getD (i := i) (d := cvD c) (by rw [List.getElem?_map, hc]; rfl)
          rw [gx] at w1
          cases w1
          have l1 := a1.length
          rw [List.length_map, List.length_map, List.length_take] at l1
          refine ⟨rfl, _, rfl, _, rfl, x1, _, c, q, rfl, dt_same dv t1, hv.same t1, sm.ok c mc, (sm.cb c mc).mono (by decide) (by decide), bq.mono (by decide) (by decide), hL.1, Nat.le_trans (sm.n c mc) (by decide), fun v3 K3 t3 h3 => ?_⟩
          have e3 := t3 _ _ e1
          refine ⟨us, e3, small1000 (by omega), same_at (t1.trans t3) nD, us ++ [v3], upd_same, ?_⟩
          rw [take_snoc hc, List.map_append]
          exact dtA_at ((a1.fut (.of_same t3)).append (.cons h3.dt .nil)) e3
        · rintro K1 ⟨t1, us, e1, a1⟩
          rw [List.take_of_length_le (by omega)] at a1
          refine ⟨D, us, rfl, .inl ⟨.inl (.inl e1), fun T nT => ?_⟩⟩
          have sT := same_upd (o := .tup us) nT
          exact ⟨_, ⟨_, _, _, _, _, _, _, _, rfl⟩, t1.trans sT, .tup (.inl upd_same) (a1.fut (.of_same sT))⟩
    rintro σ H12 ⟨vp, ⟨o9, o10, o11, o13, o14, o15, o16, o17, rfl⟩, s12, hp⟩
    have ev12 := ev11.same s12
    have hA12 := hA11.same s12
    have h812 : OQ K H12 v8 o3 := h811.fut (.of_same s12)
    clear s12
    have rbq : ∀ q ∈ qsO cs o3, Rb 937 829 q := fun q hq => by
      cases o3 with
      | none => cases hq
      | some l =>
        obtain ⟨c, hc, rfl⟩ := List.mem_map.mp hq
        exact ev_lev (lc c hc) hL.1 (bnd l rfl)
    have lq : (qsO cs o3).length ≤ 5 := by
      cases o3 with
      | none => exact Nat.zero_le _
      | some l =>
        show (cs.map _).length ≤ 5
        rw [List.length_map]
        exact l5
    have okp := (fit_py l5 rbq).get (by decide) (by decide)
    have ndp := (fit_py l5 rbq).nd
    refine ⟨fun σ H' => ∃ ts us, (∃ o9 o10 o11 o13 o15 o16 o17, σ = [some (.ref a), some (.ref b), some x2, some (.ref C), some (.ref S), some (.str kept), some v, some v7, some v8, o9, o10, o11, some vp, o13, some (.ref ts), o15, o16, o17]) ∧ Same H12 H' ∧ SqT K H' ts us ∧ DtA K mT H' us ((qsO cs o3).map frD), ?_, ?_⟩
    · refine ⟨_, rfl, or_pays hp (fun ts us e1 hs hd => ?_) (fun e1 => ⟨sz8 (by simp), fun Z nZ => ?_⟩)⟩
      · subst e1
        exact ⟨ts, us, ⟨_, _, _, _, _, _, _, rfl⟩, .refl _, hs, hd⟩
      · have sZ := same_upd (o := .tup []) nZ
        refine ⟨Z, [], ⟨_, _, _, _, _, _, _, rfl⟩, sZ, .of upd_same, ?_⟩
        rw [e1]
        exact .nil
    rintro σ H13 ⟨ts, us, ⟨o9, o10, o11, o13, o15, o16, o17, rfl⟩, s13, hts, hus⟩
    have ev13 := ev12.same s13
    have hA13 := hA12.same s13
    have h813 : OQ K H13 v8 o3 := h812.fut (.of_same s13)
    have hp13 := hp.fut (.of_same s13)
    clear s13
    have up : ∀ {H' : Hp} {v : V} {d : PyData} {mu : Addr → Prop}, Dt K mT H' v d → Dt K mu H' v d := fun h => h.less fun _ _ => trivial
    have upA : ∀ {H' : Hp} {v : List V} {d : List PyData} {mu : Addr → Prop}, DtA K mT H' v d → DtA K mu H' v d := fun h => h.less fun _ _ => trivial
    have okr : ∀ {qs : List Rat}, qs.length ≤ 6 → (∀ q ∈ qs, Rb 937 829 q) → Ok (.tuple (qs.map frD)) ∧ Ok (.list (qs.map frD)) := fun hl h => ⟨(fit_row hl h).1.get (by decide) (by decide), (fit_row hl h).2.get (by decide) (by decide)⟩
    have hmb : mS b b := .inl rfl
    refine gnL_use (K := K) (b := b) (mu := mS b) (H := H13) (D := Ok) (n := 5)
      (gnA_cons hmb ((ge_var hmb ev13.bg rfl (up hp13)).gn okp)
      (gnA_cons hmb (Gs.gnL hmb ev13.bg (gs_var ev13.bg rfl hts) (upA hus) (okr (by omega) rbq).2)
      (gnA_cons hmb (Gs.gn hmb ev13.bg (gs_rev (gs_var ev13.bg rfl hts)) (ds := ((qsO cs o3).reverse).map frD) (by rw [List.map_reverse]; exact dtA_rev (upA hus)) (okr (by rw [List.length_reverse]; omega) fun q hq => rbq q (List.mem_reverse.mp hq)).1)
      (gnA_cons hmb (Gs.gn hmb ev13.bg (gs_sl (gs_var ev13.bg rfl hts) (fun H Q q => ⟨_, rfl, q⟩) (fun H Q q => nopart q)) (ds := ((qsO cs o3).drop 1).map frD) (by rw [List.map_drop, show cutV us (some 1) none = us.drop 1 from cutV_from us 1]; exact (upA hus).drop 1) (okr (by rw [List.length_drop]; omega) fun q hq => rbq q (List.mem_of_mem_drop hq)).1)
      (gnA_cons hmb (fun H r m Q q => ?gf) gnA_nil))))) ev13.bg (MuOk.bag ev13.bg) (by decide) fun N H14 ws ds hl5 hds R14 e14 eN nNb => ?_
    case gf =>
      have hv6 : Ql K H v A := hA13.fut (fT r ev13.bg)
      have eC6 := r.keep _ _ nCb ev13.eC
      refine ⟨_, rfl, sz8 (by simp), fun T1 n1 => ⟨sz8 (by simp), fun Z nZ => ⟨sz8 (by simp), fun T2 n2 => ?_⟩⟩⟩
      have t1 := same_upd (o := .tup [v]) n1
      have u1 := upd_same (H := H) (a := T1) (o := .tup [v])
      generalize upd H T1 (.tup [v]) = K1 at t1 u1 nZ n2 ⊢
      have t2 := same_upd (o := .tup [V.int 0, V.int 1]) nZ
      have u2 := upd_same (H := K1) (a := Z) (o := .tup [V.int 0, V.int 1])
      generalize upd K1 Z (.tup [V.int 0, V.int 1]) = K2 at t2 u2 n2 ⊢
      have t3 := same_upd (o := .tup [V.ref Z]) n2
      have u3 := upd_same (H := K2) (a := T2) (o := .tup [V.ref Z])
      generalize upd K2 T2 (.tup [V.ref Z]) = K3 at t3 u3 ⊢
      have t13 := (t1.trans t2).trans t3
      refine ⟨_, rfl, _, xs.length, rfl, .inl ⟨xs, .inl (.inl (t13 _ _ eC6)), rfl⟩, _, _, rfl, rfl, _, _, rfl, ?_⟩
      obtain ⟨n, hn, hn5⟩ : ∃ n : Nat, (if ((xs.length : Nat) : Int) - 1 > 0 then ((xs.length : Nat) : Int) - 1 else 0) = (n : Int) ∧ n ≤ 5 := ⟨xs.length - 1, by split <;> omega, by omega⟩
      rw [hn]
      refine ⟨T2, _, [.ref Z], rfl, rfl, .of u3, by simp, by omega, by omega, by simp, fun p K4 t4 hp4 => ?_⟩
      rw [Int.toNat_natCast, List.flatten_replicate_singleton] at hp4
      refine cat_use (t4.seqT (.of ((t2.trans t3) _ _ u1))) hp4 (by have := sizeLine_eq; rw [List.length_replicate]; show 1 + n ≤ sizeLine; omega) fun p3 K5 t5 hp5 => ?_
      have t15 := (t13.trans t4).trans t5
      refine q _ _ (.tuple ((A :: List.replicate n (0 : Rat)).map frD)) (okr (by show (List.replicate n (0:Rat)).length + 1 ≤ 6; rw [List.length_replicate]; omega) fun q hq => ?_).1 (Rel.of_same r.bag t15) (dt_tupS hp5 (.cons (hv6.same t15).dt (dtA_repl n ?_)))
      · rcases List.mem_cons.mp hq with rfl | hq
        · exact bA.mono (by decide) (by decide)
        · rw [(List.mem_replicate.mp hq).2]
          exact rb_zero.mono (by decide) (by decide)
      · have : Ql K K5 (.ref Z) 0 := ⟨Z, rfl, .inl (.inl (((t3.trans t4).trans t5) _ _ u2))⟩
        exact this.dt
    have ev14 := ev13.rel nCb nSb R14
    have f14 := fT R14 ev13.bg
    have hA14 := hA13.fut f14
    have h814 : OQ K H14 v8 o3 := h813.fut f14
    have hp14 := hp13.fut f14
    have wl : ws.length = 5 := by rw [e14.length, hl5]
    refine ⟨_, rfl, 4, rfl, by decide, by decide, fun D nD => ?_⟩
    have Db : D ≠ b := not_bag ev14.bg nD
    have hm3 : (fun a => mS b a ∨ a = D) b := .inl (.inl rfl)
    refine lc_it (walk_range (lo := 0) (n := 4)) (fun i G => Rel b H14 G ∧ ∃ us, G D = some (.lst us) ∧ us.length = i ∧ ∀ u ∈ us, ThM K (fun a => mS b a ∨ a = D) G u) ⟨Rel.at (.refl ev14.bg) ev14.bg nD, [], upd_same, rfl, fun u h => nomatch h⟩ (fun _ _ _ _ => trivial) ?_ ?_
    · rintro i x K1 K2 hi ⟨R, us, e, ul, g⟩ ⟨rfl, rfl⟩
      have evK := ev14.rel nCb nSb R
      have hpK := hp14.fut (fT R ev14.bg)
      have mK : MuOk (fun a => mS b a ∨ a = D) K2 := fun a z => by
        rcases z with z | rfl
        · exact MuOk.bag R.bag a z
        · exact .inl (by rw [e]; exact fun z => nomatch z)
      have stp : ∀ (rs : List Rat) (hl : rs.length ≤ 6) (hr : ∀ q ∈ rs, Rb 937 829 q) (v'' : V) (K4 : Hp) (d' : PyData), Bo 2 (PyData.weight (.tuple (rs.map frD))) d' → Rel b K2 K4 → Dt K (fun a => mS b a ∨ a = D) K4 v'' d' → ∃ acc, K4 D = some (.lst acc) ∧ acc.length < sizeLine ∧ Rel b H14 (upd K4 D (.lst (acc ++ [v'']))) ∧ ∃ us, upd K4 D (.lst (acc ++ [v''])) D = some (.lst us) ∧ us.length = i + 1 ∧ ∀ u ∈ us, ThM K (fun a => mS b a ∨ a = D) (upd K4 D (.lst (acc ++ [v'']))) u := fun rs hl hr v'' K4 d' ho R4 hd => by
        have e' := R4.keep _ _ Db e
        have fD := fut_mu (u := .lst (us ++ [v''])) (mu := fun a => mS b a ∨ a = D) (.inr rfl) e'
        refine ⟨us, e', small1000 (by omega), (R.trans R4).at ev14.bg nD, us ++ [v''], upd_same, by rw [List.length_append, ul]; rfl, fun u hu => ?_⟩
        rcases List.mem_append.mp hu with hu | hu
        · obtain ⟨d, h1, h2⟩ := g u hu
          exact ⟨d, (h1.fut (R4.fut hm3 R.bag)).fut fD, h2⟩
        · rw [List.mem_singleton.mp hu]
          have := (fit_row hl hr).1.wt
          exact ⟨d', hd.fut fD, ⟨ho.1, Nat.le_trans ho.2.1 (by decide), Nat.le_trans ho.2.2 (by omega)⟩⟩
      refine ⟨rfl, _, rfl, _, rfl, or_pays hpK (fun ts us e1 hs hd => ?_) (fun e1 => ⟨sz8 (by simp), fun Z nZ => ⟨sz8 (by simp), fun T nT => ?_⟩⟩)⟩
      · exact ⟨b, (fun a => mS b a ∨ a = D), vp, _, rfl, hm3, R.bag, mK, by rw [e1]; exact up (dt_tupS hs hd), bi_frs (by omega) rbq, fun v'' K4 d' ho R4 hd => stp _ (by omega) rbq v'' K4 d' ho R4 hd⟩
      · have t2 := same_upd (o := .tup [V.int 0, V.int 1]) nZ
        have u2 := upd_same (H := K2) (a := Z) (o := .tup [V.int 0, V.int 1])
        generalize upd K2 Z (.tup [V.int 0, V.int 1]) = K3 at t2 u2 nT ⊢
        have t3 := same_upd (o := .tup [V.ref Z]) nT
        have u3 := upd_same (H := K3) (a := T) (o := .tup [V.ref Z])
        generalize upd K3 T (.tup [V.ref Z]) = K4 at t3 u3 ⊢
        have qz : Ql K K4 (.ref Z) 0 := ⟨Z, rfl, .inl (.inl (t3 _ _ u2))⟩
        have r0 : ∀ q ∈ [(0 : Rat)], Rb 937 829 q := fun q hq => by
          rw [List.mem_singleton.mp hq]
          exact rb_zero.mono (by decide) (by decide)
        exact ⟨b, (fun a => mS b a ∨ a = D), .ref T, .tuple ([(0 : Rat)].map frD), rfl, hm3, R.bag.same (t2.trans t3), mK.same (t2.trans t3), .tup (.inl u3) (.cons qz.dt .nil), bi_frs (by decide) r0, fun v'' K4 d' ho R4 hd => stp _ (by decide) r0 v'' K4 d' ho ((Rel.of_same R.bag (t2.trans t3)).trans R4) hd⟩
    rintro K1 ⟨R, us2, e, ul, g⟩
    have eN1 := R.keep _ _ nNb eN
    refine ⟨N, D, ws, us2, rfl, rfl, eN1, e, by have := sizeLine_eq; omega, fun L2 nL2 => ?_⟩
    have sL2 := same_upd (o := .lst (ws ++ us2)) nL2
    have uL2 := upd_same (H := K1) (a := L2) (o := .lst (ws ++ us2))
    have R16 : Rel b H14 (upd K1 L2 (.lst (ws ++ us2))) := R.same sL2
    have th2 : ∀ u ∈ ws ++ us2, Th K b (upd K1 L2 (.lst (ws ++ us2))) u := fun u hu => by
      rcases List.mem_append.mp hu with hu | hu
      · obtain ⟨i, hi⟩ := List.getElem?_of_mem hu
        obtain ⟨d, h1, h2⟩ := e14.get hi
        exact ⟨d, h2.fut (R16.fut hmb ev14.bg), hds _ (List.mem_of_getElem? h1)⟩
      · obtain ⟨d, h1, h2⟩ := g u hu
        exact ⟨d, (h1.fut (.of_same sL2)).less fun a z => .inl z, h2⟩
    have len2 : (ws ++ us2).length ≤ 9 := by rw [List.length_append]; omega
    generalize ws ++ us2 = ws2 at sL2 uL2 R16 th2 len2 ⊢
    generalize upd K1 L2 (.lst ws2) = H16 at sL2 uL2 R16 th2 ⊢
    have ev16 := ev14.rel nCb nSb R16
    refine ⟨_, rfl, b, mS b, rfl, .inl rfl, ev16.bg, MuOk.bag ev16.bg, fun vo2 H17 d om R17 dto => ⟨sz8 (by simp), fun M2 nM2 => ?_⟩⟩
    have nL2b : L2 ≠ b := not_bag ev14.bg (R.some nL2)
    have eL17 := R17.keep _ _ nL2b uL2
    have sM2 := same_upd (o := .lst [vo2]) nM2
    have uM2 := upd_same (H := H17) (a := M2) (o := .lst [vo2])
    generalize upd H17 M2 (.lst [vo2]) = H18 at sM2 uM2 ⊢
    refine ⟨L2, M2, ws2, [vo2], rfl, rfl, sM2 _ _ eL17, uM2, by have := sizeLine_eq; show ws2.length + 1 ≤ sizeLine; omega, fun L3 nL3 => ?_⟩
    have sL3 := same_upd (o := .lst (ws2 ++ [vo2])) nL3
    have uL3 := upd_same (H := H18) (a := L3) (o := .lst (ws2 ++ [vo2]))
    have th3 : ∀ u ∈ ws2 ++ [vo2], Th K b (upd H18 L3 (.lst (ws2 ++ [vo2]))) u := fun u hu => by
      rcases List.mem_append.mp hu with hu | hu
      · obtain ⟨d, h1, h2⟩ := th2 u hu
        exact ⟨d, (h1.fut (R17.fut hmb ev16.bg)).fut (.of_same (sM2.trans sL3)), h2⟩
      · rw [List.mem_singleton.mp hu]
        exact ⟨d, dto.fut (.of_same (sM2.trans sL3)), ⟨om.1, Nat.le_trans om.2.1 (by decide), Nat.le_trans om.2.2.1 (by decide)⟩⟩
    generalize ws2 ++ [vo2] = ws3 at sL3 uL3 th3 ⊢
    generalize upd H18 L3 (.lst ws3) = H19 at sL3 uL3 th3 ⊢
    have R1419 := (R16.trans R17).same (sM2.trans sL3)
    have ev19 := ev14.rel nCb nSb R1419
    have f19 := fT R1419 ev14.bg
    have hA19 := hA14.fut f19
    have h819 : OQ K H19 v8 o3 := h814.fut f19
    have hp19 := hp14.fut f19
    refine ⟨L3, rfl, ⟨_, .inl (.inl uL3)⟩, for_it (walk_list (K := K) (xs := ws3) (a := L3)) (fun j σ H' => (∃ o9 o10 o11 o13 o16 o17, σ = [some (.ref a), some (.ref b), some x2, some (.ref C), some (.ref S), some (.str kept), some v, some v7, some v8, o9, o10, o11, some vp, o13, some (.ref ts), some (.ref N), o16, o17]) ∧ ExtN H19 H' ∧ Tabs (tbT pt) H') ⟨⟨_, _, _, _, _, _, rfl⟩, fun _ _ e _ => e, ev19.tb⟩ (fun j σ H' _ h => .inl (.inl (exN_list uL3 h.2.1))) (fun j u σ J1 J2 hj h y' => ?_) fun σ J1 h => ?_⟩
    · obtain ⟨⟨o9, o10, o11, o13, o16, o17, rfl⟩, x19, T1⟩ := h
      obtain ⟨rfl, gu⟩ := y'
      obtain ⟨d, hd, od⟩ := th3 u (List.mem_of_getElem? gu)
      have hd := Dt.exN x19 hd
      have ev1 := ev19.exN x19 T1
      have hA1 := hA19.fut (exN_fut x19)
      have hp1 := hp19.fut (exN_fut x19)
      refine ⟨fun σ H' => (∃ o10 o13 o16 o17, σ = [some (.ref a), some (.ref b), some x2, some (.ref C), some (.ref S), some (.str kept), some v, some v7, some v8, some u, o10, some (.bl (jA cs o3 d)), some vp, o13, some (.ref ts), some (.ref N), o16, o17]) ∧ H' = J2, ?_, ?_⟩
      · cases o3 with
        | none =>
          have e0 : jA cs none d = false := by
            cases d <;> first | rfl | exact Bool.and_false _
          have hv : vp = .non := by
            cases hp1
            rfl
          subst hv
          refine ⟨_, rfl, rfl, _, rfl, ?_⟩
          rw [show (!decide (V.non = V.non)) = false by rw [decide_eq_true rfl]; rfl]
          refine iteF ?_
          rw [e0]
          exact ⟨⟨_, _, _, _, rfl⟩, rfl⟩
        | some l =>
          obtain ⟨tp, us, e1, hs, hus1⟩ := Dt.tupAt hp1
          have hne : ¬ vp = V.non := by rw [e1]; exact fun z => nomatch z
          refine ⟨_, rfl, rfl, _, rfl, ?_⟩
          rw [show (!decide (vp = V.non)) = true by rw [decide_eq_false hne]; rfl]
          refine iteT ?_
          refine ⟨_, rfl, _, rfl, mS b, mT, d, _, hd, hp1, (pl_frs _).1, (pl_frs _).2, _, rfl, iteB (fun hq => ?_) fun hq => ?_⟩
          · refine ⟨_, rfl, u, mS b, d, rfl, hd, od.show, .inr (.inr rfl), by have := od.dp; omega, od.fits, ?_⟩
            refine ⟨_, rfl, vp, mT, pyD cs (some l), rfl, hp1, okp.show, .inl ndp, by have := okp.dp; omega, okp.fits, ?_⟩
            refine ⟨rfl, ?_⟩
            rw [← jA_eq (decide (V.str d.shown = V.str (pyD cs (some l)).shown)) (fun _ => by rw [Bool.eq_iff_iff]; simp) (fun z => by rw [show PyData.eqv d (pyD cs (some l)) = true from hq] at z; cases z)]
            exact ⟨⟨_, _, _, _, rfl⟩, rfl⟩
          · rw [← jA_eq false (fun z => by rw [show PyData.eqv d (pyD cs (some l)) = false from hq] at z; cases z) (fun _ => rfl)]
            exact ⟨⟨_, _, _, _, rfl⟩, rfl⟩
      rintro σ H' ⟨⟨o10, o13, o16, o17, rfl⟩, rfl⟩
      refine ⟨_, rfl, _, rfl, _, rfl, C, xs, cs, v, u, A, mS b, d, o3, rfl, .inl (.inl ev1.eC), ev1.aC, l5, lc, hA1, A0, bA, hL, hd, od, T1, fun J4 x4 T4 => ?_⟩
      refine ⟨_, rfl, _, _, mT, .bool (jA cs o3 d), rfl, .bl _, .bl _, ⟨rfl, Nat.zero_le _, by cases (jA cs o3 d) <;> decide⟩, .inl rfl, ⟨true, rfl, iteF ?_⟩⟩
      exact ⟨⟨_, _, _, _, _, _, rfl⟩, x19.trans x4, T4⟩
    obtain ⟨⟨o9, o10, o11, o13, o16, o17, rfl⟩, x19, T1⟩ := h
    have ev20 := ev19.exN x19 T1
    have hA20 := hA19.fut (exN_fut x19)
    have h820 : OQ K J1 v8 o3 := h819.fut (exN_fut x19)
    clear x19 T1
    refine ⟨_, rfl, S, rfl, ⟨_, .inl (.inl ev20.eS)⟩, for_it (walk_list (K := K) (xs := as) (a := S)) (fun j σ H' => (∃ o9 o10 o11 o13 o16 o17, σ = [some (.ref a), some (.ref b), some x2, some (.ref C), some (.ref S), some (.str kept), some v, some v7, some v8, o9, o10, o11, some vp, o13, some (.ref ts), some (.ref N), o16, o17]) ∧ ExtN J1 H' ∧ Tabs (tbT pt) H') ⟨⟨_, _, _, _, _, _, rfl⟩, fun _ _ e _ => e, ev20.tb⟩ (fun j σ H' _ h => .inl (.inl (exN_list ev20.eS h.2.1))) (fun j v2 σ J3 J4 hj h y' => ?_) fun σ J3 h => ?_⟩
    · obtain ⟨⟨o9, o10, o11, o13, o16, o17, rfl⟩, x1, T1⟩ := h
      obtain ⟨rfl, gv2⟩ := y'
      have ev1 := ev20.exN x1 T1
      have hA1 := hA20.fut (exN_fut x1)
      have h81 : OQ K J4 v8 o3 := h820.fut (exN_fut x1)
      obtain ⟨A2, hA2, A20, bA2⟩ := ev1.am v2 (List.mem_of_getElem? gv2)
      have bA26 : Rb 600 600 A2 := bA2.mono (by decide) (by decide)
      have hbl2 : ∀ l, Lst (sumE cs) A2 (some l) → Rb 830 724 l := fun l hl => lst_rb lc l5 bA2 hl
      have done : ∀ {σ : List (Option V)} {H' : Hp}, (∃ o9 o10 o11 o13 o16 o17, σ = [some (.ref a), some (.ref b), some x2, some (.ref C), some (.ref S), some (.str kept), some v, some v7, some v8, o9, o10, o11, some vp, o13, some (.ref ts), some (.ref N), o16, o17]) → ExtN J4 H' → Tabs (tbT pt) H' → (∃ o9 o10 o11 o13 o16 o17, σ = [some (.ref a), some (.ref b), some x2, some (.ref C), some (.ref S), some (.str kept), some v, some v7, some v8, o9, o10, o11, some vp, o13, some (.ref ts), some (.ref N), o16, o17]) ∧ ExtN J1 H' ∧ Tabs (tbT pt) H' := fun h x t => ⟨h, x1.trans x, t⟩
      refine ⟨_, rfl, _, rfl, C, xs, cs, v2, A2, rfl, .inl (.inl ev1.eC), ev1.aC, sm, hA2, bA26, A20, fun o2 v16 J5 s5 hL2 h16 => ?_⟩
      have ev2 := ev1.same s5
      cases o3 with
      | none =>
        have hv : v8 = .non := h81
        subst hv
        refine ⟨_, rfl, rfl, _, rfl, ?_⟩
        rw [show (!decide (V.non = V.non)) = false by rw [decide_eq_true rfl]; rfl]
        refine iteF ?_
        exact done ⟨_, _, _, _, _, _, rfl⟩ (exN_same s5) ev2.tb
      | some l =>
        have hq : Ql K J4 v8 l := h81
        have hne : ¬ v8 = V.non := by obtain ⟨t, rfl, _⟩ := id hq; exact fun z => nomatch z
        refine ⟨_, rfl, rfl, _, rfl, ?_⟩
        rw [show (!decide (v8 = V.non)) = true by rw [decide_eq_false hne]; rfl]
        refine iteT ?_
        cases o2 with
        | none =>
          have hv : v16 = .non := h16
          subst hv
          refine ⟨_, rfl, rfl, _, rfl, ?_⟩
          rw [show (!decide (V.non = V.non)) = false by rw [decide_eq_true rfl]; rfl]
          refine iteF ?_
          exact done ⟨_, _, _, _, _, _, rfl⟩ (exN_same s5) ev2.tb
        | some l' =>
          have hq' : Ql K J5 v16 l' := h16
          have hne' : ¬ v16 = V.non := by obtain ⟨t, rfl, _⟩ := id hq'; exact fun z => nomatch z
          have bq := bnd l rfl
          have bq' := hbl2 l' hL2
          refine ⟨_, rfl, rfl, _, rfl, ?_⟩
          rw [show (!decide (v16 = V.non)) = true by rw [decide_eq_false hne']; rfl]
          refine iteT ?_
          refine ⟨_, rfl, _, rfl, v2, v, A2, A, rfl, hA2.same s5, hA1.same s5, bA2.bq (by decide) (by decide), bA.bq (by decide) (by decide), fun J6 s6 => ⟨_, rfl, ?_⟩⟩
          have ev3 := ev2.same s6
          have hq3 := hq.same (s5.trans s6)
          have hq3' := hq'.same s6
          refine iteN (fun _ => ?_) fun _ => ?_
          · refine ⟨_, rfl, C, rfl, ⟨xs, .inl (.inl ev3.eC)⟩, fun D nD => ?_⟩
            refine lc_it (walk_list (K := K) (a := C) (xs := xs)) (fun i H' => Same J6 H' ∧ ∃ us, H' D = some (.lst us) ∧ DtA K mT H' us (((cs.take i).map fun c => c.ev l' - c.ev l).map frD)) ⟨same_upd nD, [], upd_same, .nil⟩ (fun i H' _ h => .inl (.inl (h.1 _ _ ev3.eC))) ?_ ?_
            · rintro i x1' K1 K2 hi ⟨t1, us, e1, a1⟩ ⟨rfl, gx⟩
              obtain ⟨c, hc⟩ : ∃ c, cs[i]? = some c := ⟨_, List.getElem?_eq_getElem (by omega)⟩
              have mc := List.mem_of_getElem? hc
              obtain ⟨v', w1, dv⟩ := ev3.aC.getD (i := i) (d := cvD c) (by rw [List.getElem?_map, hc]; rfl)
              rw [gx] at w1
              cases w1
              have l1 := a1.length
              rw [List.length_map, List.length_map, List.length_take] at l1
              have ok := sm.ok c mc
              have cb : CB c := (sm.cb c mc).mono (by decide) (by decide)
              have nn := Nat.le_trans (sm.n c mc) (show _ ≤ 1000 by decide)
              refine ⟨rfl, _, rfl, _, rfl, x1', v16, c, l', rfl, dt_same dv t1, hq3'.same t1, ok, cb, bq'.mono (by decide) (by decide), hL2.1, nn, fun va K3 t3 ha => ?_⟩
              refine ⟨_, rfl, _, rfl, x1', v8, c, l, rfl, dt_same dv (t1.trans t3), hq3.same (t1.trans t3), ok, cb, bq.mono (by decide) (by decide), hL.1, nn, fun vb K4 t4 hb' => ?_⟩
              refine ⟨va, vb, _, _, rfl, ha.same t4, hb', (ev_lev (lc c mc) hL2.1 bq').bq (by decide) (by decide), (ev_lev (lc c mc) hL.1 bq).bq (by decide) (by decide), fun v3 K5 t5 h5 => ?_⟩
              have t35 := (t3.trans t4).trans t5
              have e3 := t35 _ _ e1
              refine ⟨us, e3, small1000 (by omega), same_at (t1.trans t35) nD, us ++ [v3], upd_same, ?_⟩
              rw [take_snoc hc, List.map_append]
              exact dtA_at ((a1.fut (.of_same t35)).append (.cons h5.dt .nil)) e3
            · rintro K1 ⟨t1, us, e1, a1⟩
              rw [List.take_of_length_le (by omega)] at a1
              refine ⟨D, us, rfl, .inl ⟨.inl (.inl e1), fun T nT => ?_⟩⟩
              have sT := same_upd (o := .tup us) nT
              have uT := upd_same (H := K1) (a := T) (o := .tup us)
              generalize upd K1 T (.tup us) = K2 at sT uT ⊢
              have t2 := t1.trans sT
              have ev4 := ev3.same t2
              have s46 := (s5.trans s6).trans t2
              have lev : ∀ c ∈ cs, Rb 1400 1400 (c.ev l) := fun c hc => (ev_lev (lc c hc) hL.1 bq).mono (by decide) (by decide)
              have lev' : ∀ c ∈ cs, Rb 1400 1400 (c.ev l') := fun c hc => (ev_lev (lc c hc) hL2.1 bq').mono (by decide) (by decide)
              refine ⟨_, rfl, _, rfl, _, rfl, false, C, xs, cs, v, v2, A, A2, l, l', rfl, sqk_l (.inl (.inl ev4.eC)), ev4.aC, sm, ⟨hA1.same s46, bA6, A0⟩, ⟨hA2.same s46, bA26, A20⟩, ev4.tb, hL, hL2, ⟨bq.mono (by decide) (by decide), lev⟩, ⟨bq'.mono (by decide) (by decide), lev'⟩, fun v9 J7 x7 T7 h9 => ?_⟩
              have ev5 := ev4.exN x7 T7
              refine ⟨_, rfl, v9, .ref T, mT, (cs.map fun c => c.ev l' - c.ev l), rfl, h9, (Dt.tup (.inl uT) (a1.fut (.of_same sT))).fut (exN_fut x7), fun q hq => ?_, by rw [List.length_map]; omega, ⟨true, rfl, iteF ?_⟩⟩
              · obtain ⟨c, hc, rfl⟩ := List.mem_map.mp hq
                exact ((ev_lev (lc c hc) hL2.1 bq').sub (ev_lev (lc c hc) hL.1 bq) (c := 1790) (by decide) (by decide)).mono (by decide) (by decide)
              refine ⟨_, rfl, .ref C, (fun _ => False), .list (cs.map cvD), rfl, ev5.cdt, okc.show, .inl fits.nd, by have := okc.dp; omega, okc.fits, ?_⟩
              rw [← hkept]
              refine ⟨_, rfl, rfl, _, rfl, ?_⟩
              rw [show (!decide (V.str kept = V.str kept)) = false by rw [decide_eq_true rfl]; rfl]
              exact iteF (done ⟨_, _, _, _, _, _, rfl⟩ ((exN_same s46).trans x7) T7)
          · exact done ⟨_, _, _, _, _, _, rfl⟩ (exN_same (s5.trans s6)) ev3.tb
    obtain ⟨⟨o9, o10, o11, o13, o16, o17, rfl⟩, x1, T1⟩ := h
    exact ⟨_, ⟨_, _, _, _, _, _, _, _, _, _, _, _, rfl⟩, ev20.exN x1 T1⟩
  · obtain ⟨x2, ⟨o6, o7, o8, o9, o10, o11, o12, o13, o14, o15, o16, o17, rfl⟩, ev⟩ := h
    exact ⟨⟨_, _, _, _, _, _, _, _, _, _, _, _, _, _, _, _, rfl⟩, ev.bg, ev.tb⟩
end
end K33
namespace K33
open PySem PySem.Spec PyProof.Rows L2 Sw
theorem intE_u {K : PySem.W.Frag} {h : Heap} {mg : Str → Option Value} {x : Str} {n : Int} (X : K.In h) (G : h.Ns mainGlobals mg) (e : ∃ t : Tok, PySem.W.nsIn K mainGlobals x = some (some (.int n t))) : ∃ u, mg x = some u ∧ RelV (.int n) u := by
  obtain ⟨t, a⟩ := e
  exact ⟨_, PySem.W.mg_of X G a, ⟨t, rfl⟩⟩
end K33
/-! walkGT, the promise told of the written part. -/
namespace Sw
open PySem PySem.Spec PyProof.Rows L2 LamX
/-- the end of a law whose defs make lambdas -/
theorem walkGTK {l : PySem.W.OpenLaw} {n k : Nat} {q : Program} {loose : List Str} {XP : (Str → Option Value) → Heap → Prop} {YP : World → Heap → Prop} {d : DefRec} {K : Params → PySem.W.Frag} {sp : PySem.W.Frag → List (Addr × Addr) → Sp} {x : Str}
    (hn : l.most = some n) (hn2 : n ≤ sizeLine) (hdf : d.params.defaults = []) (hr : Room k callerA) (hY : ∀ (w : World) (h : Heap), YP w h → (K w.params).In h)
    (F : ∀ (w : World) (mg : Str → Option Value) (fa : Addr) (h : Heap), YP w h → (K w.params).In h → h.Ns mainGlobals mg → mg d.name = some (.ref fa) →
      (∀ (x : Str) (d : DefRec) (c P : Addr), (recsOf q).find? (fun e => e.name == x) = some d → PySem.W.tabIn (K w.params) x = some (c, P) → h.get? P = some { cls := .none, data := .fields #[] }) →
      ∃ (fd : FuncData) (cs : List (Addr × Addr)), (∀ p ∈ cs, PySem.W.codeHdIn (K w.params) p.1 p.2 = true) ∧ (∀ p ∈ cs, (K w.params).lookup p.2 = none) ∧ (∀ p ∈ cs, h.get? p.2 = some { cls := .none, data := .fields #[] }) ∧ (∀ (s : Shared) (u : Value), BindsTo s fd ⟨[u], []⟩ [(x, u)]) ∧
        (∀ (H : Hp) (a : Addr) (ns : List Int), ns.length ≤ n → (∀ z ∈ ns, Builtin.Int.intBits z ≤ 1048576) → (∀ p ∈ cs, H p.2 = some (.tbl #[])) → SqL (K w.params) H a (ns.map V.int) → sp (K w.params) cs [.ref a] H (fun v _ => v = .bl true) fun _ _ _ => False) ∧
        ∀ base : Heap, (K w.params).In base → base.Ns mainGlobals mg → (∀ p ∈ cs, TabB base mg p.1 p.2) → FnG l.prog w (K w.params) mg base k fa fd [x] (sp (K w.params) cs)) :
    PySem.W.WalkO q loose XP YP l.row.toRowW d [] (fun f vs => PySem.call f vs) :=
  walkGT (sp := fun w cs => sp (K w.params) cs) hn hn2 hdf hr hY F
end Sw
namespace K33
open PySem PySem.Spec PyProof.Rows L2 Sw LamX
section
variable {K : PySem.W.Frag} {h : Heap} {mg : Str → Option Value}
/-- the top has written the def x -/
def DefE (K : PySem.W.Frag) (mg : Str → Option Value) (x : Str) (st : Stmt) : Prop := ∃ (f : Addr) (fd : FuncData), Fun K x x st f fd ∧ mg x = some (.ref f) ∧ PySem.W.keepIn K (.ref f) = true
theorem def_mk {x : Str} {st : Stmt} {f : Addr} {oc : Value} {od an : Option Addr} {osl : Array (Option Value)} {kV doc pm cdv ct : Value} (X : K.In h) (G : h.Ns mainGlobals mg) (a : PySem.W.nsIn K mainGlobals x = some (some (.ref f)))
    (l : K.lookup f = some ⟨oc, od, .func (PySem.W.fnOf x x (defArgs st) (defBody st) (defScope st) .none kV doc pm an cdv ct), osl⟩) (c : PySem.W.codeIn K cdv x = true) (k : PySem.W.keepIn K (.ref f) = true) : DefE K mg x st :=
  ⟨f, _, fun_mk l c k, PySem.W.mg_of X G a, k⟩
def DefL (K : PySem.W.Frag) (mg : Str → Option Value) : Prop := ∃ (f : Addr) (fd : FuncData), Fun K "law" "law" slaw f fd ∧ mg "law" = some (.ref f) ∧ ∀ (s : Shared) (v : Value), BindsTo s fd ⟨[v], []⟩ [("script", v)]
theorem law_mk {f : Addr} {oc : Value} {od an : Option Addr} {osl : Array (Option Value)} {kV doc pm cdv ct : Value} (X : K.In h) (G : h.Ns mainGlobals mg) (a : PySem.W.nsIn K mainGlobals "law" = some (some (.ref f)))
    (l : K.lookup f = some ⟨oc, od, .func (PySem.W.fnOf "law" "law" (defArgs slaw) (defBody slaw) (defScope slaw) .none kV doc pm an cdv ct), osl⟩) (c : PySem.W.codeIn K cdv "law" = true) (k : PySem.W.keepIn K (.ref f) = true) : DefL K mg :=
  ⟨f, _, fun_mk l c k, PySem.W.mg_of X G a, fun s v => .of_eq rfl⟩
/-- .. that makes a lambda: its code object, its table -/
def DefC (K : PySem.W.Frag) (mg : Str → Option Value) (x : Str) (st : Stmt) (c P : Addr) : Prop := ∃ (f : Addr) (fd : FuncData), Fun K x x st f fd ∧ mg x = some (.ref f) ∧ PySem.W.keepIn K (.ref f) = true ∧ fd.code = .ref c ∧ PySem.W.tabIn K x = some (c, P) ∧ PySem.W.codeHdIn K c P = true ∧ K.lookup P = none
theorem defc_mk {x : Str} {st : Stmt} {f c P : Addr} {oc : Value} {od an : Option Addr} {osl : Array (Option Value)} {kV doc pm ct : Value} (X : K.In h) (G : h.Ns mainGlobals mg) (a : PySem.W.nsIn K mainGlobals x = some (some (.ref f)))
    (l : K.lookup f = some ⟨oc, od, .func (PySem.W.fnOf x x (defArgs st) (defBody st) (defScope st) .none kV doc pm an (.ref c) ct), osl⟩) (cc : PySem.W.codeIn K (.ref c) x = true) (k : PySem.W.keepIn K (.ref f) = true) (t : PySem.W.tabIn K x = some (c, P)) (hd : PySem.W.codeHdIn K c P = true) (n : K.lookup P = none) : DefC K mg x st c P :=
  ⟨f, _, fun_mk l cc k, PySem.W.mg_of X G a, k, rfl, t, hd, n⟩
def BtE (K : PySem.W.Frag) : Prop := ∀ x ∈ (["len", "int", "bool", "str", "tuple", "list", "dict", "isinstance", "repr", "abs", "max", "min", "range", "enumerate", "zip", "sorted", "all"] : List Str), PySem.W.nsIn K mainGlobals x = some none
theorem BtE.get (b : BtE K) (X : K.In h) (G : h.Ns mainGlobals mg) {x : Str} (hx : x ∈ (["len", "int", "bool", "str", "tuple", "list", "dict", "isinstance", "repr", "abs", "max", "min", "range", "enumerate", "zip", "sorted", "all"] : List Str)) : mg x = none := PySem.W.mg_none_of X G (b x hx)
theorem bte_mk (z0 : PySem.W.nsIn K mainGlobals "len" = some none) (z1 : PySem.W.nsIn K mainGlobals "int" = some none) (z2 : PySem.W.nsIn K mainGlobals "bool" = some none) (z3 : PySem.W.nsIn K mainGlobals "str" = some none) (z4 : PySem.W.nsIn K mainGlobals "tuple" = some none) (z5 : PySem.W.nsIn K mainGlobals "list" = some none) (z6 : PySem.W.nsIn K mainGlobals "dict" = some none) (z7 : PySem.W.nsIn K mainGlobals "isinstance" = some none) (z8 : PySem.W.nsIn K mainGlobals "repr" = some none) (z9 : PySem.W.nsIn K mainGlobals "abs" = some none) (z10 : PySem.W.nsIn K mainGlobals "max" = some none) (z11 : PySem.W.nsIn K mainGlobals "min" = some none) (z12 : PySem.W.nsIn K mainGlobals "range" = some none) (z13 : PySem.W.nsIn K mainGlobals "enumerate" = some none) (z14 : PySem.W.nsIn K mainGlobals "zip" = some none) (z15 : PySem.W.nsIn K mainGlobals "sorted" = some none) (z16 : PySem.W.nsIn K mainGlobals "all" = some none) : BtE K := by
  intro x hx
  simp only [List.mem_cons, List.not_mem_nil, or_false] at hx
  rcases hx with rfl | rfl | rfl | rfl | rfl | rfl | rfl | rfl | rfl | rfl | rfl | rfl | rfl | rfl | rfl | rfl | rfl <;> assumption
/-- .. a tuple of two integers -/
def TupE (K : PySem.W.Frag) (mg : Str → Option Value) (x : Str) (n d : Int) : Prop := ∃ z, mg x = some (.ref z) ∧ KTup K z [.int n, .int d]
theorem tup_mk {x : Str} {n d : Int} {z : Addr} {od : Option Addr} {t t' : Tok} {k : Nat} {osl : Array (Option Value)} (X : K.In h) (G : h.Ns mainGlobals mg) (a : PySem.W.nsIn K mainGlobals x = some (some (.ref z)))
    (l : K.lookup z = some ⟨.type "tuple", od, .seq #[.int n t, .int d t'] k, osl⟩) : TupE K mg x n d :=
  ⟨z, PySem.W.mg_of X G a, _, _, _, l, rfl, rfl, (show 2 ≤ sizeLine by decide), .cons ⟨_, rfl⟩ (.cons ⟨_, rfl⟩ .nil)⟩
def GcE (K : PySem.W.Frag) (x : Str) (b : String) : Prop := PySem.W.nsIn K mainGlobals x = some (some (.builtin b))
theorem gc_mk {x : Str} {b : String} (a : PySem.W.nsIn K mainGlobals x = some (some (.builtin b))) : GcE K x b := a
def IntE (K : PySem.W.Frag) (x : Str) (n : Int) : Prop := ∃ t : Tok, PySem.W.nsIn K mainGlobals x = some (some (.int n t))
theorem int_mk {x : Str} {n : Int} {t : Tok} (a : PySem.W.nsIn K mainGlobals x = some (some (.int n t))) : IntE K x n := ⟨t, a⟩
/-- all that the top has written, put together -/
theorem all_mk {P : Program} {w : World} {fa c0 P0 : Addr} (X : K.In h) (G : h.Ns mainGlobals mg) (hfa : mg "law" = some (.ref fa))
    (D0 : DefE K mg "added" sadded)
    (D1 : DefE K mg "lessened" slessened)
    (D2 : DefE K mg "times" stimes)
    (D3 : DefE K mg "over" sover)
    (D4 : DefE K mg "compared" scompared)
    (D5 : DefE K mg "compared_roughly" scompared_roughly)
    (D6 : DefE K mg "first_bits" sfirst_bits)
    (D7 : DefE K mg "total" stotal)
    (D8 : DefC K mg "ascending" sascending c0 P0)
    (D9 : DefE K mg "steepness" ssteepness)
    (D10 : DefE K mg "last_up_to" slast_up_to)
    (D11 : DefE K mg "place_at" splace_at)
    (D12 : DefE K mg "rise_behind" srise_behind)
    (D13 : DefE K mg "pay_at" spay_at)
    (D14 : DefE K mg "rose_to" srose_to)
    (D15 : DefE K mg "bends_of" sbends_of)
    (D16 : DefE K mg "added_up" sadded_up)
    (D17 : DefE K mg "is_integer" sis_integer)
    (D18 : DefE K mg "is_fraction" sis_fraction)
    (D19 : DefE K mg "is_amount" sis_amount)
    (D20 : DefE K mg "level_for" slevel_for)
    (D21 : DefE K mg "last_below" slast_below)
    (D22 : DefE K mg "pays_at" spays_at)
    (D23 : DefE K mg "level_of" slevel_of)
    (D24 : DefE K mg "payments" spayments)
    (D25 : DefE K mg "level_paper" slevel_paper)
    (D26 : DefE K mg "is_level_paper" sis_level_paper)
    (D27 : DefE K mg "are_paid" sare_paid)
    (D28 : DefE K mg "parting_of" sparting_of)
    (D29 : DefE K mg "_law_bag" s_law_bag)
    (D30 : DefE K mg "_law_take" s_law_take)
    (D31 : DefE K mg "_law_some" s_law_some)
    (D32 : DefE K mg "_law_mixed" s_law_mixed)
    (D33 : DefE K mg "_law_alike" s_law_alike)
    (D34 : DefE K mg "_law_is_int" s_law_is_int)
    (D35 : DefE K mg "_law_common" s_law_common)
    (D36 : DefE K mg "_law_reduced" s_law_reduced)
    (D37 : DefE K mg "_law_added" s_law_added)
    (D38 : DefE K mg "_law_lessened" s_law_lessened)
    (D39 : DefE K mg "_law_multiplied" s_law_multiplied)
    (D40 : DefE K mg "_law_divided" s_law_divided)
    (D41 : DefE K mg "_law_is_below" s_law_is_below)
    (D42 : DefE K mg "_law_total" s_law_total)
    (D43 : DefE K mg "_law_ascending" s_law_ascending)
    (D44 : DefE K mg "_law_number" s_law_number)
    (D45 : DefE K mg "_law_curve" s_law_curve)
    (D46 : DefE K mg "_law_paid_at" s_law_paid_at)
    (D47 : DefE K mg "_law_corner_levels" s_law_corner_levels)
    (D48 : DefE K mg "_law_sum_at" s_law_sum_at)
    (D49 : DefE K mg "_law_least_level" s_law_least_level)
    (D50 : DefE K mg "_law_some_curve" s_law_some_curve)
    (D51 : DefE K mg "_law_some_curves" s_law_some_curves)
    (D52 : DefE K mg "_law_some_amounts" s_law_some_amounts)
    (D53 : DefE K mg "_law_bent" s_law_bent)
    (D54 : DefE K mg "_law_odd" s_law_odd)
    (D55 : DefE K mg "_law_rose" s_law_rose)
    (D56 : DefE K mg "_law_is_fraction" s_law_is_fraction)
    (D57 : DefE K mg "_law_is_paper" s_law_is_paper)
    (D58 : DefE K mg "_law_due_paper" s_law_due_paper)
    (D59 : DefE K mg "_law_near_papers" s_law_near_papers)
    (DL : DefL K mg)
    (GC : GcE K "gcd" "math.gcd")
    (GB : IntE K "GREAT_BITS" 1500)
    (RB : IntE K "ROUGH_BITS" 128)
    (ZZ : TupE K mg "ZERO" 0 1)
    (Z : BtE K) :
    ∃ fd : FuncData, (∀ (s : Shared) (v : Value), BindsTo s fd ⟨[v], []⟩ [("script", v)]) ∧ (PySem.W.codeHdIn K c0 P0 = true ∧ K.lookup P0 = none ∧ PySem.W.tabIn K "ascending" = some (c0, P0)) ∧ ∀ base : Heap, K.In base → base.Ns mainGlobals mg → TabB base mg c0 P0 → FnG P w K mg base 10 fa fd ["script"] (spLaw K P0) := by
  obtain ⟨fL, fdL, FL, mL, bL⟩ := DL
  have e := hfa.symm.trans mL
  cases e
  obtain ⟨f0, fd0, F0, m0, k0⟩ := D0
  have b0 := F0.binds (ps := ["one", "other"]) fun _ _ _ _ _ _ us hl => match us, hl with | [_, _], _ => rfl
  obtain ⟨f1, fd1, F1, m1, k1⟩ := D1
  have b1 := F1.binds (ps := ["one", "other"]) fun _ _ _ _ _ _ us hl => match us, hl with | [_, _], _ => rfl
  obtain ⟨f2, fd2, F2, m2, k2⟩ := D2
  have b2 := F2.binds (ps := ["one", "other"]) fun _ _ _ _ _ _ us hl => match us, hl with | [_, _], _ => rfl
  obtain ⟨f3, fd3, F3, m3, k3⟩ := D3
  have b3 := F3.binds (ps := ["one", "other"]) fun _ _ _ _ _ _ us hl => match us, hl with | [_, _], _ => rfl
  obtain ⟨f4, fd4, F4, m4, k4⟩ := D4
  have b4 := F4.binds (ps := ["one", "other"]) fun _ _ _ _ _ _ us hl => match us, hl with | [_, _], _ => rfl
  obtain ⟨f5, fd5, F5, m5, k5⟩ := D5
  have b5 := F5.binds (ps := ["one", "other"]) fun _ _ _ _ _ _ us hl => match us, hl with | [_, _], _ => rfl
  obtain ⟨f6, fd6, F6, m6, k6⟩ := D6
  have b6 := F6.binds (ps := ["one"]) fun _ _ _ _ _ _ us hl => match us, hl with | [_], _ => rfl
  obtain ⟨f7, fd7, F7, m7, k7⟩ := D7
  have b7 := F7.binds (ps := ["fractions"]) fun _ _ _ _ _ _ us hl => match us, hl with | [_], _ => rfl
  obtain ⟨f8, fd8, F8, m8, k8, hfc, htab, hhd, hnk⟩ := D8
  have b8 := F8.binds (ps := ["fractions"]) fun _ _ _ _ _ _ us hl => match us, hl with | [_], _ => rfl
  obtain ⟨f9, fd9, F9, m9, k9⟩ := D9
  have b9 := F9.binds (ps := ["low", "high"]) fun _ _ _ _ _ _ us hl => match us, hl with | [_, _], _ => rfl
  obtain ⟨f10, fd10, F10, m10, k10⟩ := D10
  have b10 := F10.binds (ps := ["rows", "level"]) fun _ _ _ _ _ _ us hl => match us, hl with | [_, _], _ => rfl
  obtain ⟨f11, fd11, F11, m11, k11⟩ := D11
  have b11 := F11.binds (ps := ["curve", "level"]) fun _ _ _ _ _ _ us hl => match us, hl with | [_, _], _ => rfl
  obtain ⟨f12, fd12, F12, m12, k12⟩ := D12
  have b12 := F12.binds (ps := ["curve", "place"]) fun _ _ _ _ _ _ us hl => match us, hl with | [_, _], _ => rfl
  obtain ⟨f13, fd13, F13, m13, k13⟩ := D13
  have b13 := F13.binds (ps := ["curve", "level"]) fun _ _ _ _ _ _ us hl => match us, hl with | [_, _], _ => rfl
  obtain ⟨f14, fd14, F14, m14, k14⟩ := D14
  have b14 := F14.binds (ps := ["curve", "level"]) fun _ _ _ _ _ _ us hl => match us, hl with | [_, _], _ => rfl
  obtain ⟨f15, fd15, F15, m15, k15⟩ := D15
  have b15 := F15.binds (ps := ["curve"]) fun _ _ _ _ _ _ us hl => match us, hl with | [_], _ => rfl
  obtain ⟨f16, fd16, F16, m16, k16⟩ := D16
  have b16 := F16.binds (ps := ["curves"]) fun _ _ _ _ _ _ us hl => match us, hl with | [_], _ => rfl
  obtain ⟨f17, fd17, F17, m17, k17⟩ := D17
  have b17 := F17.binds (ps := ["thing"]) fun _ _ _ _ _ _ us hl => match us, hl with | [_], _ => rfl
  obtain ⟨f18, fd18, F18, m18, k18⟩ := D18
  have b18 := F18.binds (ps := ["thing"]) fun _ _ _ _ _ _ us hl => match us, hl with | [_], _ => rfl
  obtain ⟨f19, fd19, F19, m19, k19⟩ := D19
  have b19 := F19.binds (ps := ["thing"]) fun _ _ _ _ _ _ us hl => match us, hl with | [_], _ => rfl
  obtain ⟨f20, fd20, F20, m20, k20⟩ := D20
  have b20 := F20.binds (ps := ["curve", "pay"]) fun _ _ _ _ _ _ us hl => match us, hl with | [_, _], _ => rfl
  obtain ⟨f21, fd21, F21, m21, k21⟩ := D21
  have b21 := F21.binds (ps := ["curve", "pay"]) fun _ _ _ _ _ _ us hl => match us, hl with | [_, _], _ => rfl
  obtain ⟨f22, fd22, F22, m22, k22⟩ := D22
  have b22 := F22.binds (ps := ["curves", "level"]) fun _ _ _ _ _ _ us hl => match us, hl with | [_, _], _ => rfl
  obtain ⟨f23, fd23, F23, m23, k23⟩ := D23
  have b23 := F23.binds (ps := ["curves", "amount"]) fun _ _ _ _ _ _ us hl => match us, hl with | [_, _], _ => rfl
  obtain ⟨f24, fd24, F24, m24, k24⟩ := D24
  have b24 := F24.binds (ps := ["curves", "amount"]) fun _ _ _ _ _ _ us hl => match us, hl with | [_, _], _ => rfl
  obtain ⟨f25, fd25, F25, m25, k25⟩ := D25
  have b25 := F25.binds (ps := ["curves", "amount"]) fun _ _ _ _ _ _ us hl => match us, hl with | [_, _], _ => rfl
  obtain ⟨f26, fd26, F26, m26, k26⟩ := D26
  have b26 := F26.binds (ps := ["curves", "amount", "thing"]) fun _ _ _ _ _ _ us hl => match us, hl with | [_, _, _], _ => rfl
  obtain ⟨f27, fd27, F27, m27, k27⟩ := D27
  have b27 := F27.binds (ps := ["curves", "amount", "thing"]) fun _ _ _ _ _ _ us hl => match us, hl with | [_, _, _], _ => rfl
  obtain ⟨f28, fd28, F28, m28, k28⟩ := D28
  have b28 := F28.binds (ps := ["curves", "one", "other"]) fun _ _ _ _ _ _ us hl => match us, hl with | [_, _, _], _ => rfl
  obtain ⟨f29, fd29, F29, m29, k29⟩ := D29
  have b29 := F29.binds (ps := ["script"]) fun _ _ _ _ _ _ us hl => match us, hl with | [_], _ => rfl
  obtain ⟨f30, fd30, F30, m30, k30⟩ := D30
  have b30 := F30.binds (ps := ["bag", "many"]) fun _ _ _ _ _ _ us hl => match us, hl with | [_, _], _ => rfl
  obtain ⟨f31, fd31, F31, m31, k31⟩ := D31
  have b31 := F31.binds (ps := ["bag", "things"]) fun _ _ _ _ _ _ us hl => match us, hl with | [_, _], _ => rfl
  obtain ⟨f32, fd32, F32, m32, k32⟩ := D32
  have b32 := F32.binds (ps := ["bag", "things"]) fun _ _ _ _ _ _ us hl => match us, hl with | [_, _], _ => rfl
  obtain ⟨f33, fd33, F33, m33, k33⟩ := D33
  have b33 := F33.binds (ps := ["found", "due"]) fun _ _ _ _ _ _ us hl => match us, hl with | [_, _], _ => rfl
  obtain ⟨f34, fd34, F34, m34, k34⟩ := D34
  have b34 := F34.binds (ps := ["thing"]) fun _ _ _ _ _ _ us hl => match us, hl with | [_], _ => rfl
  obtain ⟨f35, fd35, F35, m35, k35⟩ := D35
  have b35 := F35.binds (ps := ["one", "other"]) fun _ _ _ _ _ _ us hl => match us, hl with | [_, _], _ => rfl
  obtain ⟨f36, fd36, F36, m36, k36⟩ := D36
  have b36 := F36.binds (ps := ["n", "d"]) fun _ _ _ _ _ _ us hl => match us, hl with | [_, _], _ => rfl
  obtain ⟨f37, fd37, F37, m37, k37⟩ := D37
  have b37 := F37.binds (ps := ["one", "other"]) fun _ _ _ _ _ _ us hl => match us, hl with | [_, _], _ => rfl
  obtain ⟨f38, fd38, F38, m38, k38⟩ := D38
  have b38 := F38.binds (ps := ["one", "other"]) fun _ _ _ _ _ _ us hl => match us, hl with | [_, _], _ => rfl
  obtain ⟨f39, fd39, F39, m39, k39⟩ := D39
  have b39 := F39.binds (ps := ["one", "other"]) fun _ _ _ _ _ _ us hl => match us, hl with | [_, _], _ => rfl
  obtain ⟨f40, fd40, F40, m40, k40⟩ := D40
  have b40 := F40.binds (ps := ["one", "other"]) fun _ _ _ _ _ _ us hl => match us, hl with | [_, _], _ => rfl
  obtain ⟨f41, fd41, F41, m41, k41⟩ := D41
  have b41 := F41.binds (ps := ["one", "other"]) fun _ _ _ _ _ _ us hl => match us, hl with | [_, _], _ => rfl
  obtain ⟨f42, fd42, F42, m42, k42⟩ := D42
  have b42 := F42.binds (ps := ["fractions"]) fun _ _ _ _ _ _ us hl => match us, hl with | [_], _ => rfl
  obtain ⟨f43, fd43, F43, m43, k43⟩ := D43
  have b43 := F43.binds (ps := ["fractions"]) fun _ _ _ _ _ _ us hl => match us, hl with | [_], _ => rfl
  obtain ⟨f44, fd44, F44, m44, k44⟩ := D44
  have b44 := F44.binds (ps := ["bag", "most"]) fun _ _ _ _ _ _ us hl => match us, hl with | [_, _], _ => rfl
  obtain ⟨f45, fd45, F45, m45, k45⟩ := D45
  have b45 := F45.binds (ps := ["points", "slope"]) fun _ _ _ _ _ _ us hl => match us, hl with | [_, _], _ => rfl
  obtain ⟨f46, fd46, F46, m46, k46⟩ := D46
  have b46 := F46.binds (ps := ["one", "level"]) fun _ _ _ _ _ _ us hl => match us, hl with | [_, _], _ => rfl
  obtain ⟨f47, fd47, F47, m47, k47⟩ := D47
  have b47 := F47.binds (ps := ["curves"]) fun _ _ _ _ _ _ us hl => match us, hl with | [_], _ => rfl
  obtain ⟨f48, fd48, F48, m48, k48⟩ := D48
  have b48 := F48.binds (ps := ["curves", "level"]) fun _ _ _ _ _ _ us hl => match us, hl with | [_, _], _ => rfl
  obtain ⟨f49, fd49, F49, m49, k49⟩ := D49
  have b49 := F49.binds (ps := ["curves", "amount"]) fun _ _ _ _ _ _ us hl => match us, hl with | [_, _], _ => rfl
  obtain ⟨f50, fd50, F50, m50, k50⟩ := D50
  have b50 := F50.binds (ps := ["bag"]) fun _ _ _ _ _ _ us hl => match us, hl with | [_], _ => rfl
  obtain ⟨f51, fd51, F51, m51, k51⟩ := D51
  have b51 := F51.binds (ps := ["bag", "most"]) fun _ _ _ _ _ _ us hl => match us, hl with | [_, _], _ => rfl
  obtain ⟨f52, fd52, F52, m52, k52⟩ := D52
  have b52 := F52.binds (ps := ["bag", "curves"]) fun _ _ _ _ _ _ us hl => match us, hl with | [_, _], _ => rfl
  obtain ⟨f53, fd53, F53, m53, k53⟩ := D53
  have b53 := F53.binds (ps := ["bag", "thing"]) fun _ _ _ _ _ _ us hl => match us, hl with | [_, _], _ => rfl
  obtain ⟨f54, fd54, F54, m54, k54⟩ := D54
  have b54 := F54.binds (ps := ["bag"]) fun _ _ _ _ _ _ us hl => match us, hl with | [_], _ => rfl
  obtain ⟨f55, fd55, F55, m55, k55⟩ := D55
  have b55 := F55.binds (ps := ["one", "level"]) fun _ _ _ _ _ _ us hl => match us, hl with | [_, _], _ => rfl
  obtain ⟨f56, fd56, F56, m56, k56⟩ := D56
  have b56 := F56.binds (ps := ["thing"]) fun _ _ _ _ _ _ us hl => match us, hl with | [_], _ => rfl
  obtain ⟨f57, fd57, F57, m57, k57⟩ := D57
  have b57 := F57.binds (ps := ["curves", "amount", "thing"]) fun _ _ _ _ _ _ us hl => match us, hl with | [_, _, _], _ => rfl
  obtain ⟨f58, fd58, F58, m58, k58⟩ := D58
  have b58 := F58.binds (ps := ["curves", "amount"]) fun _ _ _ _ _ _ us hl => match us, hl with | [_, _], _ => rfl
  obtain ⟨f59, fd59, F59, m59, k59⟩ := D59
  have b59 := F59.binds (ps := ["bag", "curves", "paper"]) fun _ _ _ _ _ _ us hl => match us, hl with | [_, _, _], _ => rfl
  have B : Bt mg := ⟨Z.get X G (by decide +kernel), Z.get X G (by decide +kernel), Z.get X G (by decide +kernel), Z.get X G (by decide +kernel), Z.get X G (by decide +kernel), Z.get X G (by decide +kernel), Z.get X G (by decide +kernel), Z.get X G (by decide +kernel), Z.get X G (by decide +kernel), Z.get X G (by decide +kernel), Z.get X G (by decide +kernel), Z.get X G (by decide +kernel), Z.get X G (by decide +kernel), Z.get X G (by decide +kernel), Z.get X G (by decide +kernel)⟩
  have T_sorted : mg "sorted" = none := Z.get X G (by decide +kernel)
  have T_all : mg "all" = none := Z.get X G (by decide +kernel)
  obtain ⟨zz, ZZm, ZZk⟩ := ZZ
  have T : Tx mg := ⟨PySem.W.mg_of X G GC⟩
  refine ⟨fdL, bL, ⟨hhd, hnk, htab⟩, fun base hKb _ TB0 => ?_⟩
  have CC_added : CalG P w K mg base 1 "added" (spTwo K addF) := ⟨f0, fd0, _, ok_added F0 B T, m0, k0, b0⟩
  have C_added : CalG P w K mg base 1 "added" (spQ2 K (· + ·)) := CalG.imp CC_added (two_q rF_add)
  have CC_lessened : CalG P w K mg base 2 "lessened" (spTwo K subF) := ⟨f1, fd1, _, ok_lessened F1 B CC_added, m1, k1, b1⟩
  have C_lessened : CalG P w K mg base 2 "lessened" (spQ2 K (· - ·)) := CalG.imp CC_lessened (two_q rF_sub)
  have CC_times : CalG P w K mg base 1 "times" (spTwo K mulF) := ⟨f2, fd2, _, ok_times F2 B T, m2, k2, b2⟩
  have C_times : CalG P w K mg base 1 "times" (spQ2 K (· * ·)) := CalG.imp CC_times (two_q rF_mul)
  have CC_over : CalG P w K mg base 2 "over" (spDiv K) := ⟨f3, fd3, _, ok_over F3 B CC_times, m3, k3, b3⟩
  have C_over : CalG P w K mg base 2 "over" (spQd K) := CalG.imp CC_over div_q
  have C_first_bits : CalG P w K mg base 1 "first_bits" (spFirst K) := ⟨f6, fd6, _, ok_first_bits F6 B (intE_u X G RB), m6, k6, b6⟩
  have CC_total : CalG P w K mg base 2 "total" (spTotal K) := ⟨f7, fd7, _, ok_total F7 B ⟨_, ZZm, rfl⟩ ZZk CC_added, m7, k7, b7⟩
  have C_total : CalG P w K mg base 2 "total" (spTotQ K) := CalG.imp CC_total tot_q
  have C_ascending : CalG P w K mg base 2 "ascending" (spAsc K P0) := ⟨f8, fd8, _, ok_ascending F8 hfc TB0 B T_sorted, m8, k8, b8⟩
  have C_steepness : CalG P w K mg base 3 "steepness" (spStp K) := ⟨f9, fd9, _, ok_steepness F9 B C_lessened C_over, m9, k9, b9⟩
  have C_rise_behind : CalG P w K mg base 4 "rise_behind" (spRise K) := ⟨f12, fd12, _, ok_rise_behind F12 B C_steepness, m12, k12, b12⟩
  have C_bends_of : CalG P w K mg base 5 "bends_of" (spBends K) := ⟨f15, fd15, _, ok_bends_of F15 B ⟨_, ZZm, rfl⟩ ZZk C_lessened C_rise_behind, m15, k15, b15⟩
  have C_added_up : CalG P w K mg base 6 "added_up" (spAdd K P0) := ⟨f16, fd16, _, ok_added_up F16 B ⟨_, ZZm, rfl⟩ ZZk C_bends_of C_ascending C_added C_lessened C_times, m16, k16, b16⟩
  have C_is_integer : CalG P w K mg base 1 "is_integer" (spP K isInt) := ⟨f17, fd17, _, ok_is_integer F17 B, m17, k17, b17⟩
  have C_is_fraction : CalG P w K mg base 2 "is_fraction" (spP K isFrac) := ⟨f18, fd18, _, ok_is_fraction F18 B T C_is_integer, m18, k18, b18⟩
  have C_is_amount : CalG P w K mg base 3 "is_amount" (spP K isAmt) := ⟨f19, fd19, _, ok_is_amount F19 B C_is_fraction, m19, k19, b19⟩
  have C__law_bag : CalG P w K mg base 1 "_law_bag" (spBag K) := ⟨f29, fd29, _, ok__law_bag F29 B, m29, k29, b29⟩
  have C__law_take : CalG P w K mg base 1 "_law_take" (spTake) := ⟨f30, fd30, _, ok__law_take F30 B, m30, k30, b30⟩
  have C__law_some : CalG P w K mg base 2 "_law_some" (spSome) := ⟨f31, fd31, _, ok__law_some F31 B C__law_take, m31, k31, b31⟩
  have C__law_mixed : CalG P w K mg base 2 "_law_mixed" (spMixed) := ⟨f32, fd32, _, ok__law_mixed F32 B C__law_take, m32, k32, b32⟩
  have C__law_alike : CalG P w K mg base 1 "_law_alike" (spAlike K) := ⟨f33, fd33, _, ok__law_alike F33 B, m33, k33, b33⟩
  have C__law_alikeW : CalG P w K mg base 1 "_law_alike" (spAlikeW K) := ⟨f33, fd33, _, ok__law_alikeW F33 B, m33, k33, b33⟩
  have C__law_is_int : CalG P w K mg base 1 "_law_is_int" (spP K isInt) := ⟨f34, fd34, _, ok__law_is_int F34 B, m34, k34, b34⟩
  have C__law_common : CalG P w K mg base 1 "_law_common" (spCommon) := ⟨f35, fd35, _, ok__law_common F35 B, m35, k35, b35⟩
  have C__law_reduced : CalG P w K mg base 2 "_law_reduced" (spRed) := ⟨f36, fd36, _, ok__law_reduced F36 B C__law_common, m36, k36, b36⟩
  have CC__law_added : CalG P w K mg base 3 "_law_added" (spTwo K addF) := ⟨f37, fd37, _, ok__law_added F37 B C__law_reduced, m37, k37, b37⟩
  have C__law_added : CalG P w K mg base 3 "_law_added" (spQ2 K (· + ·)) := CalG.imp CC__law_added (two_q rF_add)
  have CC__law_lessened : CalG P w K mg base 3 "_law_lessened" (spTwo K subF) := ⟨f38, fd38, _, ok__law_lessened F38 B C__law_reduced, m38, k38, b38⟩
  have C__law_lessened : CalG P w K mg base 3 "_law_lessened" (spQ2 K (· - ·)) := CalG.imp CC__law_lessened (two_q rF_sub)
  have CC__law_multiplied : CalG P w K mg base 3 "_law_multiplied" (spTwo K mulF) := ⟨f39, fd39, _, ok__law_multiplied F39 B C__law_reduced, m39, k39, b39⟩
  have C__law_multiplied : CalG P w K mg base 3 "_law_multiplied" (spQ2 K (· * ·)) := CalG.imp CC__law_multiplied (two_q rF_mul)
  have CC__law_divided : CalG P w K mg base 3 "_law_divided" (spDiv K) := ⟨f40, fd40, _, ok__law_divided F40 B C__law_reduced, m40, k40, b40⟩
  have C__law_divided : CalG P w K mg base 3 "_law_divided" (spQd K) := CalG.imp CC__law_divided div_q
  have CC__law_is_below : CalG P w K mg base 1 "_law_is_below" (spBelow K) := ⟨f41, fd41, _, ok__law_is_below F41 B, m41, k41, b41⟩
  have C__law_is_below : CalG P w K mg base 1 "_law_is_below" (spQb K) := CalG.imp CC__law_is_below below_q
  have CC__law_total : CalG P w K mg base 4 "_law_total" (spTotal K) := ⟨f42, fd42, _, ok__law_total F42 B CC__law_added, m42, k42, b42⟩
  have C__law_total : CalG P w K mg base 4 "_law_total" (spTotQ K) := CalG.imp CC__law_total tot_q
  have CC__law_ascending : CalG P w K mg base 2 "_law_ascending" (spAscL K) := ⟨f43, fd43, _, ok__law_ascending F43 B CC__law_is_below, m43, k43, b43⟩
  have C__law_ascending : CalG P w K mg base 2 "_law_ascending" (spAscQ K) := CalG.imp CC__law_ascending asc_q
  have C__law_number : CalG P w K mg base 3 "_law_number" (spNumE K) := ⟨f44, fd44, _, ok__law_number F44 B C__law_take C__law_some C__law_reduced, m44, k44, b44⟩
  have C__law_curve : CalG P w K mg base 4 "_law_curve" (spCurve K) := ⟨f45, fd45, _, ok__law_curve F45 B C__law_lessened C__law_divided, m45, k45, b45⟩
  have C__law_paid_at : CalG P w K mg base 4 "_law_paid_at" (spPay K) := ⟨f46, fd46, _, ok__law_paid_at F46 B C__law_is_below C__law_lessened C__law_divided C__law_added C__law_multiplied, m46, k46, b46⟩
  have C__law_corner_levels : CalG P w K mg base 3 "_law_corner_levels" (spCorn K) := ⟨f47, fd47, _, ok__law_corner_levels F47 B C__law_ascending, m47, k47, b47⟩
  have C__law_sum_at : CalG P w K mg base 5 "_law_sum_at" (spSumAt K) := ⟨f48, fd48, _, ok__law_sum_at F48 B C__law_total C__law_paid_at, m48, k48, b48⟩
  have C__law_sum_any : CalG P w K mg base 5 "_law_sum_at" (spSumAny K) := ⟨f48, fd48, _, ok__law_sum_any F48 B C__law_total C__law_paid_at, m48, k48, b48⟩
  have C__law_least_level : CalG P w K mg base 6 "_law_least_level" (spLeast K) := ⟨f49, fd49, _, ok__law_least_level F49 B C__law_corner_levels C__law_sum_at C__law_is_below C__law_lessened C__law_divided C__law_added C__law_multiplied, m49, k49, b49⟩
  have C__law_some_curve : CalG P w K mg base 5 "_law_some_curve" (spSC K) := ⟨f50, fd50, _, ok__law_some_curve F50 B C__law_take C__law_some C__law_number C__law_added C__law_curve, m50, k50, b50⟩
  have C__law_some_curves : CalG P w K mg base 6 "_law_some_curves" (spSCs K) := ⟨f51, fd51, _, ok__law_some_curves F51 B C__law_take C__law_some_curve, m51, k51, b51⟩
  have C__law_some_amounts : CalG P w K mg base 6 "_law_some_amounts" (spAms K) := ⟨f52, fd52, _, ok__law_some_amounts F52 B C__law_number C__law_some C__law_mixed C__law_corner_levels C__law_sum_at C__law_added, m52, k52, b52⟩
  have C__law_odd : CalG P w K mg base 3 "_law_odd" (spOdd K) := ⟨f54, fd54, _, ok__law_odd F54 B C__law_some, m54, k54, b54⟩
  have C__law_rose : CalG P w K mg base 5 "_law_rose" (spRoseB K) := ⟨f55, fd55, _, ok__law_rose F55 B C__law_is_below C__law_paid_at, m55, k55, b55⟩
  have C__law_is_fraction : CalG P w K mg base 2 "_law_is_fraction" (spP K isFrac) := ⟨f56, fd56, _, ok__law_is_fraction F56 B C__law_is_int C__law_common, m56, k56, b56⟩
  have C__law_is_paper : CalG P w K mg base 6 "_law_is_paper" (spJ K) := ⟨f57, fd57, _, ok__law_is_paper F57 B C__law_is_fraction C__law_is_int C__law_sum_any C__law_rose, m57, k57, b57⟩
  have C__law_due_paper : CalG P w K mg base 7 "_law_due_paper" (spDueP K) := ⟨f58, fd58, _, ok__law_due_paper F58 B C__law_least_level C__law_rose, m58, k58, b58⟩
  have C_compared_roughly : CalG P w K mg base 2 "compared_roughly" (spRough K) := ⟨f5, fd5, _, ok_compared_roughly F5 B C_first_bits, m5, k5, b5⟩
  have C__law_bent : CalG P w K mg base 6 "_law_bent" (spBent K 2) := ⟨f53, fd53, _, bent_any F53 B C__law_take C__law_some C__law_is_int C__law_odd (fun j sp h => ⟨f53, fd53, _, h, m53, k53, b53⟩) 2, m53, k53, b53⟩
  have C__law_near_papers : CalG P w K mg base 7 "_law_near_papers" (spNear K) := ⟨f59, fd59, _, ok__law_near_papers F59 B C__law_some C__law_number C__law_mixed C__law_added C__law_bent, m59, k59, b59⟩
  have CC_compared : CalG P w K mg base 3 "compared" (spCmp K) := ⟨f4, fd4, _, ok_compared F4 B (intE_u X G GB) C_compared_roughly, m4, k4, b4⟩
  have C_compared : CalG P w K mg base 3 "compared" (spQc K) := CalG.imp CC_compared cmp_q
  have C_last_up_to : CalG P w K mg base 4 "last_up_to" (spUpTo K) := ⟨f10, fd10, _, ok_last_up_to F10 B C_compared, m10, k10, b10⟩
  have C_place_at : CalG P w K mg base 5 "place_at" (spPlace K) := ⟨f11, fd11, _, ok_place_at F11 B C_last_up_to, m11, k11, b11⟩
  have C_pay_at : CalG P w K mg base 6 "pay_at" (spPay K) := ⟨f13, fd13, _, ok_pay_at F13 B C_added C_lessened C_times C_place_at C_rise_behind, m13, k13, b13⟩
  have CC_rose_to : CalG P w K mg base 6 "rose_to" (spRose K) := ⟨f14, fd14, _, ok_rose_to F14 B ⟨_, ZZm, rfl⟩ ZZk C_place_at C_rise_behind, m14, k14, b14⟩
  have C_rose_to : CalG P w K mg base 6 "rose_to" (spRoseL K) := CalG.imp CC_rose_to rose_l
  have C_last_below : CalG P w K mg base 4 "last_below" (spBel K) := ⟨f21, fd21, _, ok_last_below F21 B C_compared, m21, k21, b21⟩
  have C_pays_at : CalG P w K mg base 7 "pays_at" (spPays K) := ⟨f22, fd22, _, ok_pays_at F22 B C_pay_at, m22, k22, b22⟩
  have C_is_level_paper : CalG P w K mg base 7 "is_level_paper" (spJ K) := ⟨f26, fd26, _, ok_is_level_paper F26 B ⟨_, ZZm, rfl⟩ ZZk C_is_amount C_is_integer C_total C_pay_at C_rose_to, m26, k26, b26⟩
  have C_level_for : CalG P w K mg base 5 "level_for" (spLev K) := ⟨f20, fd20, _, ok_level_for F20 B ⟨_, ZZm, rfl⟩ ZZk C_last_below C_rise_behind C_added C_lessened C_over, m20, k20, b20⟩
  have C_level_of : CalG P w K mg base 7 "level_of" (spLof K P0) := ⟨f23, fd23, _, ok_level_of F23 B C_added_up C_level_for, m23, k23, b23⟩
  have C_payments : CalG P w K mg base 8 "payments" (spPmt K P0) := ⟨f24, fd24, _, ok_payments F24 B C_level_of C_pays_at, m24, k24, b24⟩
  have C_level_paper : CalG P w K mg base 8 "level_paper" (spLpap K P0) := ⟨f25, fd25, _, ok_level_paper F25 B ⟨_, ZZm, rfl⟩ ZZk C_level_of C_rose_to, m25, k25, b25⟩
  have C_are_paid : CalG P w K mg base 9 "are_paid" (spAP K P0) := ⟨f27, fd27, _, ok_are_paid F27 B T_all C_is_fraction C_payments, m27, k27, b27⟩
  have C_parting_of : CalG P w K mg base 9 "parting_of" (spPart K P0) := ⟨f28, fd28, _, ok_parting_of F28 B C_payments C_lessened, m28, k28, b28⟩
  exact ok_law FL B C__law_bag C__law_some_curves C__law_some_amounts C__law_least_level C__law_paid_at C__law_due_paper C_level_paper C__law_alike C__law_alikeW C__law_near_papers C__law_odd C__law_is_paper C_is_level_paper C__law_bent C_are_paid C__law_is_below C__law_lessened C_parting_of
theorem end_mk {P : Program} {w : World} {fa c0 P0 : Addr} (hT : ∀ c P : Addr, PySem.W.tabIn K "ascending" = some (c, P) → h.get? P = some { cls := .none, data := .fields #[] })
    (A : ∃ fd : FuncData, (∀ (s : Shared) (v : Value), BindsTo s fd ⟨[v], []⟩ [("script", v)]) ∧ (PySem.W.codeHdIn K c0 P0 = true ∧ K.lookup P0 = none ∧ PySem.W.tabIn K "ascending" = some (c0, P0)) ∧ ∀ base : Heap, K.In base → base.Ns mainGlobals mg → TabB base mg c0 P0 → FnG P w K mg base 10 fa fd ["script"] (spLaw K P0)) :
    ∃ (fd : FuncData) (cs : List (Addr × Addr)), (∀ p ∈ cs, PySem.W.codeHdIn K p.1 p.2 = true) ∧ (∀ p ∈ cs, K.lookup p.2 = none) ∧ (∀ p ∈ cs, h.get? p.2 = some { cls := .none, data := .fields #[] }) ∧ (∀ (s : Shared) (u : Value), BindsTo s fd ⟨[u], []⟩ [("script", u)]) ∧
      (∀ (H : Hp) (a : Addr) (ns : List Int), ns.length ≤ 63 → (∀ z ∈ ns, Builtin.Int.intBits z ≤ 1048576) → (∀ p ∈ cs, H p.2 = some (.tbl #[])) → SqL K H a (ns.map V.int) → spLaw K (match cs with | p :: _ => p.2 | [] => 0) [.ref a] H (fun v _ => v = .bl true) fun _ _ _ => False) ∧
      ∀ base : Heap, K.In base → base.Ns mainGlobals mg → (∀ p ∈ cs, TabB base mg p.1 p.2) → FnG P w K mg base 10 fa fd ["script"] (spLaw K (match cs with | p :: _ => p.2 | [] => 0)) := by
  obtain ⟨fd, hb, ⟨h1, h2, h3⟩, F⟩ := A
  refine ⟨fd, [(c0, P0)], fun p hp => ?_, fun p hp => ?_, fun p hp => ?_, hb, fun H a ns hl _ hH hS => ⟨a, ns, rfl, hS, hl, fun p hp => ?_, fun _ => rfl⟩, fun base hK hN hT' => F base hK hN (hT' _ (List.mem_singleton.mpr rfl))⟩
  · rw [List.mem_singleton.mp hp]
    exact h1
  · rw [List.mem_singleton.mp hp]
    exact h2
  · rw [List.mem_singleton.mp hp]
    exact hT _ _ h3
  · rw [List.mem_singleton.mp hp]
    exact LamX.TabS.nil (hH _ (List.mem_singleton.mpr rfl))
end
end K33
open PySem PySem.W PyProof.Rows
set_option maxRecDepth 100000 in
set_option maxHeartbeats 0 in
theorem PySem.Challenge.cw_soldwhole_k33_level_papers_of_any_value_holds : PySem.Challenge.rw_soldwhole_k33_level_papers_of_any_value.Holds := by
  w_on; o_law; k_head; (case hw => w_witness2)
  k_fill
  refine Sw.walkGTK (l := PySem.Challenge.rw_soldwhole_k33_level_papers_of_any_value) (n := 63) (k := 10) (x := "script") (sp := fun K cs => K33.spLaw K (match cs with | p :: _ => p.2 | [] => 0)) rfl (by decide) rfl ⟨rfl, by decide, by decide⟩ (fun w h Y => PySem.W.km_in_of Y) ?F
  case F =>
    intro w mg fa h Y KX G hmg hTab
    refine' K33.end_mk (fun c0 P0 t => hTab "ascending" _ c0 P0 rfl t) (K33.all_mk KX G hmg ?D0 ?D1 ?D2 ?D3 ?D4 ?D5 ?D6 ?D7 ?D8 ?D9 ?D10 ?D11 ?D12 ?D13 ?D14 ?D15 ?D16 ?D17 ?D18 ?D19 ?D20 ?D21 ?D22 ?D23 ?D24 ?D25 ?D26 ?D27 ?D28 ?D29 ?D30 ?D31 ?D32 ?D33 ?D34 ?D35 ?D36 ?D37 ?D38 ?D39 ?D40 ?D41 ?D42 ?D43 ?D44 ?D45 ?D46 ?D47 ?D48 ?D49 ?D50 ?D51 ?D52 ?D53 ?D54 ?D55 ?D56 ?D57 ?D58 ?D59 ?DL ?GC ?GB ?RB ?ZZ ?Z)
    (case D0 => (refine' K33.def_mk KX G ?a ?l ?c ?k; (case a => k_is); (case l => k_is); (case c => k_is); (case k => k_is)))
    (case D1 => (refine' K33.def_mk KX G ?a ?l ?c ?k; (case a => k_is); (case l => k_is); (case c => k_is); (case k => k_is)))
    (case D2 => (refine' K33.def_mk KX G ?a ?l ?c ?k; (case a => k_is); (case l => k_is); (case c => k_is); (case k => k_is)))
    (case D3 => (refine' K33.def_mk KX G ?a ?l ?c ?k; (case a => k_is); (case l => k_is); (case c => k_is); (case k => k_is)))
    (case D4 => (refine' K33.def_mk KX G ?a ?l ?c ?k; (case a => k_is); (case l => k_is); (case c => k_is); (case k => k_is)))
    (case D5 => (refine' K33.def_mk KX G ?a ?l ?c ?k; (case a => k_is); (case l => k_is); (case c => k_is); (case k => k_is)))
    (case D6 => (refine' K33.def_mk KX G ?a ?l ?c ?k; (case a => k_is); (case l => k_is); (case c => k_is); (case k => k_is)))
    (case D7 => (refine' K33.def_mk KX G ?a ?l ?c ?k; (case a => k_is); (case l => k_is); (case c => k_is); (case k => k_is)))
    (case D8 => (refine' K33.defc_mk (P := 101) KX G ?a ?l ?c ?k ?t ?d ?n; (case a => k_is); (case l => k_is); (case c => k_is); (case k => k_is); (case t => kernel_rfl); (case d => kernel_rfl); (case n => kernel_rfl)))
    (case D9 => (refine' K33.def_mk KX G ?a ?l ?c ?k; (case a => k_is); (case l => k_is); (case c => k_is); (case k => k_is)))
    (case D10 => (refine' K33.def_mk KX G ?a ?l ?c ?k; (case a => k_is); (case l => k_is); (case c => k_is); (case k => k_is)))
    (case D11 => (refine' K33.def_mk KX G ?a ?l ?c ?k; (case a => k_is); (case l => k_is); (case c => k_is); (case k => k_is)))
    (case D12 => (refine' K33.def_mk KX G ?a ?l ?c ?k; (case a => k_is); (case l => k_is); (case c => k_is); (case k => k_is)))
    (case D13 => (refine' K33.def_mk KX G ?a ?l ?c ?k; (case a => k_is); (case l => k_is); (case c => k_is); (case k => k_is)))
    (case D14 => (refine' K33.def_mk KX G ?a ?l ?c ?k; (case a => k_is); (case l => k_is); (case c => k_is); (case k => k_is)))
    (case D15 => (refine' K33.def_mk KX G ?a ?l ?c ?k; (case a => k_is); (case l => k_is); (case c => k_is); (case k => k_is)))
    (case D16 => (refine' K33.def_mk KX G ?a ?l ?c ?k; (case a => k_is); (case l => k_is); (case c => k_is); (case k => k_is)))
    (case D17 => (refine' K33.def_mk KX G ?a ?l ?c ?k; (case a => k_is); (case l => k_is); (case c => k_is); (case k => k_is)))
    (case D18 => (refine' K33.def_mk KX G ?a ?l ?c ?k; (case a => k_is); (case l => k_is); (case c => k_is); (case k => k_is)))
    (case D19 => (refine' K33.def_mk KX G ?a ?l ?c ?k; (case a => k_is); (case l => k_is); (case c => k_is); (case k => k_is)))
    (case D20 => (refine' K33.def_mk KX G ?a ?l ?c ?k; (case a => k_is); (case l => k_is); (case c => k_is); (case k => k_is)))
    (case D21 => (refine' K33.def_mk KX G ?a ?l ?c ?k; (case a => k_is); (case l => k_is); (case c => k_is); (case k => k_is)))
    (case D22 => (refine' K33.def_mk KX G ?a ?l ?c ?k; (case a => k_is); (case l => k_is); (case c => k_is); (case k => k_is)))
    (case D23 => (refine' K33.def_mk KX G ?a ?l ?c ?k; (case a => k_is); (case l => k_is); (case c => k_is); (case k => k_is)))
    (case D24 => (refine' K33.def_mk KX G ?a ?l ?c ?k; (case a => k_is); (case l => k_is); (case c => k_is); (case k => k_is)))
    (case D25 => (refine' K33.def_mk KX G ?a ?l ?c ?k; (case a => k_is); (case l => k_is); (case c => k_is); (case k => k_is)))
    (case D26 => (refine' K33.def_mk KX G ?a ?l ?c ?k; (case a => k_is); (case l => k_is); (case c => k_is); (case k => k_is)))
    (case D27 => (refine' K33.def_mk KX G ?a ?l ?c ?k; (case a => k_is); (case l => k_is); (case c => k_is); (case k => k_is)))
    (case D28 => (refine' K33.def_mk KX G ?a ?l ?c ?k; (case a => k_is); (case l => k_is); (case c => k_is); (case k => k_is)))
    (case D29 => (refine' K33.def_mk KX G ?a ?l ?c ?k; (case a => k_is); (case l => k_is); (case c => k_is); (case k => k_is)))
    (case D30 => (refine' K33.def_mk KX G ?a ?l ?c ?k; (case a => k_is); (case l => k_is); (case c => k_is); (case k => k_is)))
    (case D31 => (refine' K33.def_mk KX G ?a ?l ?c ?k; (case a => k_is); (case l => k_is); (case c => k_is); (case k => k_is)))
    (case D32 => (refine' K33.def_mk KX G ?a ?l ?c ?k; (case a => k_is); (case l => k_is); (case c => k_is); (case k => k_is)))
    (case D33 => (refine' K33.def_mk KX G ?a ?l ?c ?k; (case a => k_is); (case l => k_is); (case c => k_is); (case k => k_is)))
    (case D34 => (refine' K33.def_mk KX G ?a ?l ?c ?k; (case a => k_is); (case l => k_is); (case c => k_is); (case k => k_is)))
    (case D35 => (refine' K33.def_mk KX G ?a ?l ?c ?k; (case a => k_is); (case l => k_is); (case c => k_is); (case k => k_is)))
    (case D36 => (refine' K33.def_mk KX G ?a ?l ?c ?k; (case a => k_is); (case l => k_is); (case c => k_is); (case k => k_is)))
    (case D37 => (refine' K33.def_mk KX G ?a ?l ?c ?k; (case a => k_is); (case l => k_is); (case c => k_is); (case k => k_is)))
    (case D38 => (refine' K33.def_mk KX G ?a ?l ?c ?k; (case a => k_is); (case l => k_is); (case c => k_is); (case k => k_is)))
    (case D39 => (refine' K33.def_mk KX G ?a ?l ?c ?k; (case a => k_is); (case l => k_is); (case c => k_is); (case k => k_is)))
    (case D40 => (refine' K33.def_mk KX G ?a ?l ?c ?k; (case a => k_is); (case l => k_is); (case c => k_is); (case k => k_is)))
    (case D41 => (refine' K33.def_mk KX G ?a ?l ?c ?k; (case a => k_is); (case l => k_is); (case c => k_is); (case k => k_is)))
    (case D42 => (refine' K33.def_mk KX G ?a ?l ?c ?k; (case a => k_is); (case l => k_is); (case c => k_is); (case k => k_is)))
    (case D43 => (refine' K33.def_mk KX G ?a ?l ?c ?k; (case a => k_is); (case l => k_is); (case c => k_is); (case k => k_is)))
    (case D44 => (refine' K33.def_mk KX G ?a ?l ?c ?k; (case a => k_is); (case l => k_is); (case c => k_is); (case k => k_is)))
    (case D45 => (refine' K33.def_mk KX G ?a ?l ?c ?k; (case a => k_is); (case l => k_is); (case c => k_is); (case k => k_is)))
    (case D46 => (refine' K33.def_mk KX G ?a ?l ?c ?k; (case a => k_is); (case l => k_is); (case c => k_is); (case k => k_is)))
    (case D47 => (refine' K33.def_mk KX G ?a ?l ?c ?k; (case a => k_is); (case l => k_is); (case c => k_is); (case k => k_is)))
    (case D48 => (refine' K33.def_mk KX G ?a ?l ?c ?k; (case a => k_is); (case l => k_is); (case c => k_is); (case k => k_is)))
    (case D49 => (refine' K33.def_mk KX G ?a ?l ?c ?k; (case a => k_is); (case l => k_is); (case c => k_is); (case k => k_is)))
    (case D50 => (refine' K33.def_mk KX G ?a ?l ?c ?k; (case a => k_is); (case l => k_is); (case c => k_is); (case k => k_is)))
    (case D51 => (refine' K33.def_mk KX G ?a ?l ?c ?k; (case a => k_is); (case l => k_is); (case c => k_is); (case k => k_is)))
    (case D52 => (refine' K33.def_mk KX G ?a ?l ?c ?k; (case a => k_is); (case l => k_is); (case c => k_is); (case k => k_is)))
    (case D53 => (refine' K33.def_mk KX G ?a ?l ?c ?k; (case a => k_is); (case l => k_is); (case c => k_is); (case k => k_is)))
    (case D54 => (refine' K33.def_mk KX G ?a ?l ?c ?k; (case a => k_is); (case l => k_is); (case c => k_is); (case k => k_is)))
    (case D55 => (refine' K33.def_mk KX G ?a ?l ?c ?k; (case a => k_is); (case l => k_is); (case c => k_is); (case k => k_is)))
    (case D56 => (refine' K33.def_mk KX G ?a ?l ?c ?k; (case a => k_is); (case l => k_is); (case c => k_is); (case k => k_is)))
    (case D57 => (refine' K33.def_mk KX G ?a ?l ?c ?k; (case a => k_is); (case l => k_is); (case c => k_is); (case k => k_is)))
    (case D58 => (refine' K33.def_mk KX G ?a ?l ?c ?k; (case a => k_is); (case l => k_is); (case c => k_is); (case k => k_is)))
    (case D59 => (refine' K33.def_mk KX G ?a ?l ?c ?k; (case a => k_is); (case l => k_is); (case c => k_is); (case k => k_is)))
    (case DL => (refine' K33.law_mk KX G ?a ?l ?c ?k; (case a => k_is); (case l => k_is); (case c => k_is); (case k => k_is)))
    (case GC => (refine' K33.gc_mk ?a; (case a => k_is)))
    (case GB => (refine' K33.int_mk ?a; (case a => k_is)))
    (case RB => (refine' K33.int_mk ?a; (case a => k_is)))
    (case ZZ => (refine' K33.tup_mk KX G ?qP ?qR; (case qP => k_is); (case qR => k_is)))
    (case Z => (refine' K33.bte_mk ?z0 ?z1 ?z2 ?z3 ?z4 ?z5 ?z6 ?z7 ?z8 ?z9 ?z10 ?z11 ?z12 ?z13 ?z14 ?z15 ?z16; (case z0 => k_is); (case z1 => k_is); (case z2 => k_is); (case z3 => k_is); (case z4 => k_is); (case z5 => k_is); (case z6 => k_is); (case z7 => k_is); (case z8 => k_is); (case z9 => k_is); (case z10 => k_is); (case z11 => k_is); (case z12 => k_is); (case z13 => k_is); (case z14 => k_is); (case z15 => k_is); (case z16 => k_is)))
