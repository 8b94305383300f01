import PyProof.Rows.All
import Wide.All
import OpenK.AllK
import Wide.FinOn
import KE.KStateDown
import KE.KExcIs
import HandS.ForMost
import HandS.Exc
import HandS.ExcOwn
import HandS.ExcCtx
import HandS.ExcInit
import HandS.ExcField
import HandS.HotCalls
import HandS.WordsExc
import HandS.IsInst
import HandS.Conv
import HandS.Defaults
import HandS.Evl
import HandS.Head0
import HandS.Head1
import HandS.Head2
import HandS.HeadEnd
import HandS.HeadHook1
import HandS.HeadHook2
import HandS.ClsMeth
import HandS.ExcInitHot
import HandS.OwnEq
import HandS.HeadNt
import HandS.NoneIn
import HandS.Text
import HandS.Steps
import HandS.Strs
import HandS.TupAny
import HandS.Deep
import PyProof.FString3
import PyProof.Rows.StrIntSpec
import HandS.RaiseMore
import KE.KCallOwn
import PyProof.ListRange
import HandS.GenList
import HandS.GenYield
import HandS.Rev
import HandS.SetBool
import HandS.TupSets
import PyProof.FactsAll.set_2
import PyProof.FactsAll.set_1
import HandS.SetFor
import HandS.MakeKwOnly
import HandS.TryOnly
import HandS.TupLe
import HandS.Nested
import KE.KSuper
import PySem.Challenge.RW_latelink_k13_whole_modes_keep
set_option Elab.async false
set_option linter.all false
set_option maxRecDepth 100000
set_option maxHeartbeats 4000000
/-! Calls by bundles, own exceptions with fields, raised, caught, asked. -/
namespace G
open PySem PySem.Spec PyProof.Rows L2
/-! ### a def, a method of the text, ready to be called -/
structure Cal (P : Program) (w : World) (K : PySem.W.Frag) (mg : Str → Option Value) (base : Heap) (k : Nat) (x : Str) (ps : List Str) (sp : Sp) : Prop where
  ex : ∃ (f : Addr) (fd : FuncData), FnOk P w K mg base (L2N.CX P w) k f fd ps sp ∧ mg x = some (.ref f) ∧ PySem.W.keepIn K (.ref f) = true ∧ Binds K fd ps []
structure Met (P : Program) (w : World) (K : PySem.W.Frag) (mg : Str → Option Value) (base : Heap) (k : Nat) (C : Addr) (m : Str) (ps : List Str) (sp : Sp) : Prop where
  ex : ∃ (f : Addr) (fd : FuncData), FnOk P w K mg base (L2N.CX P w) k f fd ps sp ∧ Meth K C m f ∧ Binds K fd ps []
structure Mak (P : Program) (w : World) (K : PySem.W.Frag) (mg : Str → Option Value) (base : Heap) (k : Nat) (x : Str) (C : Addr) (ps : List Str) (sp : Sp) : Prop where
  ex : ∃ (f : Addr) (fd : FuncData), FnOk P w K mg base (L2N.CX P w) k f fd ps sp ∧ Mk K C f ∧ mg x = some (.ref C) ∧ Binds K fd ps []
section
variable {X : Cx} {j k : Nat} {x m : Str} {ps : List Str} {sp : Sp} {E : XK} {C : Addr} {p pos apos : Pos} {e o : Expr} {es : List Expr} {t : TA} {ta : TE}
/-- f(..): what leaves it as an exception is wished for by E -/
def tCl (sp : Sp) (E : L2.St → XK) (t : TA) : TE := fun σ H Q => t σ H fun vs H1 => sp vs H1 Q (E σ)
def tMt (C : Addr) (m : Str) (sp : Sp) (E : L2.St → XK) (ta : TE) (t : TA) : TE := fun σ H Q => ta σ H fun x H1 => ∃ a dx fs, x = .ref a ∧ H1 a = some (.ins C dx fs) ∧ fs.lookup m = none ∧ t σ H1 fun vs H2 => sp (x :: vs) H2 Q (E σ)
def tMk (C : Addr) (sp : Sp) (E : L2.St → XK) (t : TA) : TE := fun σ H Q => t σ H fun vs H1 => ∀ x dx, H1 x = none → H1 dx = none → dx ≠ x → sp (.ref x :: vs) (upd (upd H1 dx (.own x)) x (.ins C dx [])) (fun v H2 => v = .non ∧ Q (.ref x) H2) (E σ)
abbrev PAt (X : Cx) (E : L2.St → XK) : Prop := ∀ σ, PassesAt (L2N.CX X.prog X.w) X σ (E σ)
theorem pat_of {X : Cx} {W : WX} (tk : L2N.Takes X W) : PAt X (WE W) := fun σ => L2N.passAt tk σ
/-- where nothing may be let out -/
theorem pat_no {X : Cx} : PAt X (fun _ => L2.E0) := fun σ pins H s e s' I c => by
  obtain ⟨_, _, _, _, _, _, _, _, _, _, _, _, z⟩ := c
  exact z.elim
variable {E : L2.St → XK}
theorem pe_cl (c : Cal X.prog X.w X.K X.mg X.base k x ps sp) (hr : Room j X.A) (hk : k ≤ j) (hx : PAt X E) (ha : PA X (e :: es) t) (hg : Gl X x := by rfl) (hdb : (x == ("__debug__" : Str)) = false := by decide)
    (he : starEach (e :: es) X.env = (false, eval e X.env) :: starEach es X.env := by rfl) (hpl : (backTo pos (starEach es X.env)).any (·.1) = false := by rfl) : PE X (.Call (.Name x p) (e :: es) [] pos) (tCl sp E t) := by
  obtain ⟨f, fd, F, hm, kp, hb⟩ := c.ex
  refine ⟨fun pins s σ H Q I h => ?_⟩
  exact (pe_callS (E := E) F (hr.mono hk) hg hm kp hb hx ha hdb he hpl).run pins s σ H Q I h
theorem pe_cl0 (c : Cal X.prog X.w X.K X.mg X.base k x ps sp) (hr : Room j X.A) (hk : k ≤ j) (hx : PAt X E) (hg : Gl X x := by rfl) (hdb : (x == ("__debug__" : Str)) = false := by decide) : PE X (.Call (.Name x p) [] [] pos) (tCl sp E tNil) := by
  obtain ⟨f, fd, F, hm, kp, hb⟩ := c.ex
  refine ⟨fun pins s σ H Q I h => wpAny_Call_Name_kw (ld_glob I hg hm ?_ hdb)⟩
  exact PySem.W.callWith_K0 I.kIn kp (run_fnS (E := E) (us := []) (vs := []) F (hr.mono hk) hb (hx σ) I .nil h)
theorem pe_mt {pl : Sem Bool} (c : Met X.prog X.w X.K X.mg X.base k C m ps sp) (cl : Cls X.K C) (hr : Room j X.A) (hk : k ≤ j) (hx : PAt X E) (he : PE X o ta) (ha : PA X (e :: es) t)
    (hst : starEach (e :: es) X.env = (false, eval e X.env) :: starEach es X.env := by rfl) (hpl : (backTo pos (starEach es X.env)).any (·.1) = false := by rfl)
    (ht : eval (.Call (.Attribute o m apos) (e :: es) [] pos) X.env = (do
      let ov ← eval o X.env
      standAt apos.atName
      let (f, first) ← holding [ov] (getMethod ov m pl)
      callWith pos f first (backTo pos (starEach (e :: es) X.env)) (backToKw pos (keywordEach [] X.env))) := by rfl) : PE X (.Call (.Attribute o m apos) (e :: es) [] pos) (tMt C m sp E ta t) := by
  obtain ⟨f, fd, F, hm, hb⟩ := c.ex
  refine ⟨fun pins s σ H Q I h => PySem.W.methodCall_KW (pl := pl) (thn (he.run pins s σ H _ I h) fun u s1 hh => ?_) ht⟩
  obtain ⟨x, H1, I1, rx, a, dx, fs, ex, ea, l, q⟩ := hh
  subst ex
  obtain rfl : u = Value.ref a := rx
  refine getmeth_ok I1 ea cl hm l (PySem.W.callWith_K (first := [.ref a]) (h₀ := X.base) I.ok.mod.kin hm.kp (thn (ha.run pos pins s1 σ H1 _ I1 q) fun us s2 hh => ?_) hst hpl)
  obtain ⟨vs, H2, I2, r, q2⟩ := hh
  exact ⟨I2.kIn, run_fnS (us := .ref a :: us) (vs := .ref a :: vs) F (hr.mono hk) hb (hx σ) I2 (.cons rfl r) q2⟩
theorem pe_mt0 {pl : Sem Bool} (c : Met X.prog X.w X.K X.mg X.base k C m ps sp) (cl : Cls X.K C) (hr : Room j X.A) (hk : k ≤ j) (hx : PAt X E) (he : PE X o ta)
    (ht : eval (.Call (.Attribute o m apos) [] [] pos) X.env = (do
      let ov ← eval o X.env
      standAt apos.atName
      let (f, first) ← holding [ov] (getMethod ov m pl)
      callWith pos f first (backTo pos (starEach [] X.env)) (backToKw pos (keywordEach [] X.env))) := by rfl) : PE X (.Call (.Attribute o m apos) [] [] pos) (tMt C m sp E ta tNil) := by
  obtain ⟨f, fd, F, hm, hb⟩ := c.ex
  refine ⟨fun pins s σ H Q I h => PySem.W.methodCall_KW (pl := pl) (thn (he.run pins s σ H _ I h) fun u s1 hh => ?_) ht⟩
  obtain ⟨x, H1, I1, rx, a, dx, fs, ex, ea, l, q⟩ := hh
  subst ex
  obtain rfl : u = Value.ref a := rx
  refine getmeth_ok I1 ea cl hm l ?_
  exact PySem.W.callWith_K0 (first := [.ref a]) I1.kIn hm.kp (run_fnS (us := [.ref a]) (vs := [.ref a]) F (hr.mono hk) hb (hx σ) I1 (.cons rfl .nil) q)
/-- an instance is made, what its __init__ lets out is wished for at the slots σ -/
theorem run_mk {pn : List (Addr × Obj)} {τ : L2.St} {H0 : Hp} {sh : Shared} {R : VK} {f : Addr} {fd : FuncData} {uu : List Value} {vv : List V} (M : Mk X.K C f) (F : FnOk X.prog X.w X.K X.mg X.base (L2N.CX X.prog X.w) k f fd ps sp)
    (hr : Room (k + 1) X.A) (hb : Binds X.K fd ps []) (hx : PAt X E) (I : Inv X pn τ H0 sh) (r : Vals vv uu)
    (h : ∀ x dx, H0 x = none → H0 dx = none → dx ≠ x → sp (.ref x :: vv) (upd (upd H0 dx (.own x)) x (.ins C dx [])) (fun v H2 => v = .non ∧ R (.ref x) H2) (E τ)) :
    wpAny (model X.prog X.w) X.A (call (.ref C) uu) (EP X pn τ R) X.xe sh := by
  have q0 := h (sh.heap.objs.size + 1) sh.heap.objs.size (I.hok.fresh (Nat.le_succ _)) (I.hok.fresh (Nat.le_refl _)) (Nat.ne_of_lt (Nat.lt_succ_self _))
  have J := Inv.made (C := C) I
  have rr : Vals (V.ref (sh.heap.objs.size + 1) :: vv) (Value.ref (sh.heap.objs.size + 1) :: uu) := .cons rfl r
  have ln : (Value.ref (sh.heap.objs.size + 1) :: uu ++ []).length = ps.length := by
    rw [List.append_nil, ← rr.length]
    exact F.len _ _ _ _ q0
  have bb := hb _ (Value.ref (sh.heap.objs.size + 1) :: uu) J.kIn ln
  rw [List.append_nil] at bb
  have go := F.run _ X.stack _ _ ⟨Value.ref (sh.heap.objs.size + 1) :: uu, []⟩ _ _ _ (E τ) (hr.make C uu []) (J.env0.make C uu []) bb rr q0
  refine wpAny_call (make_map (f := f) I.kIn M.makes M.init (beq_iff_eq.mp M.fn) (codeAny_mono go fun rs s2 w => ?_))
  cases rs with
  | error er => exact hx τ pn _ _ er s2 J w
  | ok fl =>
    cases fl with
    | ret u =>
      obtain ⟨v, H2, J2, rv, ev, w2⟩ := J.after w
      subst ev
      exact ⟨rv, V.ref (sh.heap.objs.size + 1), H2, J2, rfl, w2⟩
    | next => exact w.elim
    | brk => exact w.elim
    | cont => exact w.elim
theorem pe_mk (c : Mak X.prog X.w X.K X.mg X.base k x C ps sp) (hr : Room j X.A) (hk : k + 1 ≤ j) (hx : PAt X E) (ha : PA X (e :: es) t) (hg : Gl X x := by rfl) (hdb : (x == ("__debug__" : Str)) = false := by decide)
    (he : starEach (e :: es) X.env = (false, eval e X.env) :: starEach es X.env := by rfl) (hpl : (backTo pos (starEach es X.env)).any (·.1) = false := by rfl) : PE X (.Call (.Name x p) (e :: es) [] pos) (tMk C sp E t) := by
  obtain ⟨f, fd, F, M, hm, hb⟩ := c.ex
  refine ⟨fun pn s τ H Q I h => wpAny_Call_Name_kw (ld_glob I hg hm ?_ hdb)⟩
  refine PySem.W.callWith_K (h₀ := X.base) I.ok.mod.kin M.kp (thn (ha.run pos pn s τ H _ I h) fun us s1 hh => ?_) he hpl
  obtain ⟨vs, H1, I1, r, q⟩ := hh
  exact ⟨I1.kIn, run_mk M F (hr.mono hk) hb hx I1 r q⟩
end
/-! ### calls where an exception is handled -/
/-! ### own exceptions with fields -/
/-- what a class of errors must be for its instances to be asked and read -/
structure ExK (K : PySem.W.Frag) (C : Addr) : Prop where
  cl : (PySem.W.clsIn K C).isSome = true
  ga : PySem.W.findIn K (.ref C) "__getattribute__" = some (some (.builtin "BaseException.__getattribute__"))
  gg : PySem.W.findIn K (.ref C) "__getattr__" = some none
  be : PySem.W.subIn K (.ref C) (.type "BaseException") = some true
  hd : PySem.W.hasDictIn K C = true
  cc : PySem.W.findIn K (.ref C) "__class__" = some (some (.builtin "object.__class__"))
  gs : PySem.W.specialIn K (.builtin "object.__class__") "__get__" = some (some (.builtin "getset_descriptor.__get__"))
  tk : PySem.W.takesIn K (.builtin "object.__class__") = some true
  mo : PySem.W.mroIn K C (.type "object") = some true
end G
set_option Elab.async false
set_option linter.all false
set_option maxRecDepth 100000
set_option maxHeartbeats 4000000
/-! Own errors made and raised where nothing is handled. -/
namespace G
open PySem PySem.Spec PyProof.Rows L2
/-- what an error's __init__ leaves: its fields fs hold the values us -/
def spIn (K : PySem.W.Frag) (fs : List Str) : Sp := fun vs H Q _ => ∃ (a C : Addr) (us : List V), vs = .ref a :: us ∧ us.length = fs.length ∧ OexC K C ∧ (∀ f ∈ fs, PySem.W.findIn K (.ref C) f = some none) ∧ H a = some (exo a C none) ∧
  ∀ (dx : Addr) (H' : Hp), H dx = none → dx ≠ a → H' a = some (exo a C (some dx)) → H' dx = some (exd dx (fs.zip us).reverse) → (∀ b, b ≠ a → b ≠ dx → H' b = H b) → Q .non H'
theorem spIn_len {K : PySem.W.Frag} {fs ps : List Str} (h : ps.length = fs.length + 1) : ∀ vs H Q E, spIn K fs vs H Q E → vs.length = ps.length := by
  rintro vs H Q E ⟨a, C, us, rfl, hl, _⟩
  rw [h, List.length_cons, hl]
/-- an own class of errors -/
structure ExM (P : Program) (w : World) (K : PySem.W.Frag) (mg : Str → Option Value) (base : Heap) (k : Nat) (x : Str) (C : Addr) (fs : List Str) : Prop where
  oex : OexC K C
  no : ∀ f ∈ fs, PySem.W.findIn K (.ref C) f = some none
  gl : mg x = some (.ref C)
  ex : ∃ (fI : Addr) (fd : FuncData) (ps : List Str), FnOk P w K mg base (L2N.CX P w) k fI fd ps (spIn K fs) ∧ PySem.W.findIn K (.ref C) "__init__" = some (some (.ref fI)) ∧ PySem.W.typeIn K (.ref fI) = some (.type "function") ∧ Binds K fd ps []
theorem heap_mk {H H2 : Hp} {a d : Addr} {o : HO} (ha : H a = none) (hd : d ≠ a) (k : ∀ b, b ≠ a → b ≠ d → H2 b = H b) : upd (del H2 a) d o = upd H d o := by
  funext b
  by_cases hb : b = d
  · rw [hb, upd_same, upd_same]
  · rw [upd_ne hb, upd_ne hb]
    by_cases hba : b = a
    · rw [hba, del_same, ha]
    · rw [del_ne hba, k b hba hb]
theorem mk_go {K : PySem.W.Frag} {C : Addr} {fs : List Str} {us : List V} {H : Hp} {Q : XK} (T : OexC K C) (hf : ∀ f ∈ fs, PySem.W.findIn K (.ref C) f = some none) (hl : us.length = fs.length) (h : ∀ d, H d = none → Q (.ref C) (some d) (upd H d (.xd (fs.zip us).reverse))) :
    ∀ a, H a = none → spIn K fs (.ref a :: us) (upd H a (exo a C none)) (fun v H2 => v = .non ∧ ∃ (d : Addr) (gs : List (Str × V)), H2 a = some (exo a C (some d)) ∧ H2 d = some (exd d gs) ∧ H d = none ∧ Q (.ref C) (some d) (upd (del H2 a) d (.xd gs))) (fun _ _ _ => False) := by
  intro a ha
  refine ⟨a, C, us, rfl, hl, T, hf, upd_same, fun dx H' nd ne e1 e2 k => ⟨rfl, dx, _, e1, e2, ?_, ?_⟩⟩
  · rw [upd_ne ne] at nd
    exact nd
  · have nd' : H dx = none := by
      rw [upd_ne ne] at nd
      exact nd
    rw [heap_mk ha ne fun b h1 h2 => (k b h1 h2).trans (upd_ne h1)]
    exact h dx nd'
/-- x(e, ..), x a class of errors -/
def tRz (C : Addr) (fs : List Str) (W : WX) (ta : TA) : TS := fun _ σ H => ta σ H fun us H1 => us.length = fs.length ∧ us.length ≤ 1000 ∧ ∀ d, H1 d = none → W (.ref C) (some d) σ (upd H1 d (.xd (fs.zip us).reverse))
section
variable {X : Cx} {j k : Nat} {x : Str} {C : Addr} {fs : List Str} {p pos pos2 : Pos} {e : Expr} {es : List Expr} {ta : TA}
theorem pmk_x (c : ExM X.prog X.w X.K X.mg X.base k x C fs) (hr : Room j X.A) (hk : k + 1 ≤ j) (ha : PA X (e :: es) ta) (hg : Gl X x) (hdb : (x == ("__debug__" : Str)) = false)
    (he : starEach (e :: es) X.env = (false, eval e X.env) :: starEach es X.env) (hpl : (backTo pos (starEach es X.env)).any (·.1) = false) :
    L2N.PMk X (.Call (.Name x p) (e :: es) [] pos) (fun σ H Q => ta σ H fun us H1 => us.length = fs.length ∧ us.length ≤ 1000 ∧ ∀ d, H1 d = none → Q (.ref C) (some d) (upd H1 d (.xd (fs.zip us).reverse))) := by
  obtain ⟨T, hno, hm, fI, fd, ps, F1, iC, tI, hb⟩ := c
  intro pn s τ H Q I h
  obtain ⟨nm, qn, N, bs, bm, sn, sub, ab, col, dd, k0, k1, k2, k3, k5, hC, hbm⟩ := T.cls
  refine wpAny_Call_Name_kw (ld_glob I hg hm (PySem.W.callWith_K (h₀ := X.base) I.ok.mod.kin T.kC (thn (ha.run pos pn s τ H _ I h) fun us s1 hh => ?_) he hpl) hdb)
  obtain ⟨vs, H1, I1, r1, hl, hz, q1⟩ := hh
  refine ⟨I1.kIn, ?_⟩
  obtain ⟨hp, g, dr, tk, os⟩ := s1
  show wpAny _ _ (call (.ref C) us) _ _ _
  have hle := Nat.le_succ hp.objs.size
  have hn : H1 (hp.objs.size + 1) = none := I1.hok.fresh hle
  have hq := mk_go (Q := Q) T hno hl q1 (hp.objs.size + 1) hn
  have up : ∀ b o, hp.get? b = some o → ((hp.push (PySem.W.kdv_tup us)).push (PySem.HandSPX.excO C hp.objs.size)).get? b = some o := fun b o z => Heap.get?_push_of_some _ (Heap.get?_push_of_some _ z)
  have new : ((hp.push (PySem.W.kdv_tup us)).push (PySem.HandSPX.excO C hp.objs.size)).get? (hp.objs.size + 1) = some (PySem.HandSPX.excO C hp.objs.size) := by heap_get
  have J := I1.laid (t' := tk) (a := hp.objs.size + 1) (o := exo (hp.objs.size + 1) C none) up hle (exo_ok new)
  have rr : Vals (V.ref (hp.objs.size + 1) :: vs) (Value.ref (hp.objs.size + 1) :: us) := .cons rfl r1
  have ln : (Value.ref (hp.objs.size + 1) :: us ++ []).length = ps.length := by
    rw [List.append_nil, ← rr.length]
    exact F1.len _ _ _ _ hq
  have bb := hb _ (Value.ref (hp.objs.size + 1) :: us) J.kIn ln
  rw [List.append_nil] at bb
  have sz : us.length ≤ sizeLine := by
    rw [← r1.length, sizeLine_eq]
    omega
  have hr' : Room (k + 1) X.A := hr.mono hk
  have go := F1.run _ X.stack _ _ ⟨Value.ref (hp.objs.size + 1) :: us, []⟩ _ _ _ _ (hr'.make C us []) (J.env0.make C us []) bb rr hq
  refine wpAny_call (PySem.HandSPX.call_own F.excBase_ValueError (fun Y => PySem.HandSPX.refsVE_contains Y bm hbm) (I1.kIn _ _ hC) (PySem.W.looks_findIn I1.kIn iC) (fun self => PySem.W.bind_fn I1.kIn self tI) sz (codeAny_mono go fun rs s2 w => ?_))
  cases rs with
  | error er =>
    obtain ⟨_, _, _, _, _, _, _, _, _, _, _, _, z⟩ := w
    exact z.elim
  | ok fl =>
    cases fl with
    | ret u =>
      obtain ⟨v, H2, os2, ba, un, hok, rv, ev, d, gs, ea, ed, hd1, q2⟩ := w
      subst ev
      obtain ⟨h2, g2, d2, t2, os'⟩ := s2
      obtain ⟨t0, HG, J2, kG, ge, hoe, na⟩ := mk_end0 (d2 := d2) (t2 := t2) I1 hle up un hok os2 ba ea ed hd1
      exact ⟨rv, hp.objs.size + 1, _, _, ⟨HG, g2, d2, t2, os'⟩, _, .ref C, some d, rfl, J2, kG, ge, hoe, ⟨rfl, rfl, fun zs hv => by cases hv; rfl⟩, rfl, rfl, na, rfl, ba, raises_own T.exC T.tyC, q2⟩
    | next => exact w.elim
    | brk => exact w.elim
    | cont => exact w.elim
/-- raise x(e, ..) -/
theorem ps_rz {W : WX} (c : ExM X.prog X.w X.K X.mg X.base k x C fs) (hc : X.calm = true) (tk : L2N.Takes X W) (hr : Room j X.A) (hk : k + 1 ≤ j) (ha : PA X (e :: es) ta) (hg : Gl X x := by rfl) (hdb : (x == ("__debug__" : Str)) = false := by decide)
    (he : starEach (e :: es) X.env = (false, eval e X.env) :: starEach es X.env := by rfl) (hpl : (backTo pos (starEach es X.env)).any (·.1) = false := by rfl) : PS X (.Raise (some (.Call (.Name x p) (e :: es) [] pos)) none pos2) (tRz C fs W ta) :=
  L2N.ps_raise hc tk (pmk_x c hr hk ha hg hdb he hpl)
end
/-! ### the __init__ of one field, of two -/
theorem ini1 {K : PySem.W.Frag} {f : Str} {vs : List V} {H : Hp} {Q : VK} {E : XK} {N : List Str} (hN : N.length = 2) (h : spIn K [f] vs H Q E) : (tOst K f (tVar 0) (tVar 1)) { nx := fun _ H' => Q .non H', rt := Q } (start N vs) H := by
  obtain ⟨a, C, us, rfl, hl, T, hno, ha, q⟩ := h
  match us, hl with
  | [v], _ =>
    match N, hN with
    | [_, _], _ =>
      refine ⟨_, rfl, _, rfl, a, C, rfl, T, hno f (List.mem_singleton.mpr rfl), Or.inl ⟨ha, fun dx hd ne => ?_⟩⟩
      refine q dx _ hd ne upd_same ?_ fun b h1 h2 => ?_
      · rw [upd_ne ne, upd_same] <;> rfl
      · rw [upd_ne h1, upd_ne h2]
theorem ini2 {K : PySem.W.Frag} {f g : Str} {vs : List V} {H : Hp} {Q : VK} {E : XK} {N : List Str} (hN : N.length = 3) (h : spIn K [f, g] vs H Q E) :
    (tSeq (tOst K f (tVar 0) (tVar 1)) (tOst K g (tVar 0) (tVar 2))) { nx := fun _ H' => Q .non H', rt := Q } (start N vs) H := by
  obtain ⟨a, C, us, rfl, hl, T, hno, ha, q⟩ := h
  match us, hl with
  | [v, v2], _ =>
    match N, hN with
    | [_, _, _], _ =>
      refine ⟨_, rfl, _, rfl, a, C, rfl, T, hno f List.mem_cons_self, Or.inl ⟨ha, fun dx hd ne => ?_⟩⟩
      refine ⟨_, rfl, _, rfl, a, C, rfl, T, hno g (List.mem_cons_of_mem _ List.mem_cons_self), Or.inr ⟨dx, [(f, v)], upd_same, ?_, by show 1 ≤ 900; decide, ?_⟩⟩
      · rw [upd_ne ne, upd_same]
      · refine q dx _ hd ne ?_ upd_same fun b h1 h2 => ?_
        · rw [upd_ne (Ne.symm ne), upd_same]
        · rw [upd_ne h2, upd_ne h1, upd_ne h2]
end G
set_option Elab.async false
set_option linter.all false
set_option maxRecDepth 100000
set_option maxHeartbeats 4000000
/-! Operators that take what comes, and the steps of a reading, from the front. -/
namespace G
open PySem PySem.Spec PyProof.Rows L2
/-! ### operators by values -/
def rAddA : R2 := fun x y H Q => (∃ i j, x = .int i ∧ y = .int j ∧ Q (.int (i + j)) H) ∨ (∃ i j : Str, x = .str i ∧ y = .str j ∧ i.length + j.length ≤ sizeLine ∧ Q (.str (i ++ j)) H) ∨ rCat x y H Q
def rMulA : R2 := fun x y H Q => (∃ i j, x = .int i ∧ y = .int j ∧ CMul i j ∧ Q (.int (i * j)) H) ∨ rRep x y H Q
def rEqA (K : PySem.W.Frag) : R2 := fun x y H Q => rEq x y H Q ∨ rEqD K x y H Q
def rNeA (K : PySem.W.Frag) : R2 := fun x y H Q => rNe x y H Q ∨ rNeD K x y H Q
def rLenA (K : PySem.W.Frag) : List V → Hp → VK → Prop := fun xs H Q => ∃ x n, xs = [x] ∧ LenV K x H n ∧ Q (.int n) H
def rListA (K : PySem.W.Frag) : List V → Hp → VK → Prop := fun xs H Q => ∃ p ys, xs = [.ref p] ∧ (SqL K H p ys ∨ SqT K H p ys) ∧ ∀ l, H l = none → Q (.ref l) (upd H l (.lst ys))
def rIntA : List V → Hp → VK → Prop := fun xs H Q => (∃ i, xs = [.int i] ∧ Q (.int i) H) ∨ ∃ k, xs = [.bl k] ∧ Q (.int (if k then 1 else 0)) H
def rAbsA : List V → Hp → VK → Prop := fun xs H Q => ∃ i, xs = [.int i] ∧ Q (.int (if i < 0 then -i else i)) H
def rMin2A : List V → Hp → VK → Prop := fun xs H Q => ∃ i j, xs = [.int i, .int j] ∧ Q (.int (if j < i then j else i)) H
def rMax2A : List V → Hp → VK → Prop := fun xs H Q => ∃ i j, xs = [.int i, .int j] ∧ Q (.int (if j > i then j else i)) H
def rIsNA : R2 := fun x y H Q => y = .non ∧ Q (.bl (decide (x = .non))) H
def rNotNA : R2 := fun x y H Q => y = .non ∧ Q (.bl (!decide (x = .non))) H
abbrev rSubA : R2 := rI0 fun i j => .int (i - j)
abbrev rModA : R2 := rI (fun _ j => 0 < j) fun i j => .int (i % j)
abbrev rDivA : R2 := rI CDiv fun i j => .int (i / j)
abbrev rPowA : R2 := rI CPow fun i j => .int (i ^ j.toNat)
abbrev rLtA : R2 := rI0 fun i j => .bl (decide (i < j))
abbrev rLeA : R2 := rI0 fun i j => .bl (decide (i ≤ j))
abbrev rGtA : R2 := rI0 fun i j => .bl (decide (j < i))
abbrev rGeA : R2 := rI0 fun i j => .bl (decide (j ≤ i))
abbrev rNegA : V → Hp → VK → Prop := rU fun i => .int (-i)
section
variable {X : Cx}
theorem op_addA : OpR X (binaryOp .Add) rAddA := OpR.or op_add (OpR.or op_add_str op_cat)
theorem op_mulA : OpR X (binaryOp .Mult) rMulA := OpR.or op_mul op_rep
theorem op_eqA {k : Nat} (hr : Room k X.A) : OpR X (compareOp .Eq) (rEqA X.K) := OpR.or op_eq (op_eqD hr.units)
theorem op_neA {k : Nat} (hr : Room k X.A) : OpR X (compareOp .NotEq) (rNeA X.K) := OpR.or op_ne (op_neD hr.units)
theorem call_lenA : CallR X (.builtin "len") (rLenA X.K) := call_len
theorem call_listA : CallR X (.type "list") (rListA X.K) := call_list_of
theorem call_intA : CallR X (.type "int") rIntA := call_int1
theorem call_absA : CallR X (.builtin "abs") rAbsA := call_abs
theorem call_min2A (hc : X.calm = true) : CallR X (.builtin "min") rMin2A := call_min2 hc
theorem call_max2A (hc : X.calm = true) : CallR X (.builtin "max") rMax2A := call_max2 hc
end
/-! ### what frames a step: all that was tracked but the addresses of S -/
def Kp (S : List Addr) (H H' : Hp) : Prop := ∀ b o, b ∉ S → H b = some o → H' b = some o
theorem Kp.refl (S : List Addr) (H : Hp) : Kp S H H := fun _ _ _ h => h
theorem Kp.trans {S : List Addr} {H H1 H2 : Hp} (a : Kp S H H1) (b : Kp S H1 H2) : Kp S H H2 := fun c o n h => b c o n (a c o n h)
theorem Kp.mono {S S' : List Addr} {H H1 : Hp} (a : Kp S H H1) (h : ∀ b ∈ S, b ∈ S') : Kp S' H H1 := fun c o n e => a c o (fun z => n (h c z)) e
theorem Kp.all {S : List Addr} {H H1 : Hp} (a : Kp [] H H1) : Kp S H H1 := fun c o _ e => a c o (by simp) e
theorem Kp.new {S : List Addr} {H : Hp} {p : Addr} {o : HO} (n : H p = none) : Kp S H (upd H p o) := fun b u _ e => by
  rw [upd_ne (ne_of_none e n)]
  exact e
theorem Kp.put {S : List Addr} {H : Hp} {p : Addr} {o : HO} (h : p ∈ S) : Kp S H (upd H p o) := fun b u n e => by
  have ne : b ≠ p := fun z => n (by rw [z]; exact h)
  rw [upd_ne ne]
  exact e
/-- an object that H does not know may change -/
theorem Kp.mut {S : List Addr} {H H1 : Hp} {p : Addr} {o : HO} (e : Kp S H H1) (n : H p = none) : Kp S H (upd H1 p o) := fun b u h z => by
  rw [upd_ne (ne_of_none z n)]
  exact e b u h z
theorem Kp.at0 {H H' : Hp} {b : Addr} {o : HO} (k : Kp [] H H') (h : H b = some o) : H' b = some o := k b o (by simp) h
theorem Kp.at1 {H H' : Hp} {a b : Addr} {o : HO} (k : Kp [a] H H') (n : b ≠ a) (h : H b = some o) : H' b = some o := k b o (by simpa using n) h
theorem Kp.free {S : List Addr} {H H' : Hp} {b : Addr} (k : Kp S H H') (n : b ∉ S) (h : H' b = none) : H b = none := by
  cases e : H b with
  | none => rfl
  | some o =>
    rw [k b o n e] at h
    cases h
theorem Kp.free0 {H H' : Hp} {b : Addr} (k : Kp [] H H') (h : H' b = none) : H b = none := k.free (by simp) h
theorem Kp.sql {S : List Addr} {K : PySem.W.Frag} {H H' : Hp} {a : Addr} {xs : List V} (e : Kp S H H') (n : a ∉ S) (h : SqL K H a xs) : SqL K H' a xs := by
  rcases h with (h | ⟨o, h⟩) | h
  · exact .inl (.inl (e _ _ n h))
  · exact .inl (.inr ⟨o, e _ _ n h⟩)
  · exact .inr h
/-! ### the steps -/
section
variable {K : PySem.W.Frag} {σ : L2.St} {H : Hp} {Q : VK} {ta tb tc te : TE} {t u : TT} {x y v : V} {QB : Bool → Hp → Prop} {QA : List V → Hp → Prop} {D : Ends} {s1 s2 : TS} {tl tr : TA} {i j : Int} {n m : Nat} {p q : Addr} {xs ys : List V}
theorem w_var {k : Nat} (h : σ[k]? = some (some v)) (g : Q v H) : tVar k σ H Q := ⟨v, h, g⟩
theorem w_c (g : Q v H) : tC v σ H Q := g
theorem w_op {r : R2} (g : ta σ H fun x H1 => tb σ H1 fun y H2 => r x y H2 Q) : tOp r ta tb σ H Q := g
theorem w_un {r : V → Hp → VK → Prop} (g : ta σ H fun x H1 => r x H1 Q) : tUn r ta σ H Q := g
theorem w_test (g : te σ H fun x H1 => ∃ k, x = .bl k ∧ QB k H1) : tTest te σ H QB := g
theorem w_tb (g : te σ H fun x H1 => ∃ k, x = .bl k ∧ QB k H1) : tB te σ H QB := g
theorem w_and (g : t σ H fun c H1 => if c = true then u σ H1 QB else QB false H1) : tAnd t u σ H QB := g
theorem w_or (g : t σ H fun c H1 => if c = true then QB true H1 else u σ H1 QB) : tOr t u σ H QB := g
theorem w_not (g : t σ H fun c H1 => QB (!c) H1) : tNot t σ H QB := g
theorem w_andV (g : ta σ H fun x H1 => ∃ c, x = .bl c ∧ if c = true then tb σ H1 Q else Q (.bl false) H1) : tAndV ta tb σ H Q := g
theorem w_orV (g : ta σ H fun x H1 => ∃ c, x = .bl c ∧ if c = true then Q (.bl true) H1 else tb σ H1 Q) : tOrV ta tb σ H Q := g
theorem w_notV (g : ta σ H fun x H1 => ∃ c, x = .bl c ∧ Q (.bl (!c)) H1) : tNotV ta σ H Q := g
theorem w_ifE (g : t σ H fun c H1 => if c = true then ta σ H1 Q else tb σ H1 Q) : tIf t ta tb σ H Q := g
theorem w_chain {r r' : R2} (g : ta σ H fun x H1 => tb σ H1 fun y H2 => r x y H2 fun z H3 => ∃ k, z = .bl k ∧ (if k = true then tc σ H3 fun w' H4 => r' y w' H4 Q else Q (.bl false) H3)) : tChain r r' ta tb tc σ H Q := g
theorem w_nil (g : QA [] H) : tNil σ H QA := g
theorem w_cons (g : ta σ H fun x H1 => tr σ H1 fun xs H2 => QA (x :: xs) H2) : tCons ta tr σ H QA := g
theorem w_cb {r : List V → Hp → VK → Prop} (g : tl σ H fun vs H1 => r vs H1 Q) : tCB r tl σ H Q := g
theorem w_cl {sp : Sp} {E : L2.St → XK} (g : tl σ H fun vs H1 => sp vs H1 Q (E σ)) : tCl sp E tl σ H Q := g
theorem w_bm {T : String} {r : V → List V → Hp → VK → Prop} (g : te σ H fun x H1 => tyV K T x H1 ∧ tl σ H1 fun xs H2 => r x xs H2 Q) : tBM K T r te tl σ H Q := g
theorem w_bm0 {T : String} {r : V → List V → Hp → VK → Prop} (g : te σ H fun x H1 => tyV K T x H1 ∧ r x [] H1 Q) : tBM0 K T r te σ H Q := g
theorem w_fld {f : Str} (g : ta σ H fun x H1 => ∃ a C dx fs v, x = .ref a ∧ H1 a = some (.ins C dx fs) ∧ Cls K C ∧ NoAttr K C f ∧ fs.lookup f = some v ∧ Q v H1) : tFld K ta f σ H Q := g
theorem w_mt {C : Addr} {m : Str} {sp : Sp} {E : L2.St → XK} (g : ta σ H fun x H1 => ∃ a dx fs, x = .ref a ∧ H1 a = some (.ins C dx fs) ∧ fs.lookup m = none ∧ tl σ H1 fun vs H2 => sp (x :: vs) H2 Q (E σ)) : tMt C m sp E ta tl σ H Q := g
theorem w_seq (g : s1 { D with nx := s2 D } σ H) : tSeq s1 s2 D σ H := g
theorem w_next (g : D.nx σ H) : tNext D σ H := g
theorem w_if (g : t σ H fun b H1 => if b = true then s1 D σ H1 else s2 D σ H1) : tIfS t s1 s2 D σ H := g
theorem w_ret (g : te σ H D.rt) : tRet te D σ H := g
theorem w_drop (g : te σ H fun _ H1 => D.nx σ H1) : tDrop te D σ H := g
theorem w_asg {k : Nat} (g : te σ H fun x H1 => D.nx (σ.set k (some x)) H1) : tAsg te (gName k) D σ H := g
theorem w_asgS {to ti : TE} {r : TSet} (g : te σ H fun v H0 => to σ H0 fun o H1 => ti σ H1 fun i H2 => r o i v H2 fun H3 => D.nx σ H3) : tAsg te (gSub to ti r) D σ H := g
theorem w_asf {f : Str} (g : te σ H fun y H1 => ta σ H1 fun x H2 => ∃ a C dx fs, x = .ref a ∧ H2 a = some (.ins C dx fs) ∧ Cls K C ∧ NoAttr K C f ∧ fs.length < 1000 ∧ D.nx σ (upd H2 a (.ins C dx (putF f y fs)))) : sFld K ta te f D σ H := g
theorem w_ex1 {P : Bool → Prop} {b : Bool} (g : P b) : ∃ k, V.bl b = .bl k ∧ P k := ⟨b, rfl, g⟩
theorem w_iteD {c A B : Prop} [Decidable c] (h1 : c → A) (h2 : ¬ c → B) : if decide c = true then A else B := by
  by_cases h : c
  · rw [decide_eq_true h]
    exact iteT (h1 h)
  · rw [decide_eq_false h]
    exact iteF (h2 h)
theorem w_iteN {c A B : Prop} [Decidable c] (h1 : ¬ c → A) (h2 : c → B) : if (!decide c) = true then A else B := by
  by_cases h : c
  · rw [decide_eq_true h]
    exact iteF (h2 h)
  · rw [decide_eq_false h]
    exact iteT (h1 h)
theorem w_iteB {b : Bool} {A B : Prop} (h1 : b = true → A) (h2 : b = false → B) : if b = true then A else B := by
  cases b with
  | true => exact iteT (h1 rfl)
  | false => exact iteF (h2 rfl)
theorem w_iteBN {b : Bool} {A B : Prop} (h1 : b = false → A) (h2 : b = true → B) : if (!b) = true then A else B := by
  cases b with
  | true => exact iteF (h2 rfl)
  | false => exact iteT (h1 rfl)
theorem w_addI (g : Q (.int (i + j)) H) : rAddA (.int i) (.int j) H Q := .inl ⟨i, j, rfl, rfl, g⟩
theorem w_addS {a b : Str} (h : a.length + b.length ≤ sizeLine) (g : Q (.str (a ++ b)) H) : rAddA (.str a) (.str b) H Q := .inr (.inl ⟨a, b, rfl, rfl, h, g⟩)
theorem w_addL (h1 : H p = some (.lst xs)) (h2 : H q = some (.lst ys)) (h : xs.length + ys.length ≤ sizeLine) (g : ∀ r, H r = none → Q (.ref r) (upd H r (.lst (xs ++ ys)))) : rAddA (.ref p) (.ref q) H Q :=
  .inr (.inr ⟨p, q, xs, ys, rfl, rfl, h1, h2, h, g⟩)
theorem w_mulI (h : CMul i j) (g : Q (.int (i * j)) H) : rMulA (.int i) (.int j) H Q := .inl ⟨i, j, rfl, rfl, h, g⟩
theorem w_mulL (h1 : H p = some (.lst xs)) (h2 : -(2 ^ 63) ≤ j) (h3 : j < 2 ^ 63) (h : xs.length * j.toNat ≤ sizeLine) (g : ∀ r, H r = none → Q (.ref r) (upd H r (.lst (List.replicate j.toNat xs).flatten))) : rMulA (.ref p) (.int j) H Q :=
  .inr ⟨p, j, xs, rfl, rfl, h1, h2, h3, h, g⟩
theorem w_i0 {f : Int → Int → V} (g : Q (f i j) H) : rI0 f (.int i) (.int j) H Q := ⟨i, j, rfl, rfl, g⟩
theorem w_ic {C : Int → Int → Prop} {f : Int → Int → V} (h : C i j) (g : Q (f i j) H) : rI C f (.int i) (.int j) H Q := ⟨i, j, rfl, rfl, h, g⟩
theorem w_u1 {f : Int → V} (g : Q (f i) H) : rU f (.int i) H Q := ⟨i, rfl, g⟩
theorem dec_I : decide (V.int i = V.int j) = decide (i = j) := by
  rw [Bool.eq_iff_iff]
  simp
theorem dec_S {a b : Str} : decide (V.str a = V.str b) = decide (a = b) := by
  rw [Bool.eq_iff_iff]
  simp
theorem dec_B {a b : Bool} : decide (V.bl a = V.bl b) = decide (a = b) := by
  rw [Bool.eq_iff_iff]
  simp
theorem w_eqI (g : Q (.bl (decide (i = j))) H) : rEqA K (.int i) (.int j) H Q := .inl ⟨rfl, by rw [dec_I]; exact g⟩
theorem w_eqS {a b : Str} (g : Q (.bl (decide (a = b))) H) : rEqA K (.str a) (.str b) H Q := .inl ⟨rfl, by rw [dec_S]; exact g⟩
theorem w_eqB {a b : Bool} (g : Q (.bl (decide (a = b))) H) : rEqA K (.bl a) (.bl b) H Q := .inl ⟨rfl, by rw [dec_B]; exact g⟩
theorem w_neI (g : Q (.bl (!decide (i = j))) H) : rNeA K (.int i) (.int j) H Q := .inl ⟨rfl, by rw [dec_I]; exact g⟩
theorem w_neS {a b : Str} (g : Q (.bl (!decide (a = b))) H) : rNeA K (.str a) (.str b) H Q := .inl ⟨rfl, by rw [dec_S]; exact g⟩
theorem w_neB {a b : Bool} (g : Q (.bl (!decide (a = b))) H) : rNeA K (.bl a) (.bl b) H Q := .inl ⟨rfl, by rw [dec_B]; exact g⟩
theorem w_eqD {d e : PyData} (h1 : Dp K H x d) (h2 : Dp K H y e) (h3 : SeqAt.shaped d = true) (h4 : SeqAt.shaped e = true) (g : Q (.bl (PyData.eqv d e)) H) : rEqA K x y H Q := .inr ⟨d, e, h1, h2, h3, h4, g⟩
theorem w_neD {d e : PyData} (h1 : Dp K H x d) (h2 : Dp K H y e) (h3 : SeqAt.shaped d = true) (h4 : SeqAt.shaped e = true) (g : Q (.bl (!PyData.eqv d e)) H) : rNeA K x y H Q := .inr ⟨d, e, h1, h2, h3, h4, g⟩
theorem w_isN0 (g : Q (.bl true) H) : rIsNA .non .non H Q := ⟨rfl, g⟩
theorem w_isN1 (h : x ≠ .non) (g : Q (.bl false) H) : rIsNA x .non H Q := ⟨rfl, by rw [decide_eq_false h]; exact g⟩
theorem w_notN0 (g : Q (.bl false) H) : rNotNA .non .non H Q := ⟨rfl, g⟩
theorem w_notN1 (h : x ≠ .non) (g : Q (.bl true) H) : rNotNA x .non H Q := ⟨rfl, by rw [decide_eq_false h]; exact g⟩
theorem w_lenL (h : SqL K H p xs) (g : Q (.int (xs.length : Int)) H) : rLenA K [.ref p] H Q := ⟨_, _, rfl, .inl ⟨xs, h, rfl⟩, g⟩
theorem w_listL (h : SqL K H p xs) (g : ∀ l, H l = none → Q (.ref l) (upd H l (.lst xs))) : rListA K [.ref p] H Q := ⟨p, xs, rfl, .inl h, g⟩
theorem w_intI (g : Q (.int i) H) : rIntA [.int i] H Q := .inl ⟨i, rfl, g⟩
theorem w_abs (g : Q (.int (if i < 0 then -i else i)) H) : rAbsA [.int i] H Q := ⟨i, rfl, g⟩
theorem w_min2 (g : Q (.int (if j < i then j else i)) H) : rMin2A [.int i, .int j] H Q := ⟨i, j, rfl, g⟩
theorem w_max2 (g : Q (.int (if j > i then j else i)) H) : rMax2A [.int i, .int j] H Q := ⟨i, j, rfl, g⟩
theorem w_ixL (h : SqL K H p xs) (ha : atI xs i = some v) (g : Q v H) : rIx K (.ref p) (.int i) H Q := .inl ⟨p, xs, i, v, rfl, rfl, h, ha, g⟩
theorem w_setL {R : Hp → Prop} (h : H p = some (.lst xs)) (ha : ixN xs.length i = some n) (g : R (upd H p (.lst (xs.set n v)))) : rSetL (.ref p) (.int i) v H R := ⟨p, xs, i, n, rfl, rfl, h, ha, g⟩
theorem w_ty (h : SqL K H p xs) : tyV K "list" (.ref p) H := .inl ⟨rfl, xs, h⟩
theorem w_append (h : H p = some (.lst xs)) (hl : xs.length < sizeLine) (g : Q .non (upd H p (.lst (xs ++ [v])))) : rAppend (.ref p) [v] H Q := ⟨p, xs, v, rfl, rfl, h, hl, g⟩
end
end G
set_option Elab.async false
set_option linter.all false
set_option maxRecDepth 100000
set_option maxHeartbeats 4000000
/-! Loops, comprehensions by words; the head's own facts. -/
namespace G
open PySem PySem.Spec PyProof.Rows L2
/-! ### what a loop wants of its walk J -/
def LoopG (J : It) (g : TG) (tb : TS) (D : Ends) (σ : L2.St) (H1 : Hp) : Prop := ∃ W : Nat → Nat → L2.St → Hp → Prop, (∃ m, W 0 m σ H1) ∧ ∀ i m σ H, W i m σ H →
  (J.stop i H ∧ D.nx σ H) ∨ (J.go i H ∧ ∃ N : L2.St → Hp → Prop, (∀ σ' H', N σ' H' → ∃ m', m' < m ∧ W (i + 1) m' σ' H') ∧ ∀ x H', J.yld i H x H' → g x σ H' fun σ2 H2 => tb { D with nx := N, ct := N, bk := D.nx } σ2 H2)
def CompG (J : It) (g : TG) (tt : TT) (te : TE) (vs : List Nat) (σ : L2.St) (Q : VK) (H1 : Hp) : Prop := ∀ D, H1 D = none → ∃ W : Nat → Nat → Hp → Prop, (∃ m, W 0 m (upd H1 D (.lst []))) ∧ ∀ i m H, W i m H →
  (J.stop i H ∧ Q (.ref D) H) ∨ (J.go i H ∧ ∃ Nx : Hp → Prop, (∀ H', Nx H' → ∃ m', m' < m ∧ W (i + 1) m' H') ∧ ∀ x H', J.yld i H x H' → g x (wipe σ vs) H' fun σ2 H2 => wipe σ2 vs = wipe σ vs ∧ tt σ2 H2 fun b H3 =>
    if b = true then te σ2 H3 fun y H4 => ∃ acc, H4 D = some (.lst acc) ∧ acc.length < sizeLine ∧ Nx (upd H4 D (.lst (acc ++ [y]))) else Nx H3)
section
variable {K : PySem.W.Frag} {σ : L2.St} {H : Hp} {Q : VK} {ta : TA} {te tl : TE} {tt : TT} {D : Ends} {tb : TS} {g : TG} {wi : TI} {j : Nat} {R : It → Hp → Prop} {vs : List Nat}
theorem w_for (h : wi σ H fun J H1 => LoopG J g tb D σ H1) : tFor wi g tb D σ H := h
theorem w_lc (h : wi σ H fun J H1 => CompG J g tt te vs σ Q H1) : tLc wi g tt te vs σ H Q := h
theorem w_iR1 (h : ta σ H fun vs H1 => ∃ j : Int, vs = [.int j] ∧ -(2 ^ 62) ≤ j ∧ j < 2 ^ 62 ∧ R (Itr 0 j.toNat) H1) : iRng1 ta σ H R := h
theorem w_iR2 (h : ta σ H fun vs H1 => ∃ i j : Int, vs = [.int i, .int j] ∧ (-(2 ^ 62) ≤ i ∧ i < 2 ^ 62 ∧ -(2 ^ 62) ≤ j ∧ j < 2 ^ 62) ∧ R (Itr i (j - i).toNat) H1) : iRng2 ta σ H R := h
theorem w_iL (h : tl σ H fun x H1 => ∃ a, x = .ref a ∧ (∃ xs, SqL K H1 a xs) ∧ R (Itl K a) H1) : iList K tl σ H R := h
theorem w_iT (h : tl σ H fun x H1 => ∃ a, x = .ref a ∧ (∃ xs, SqT K H1 a xs) ∧ R (Itt K a) H1) : iTup K tl σ H R := h
theorem w_iE (h : ta σ H fun vs H1 => ∃ a xs, vs = [.ref a] ∧ SqL K H1 a xs ∧ R (Ite K a) H1) : iEnum K ta σ H R := h
theorem w_iZ (h : ta σ H fun vs H1 => ∃ a b xs ys, vs = [.ref a, .ref b] ∧ SqL K H1 a xs ∧ SqL K H1 b ys ∧ R (Itz K a b) H1) : iZip K ta σ H R := h
/-! ### loops -/
theorem lp_rng {lo : Int} {n : Nat} (Pv : Nat → L2.St → Hp → Prop) (h0 : Pv 0 σ H) (hs : ∀ (i : Nat) σ' H', i < n → Pv i σ' H' → g (.int (lo + (i : Int))) σ' H' fun σ2 H2 => tb { D with nx := Pv (i + 1), ct := Pv (i + 1), bk := D.nx } σ2 H2)
    (hd : ∀ σ' H', Pv n σ' H' → D.nx σ' H') : LoopG (Itr lo n) g tb D σ H := for_range Pv h0 hs hd
theorem lp_rng0 {n : Nat} (Pv : Nat → L2.St → Hp → Prop) (h0 : Pv 0 σ H) (hs : ∀ (i : Nat) σ' H', i < n → Pv i σ' H' → g (.int (i : Int)) σ' H' fun σ2 H2 => tb { D with nx := Pv (i + 1), ct := Pv (i + 1), bk := D.nx } σ2 H2)
    (hd : ∀ σ' H', Pv n σ' H' → D.nx σ' H') : LoopG (Itr 0 n) g tb D σ H := for_range Pv h0 (fun i σ' H' hi p => by rw [Int.zero_add]; exact hs i σ' H' hi p) hd
theorem lp_lst {a : Addr} {xs : List V} (Pv : Nat → L2.St → Hp → Prop) (h0 : Pv 0 σ H) (hl : ∀ i σ' H', i ≤ xs.length → Pv i σ' H' → SqL K H' a xs)
    (hs : ∀ i x σ' H', xs[i]? = some x → Pv i σ' H' → g x σ' H' fun σ2 H2 => tb { D with nx := Pv (i + 1), ct := Pv (i + 1), bk := D.nx } σ2 H2) (hd : ∀ σ' H', Pv xs.length σ' H' → D.nx σ' H') : LoopG (Itl K a) g tb D σ H := for_list Pv h0 hl hs hd
theorem lp_enum {a : Addr} {xs : List V} (Pv : Nat → L2.St → Hp → Prop) (h0 : Pv 0 σ H) (hl : ∀ i σ' H', i ≤ xs.length → Pv i σ' H' → SqL K H' a xs)
    (hs : ∀ (i : Nat) (x : V) (T : Addr) σ' H', xs[i]? = some x → Pv i σ' H' → H' T = none → g (.ref T) σ' (upd H' T (.tup [.int (i : Int), x])) fun σ2 H2 => tb { D with nx := Pv (i + 1), ct := Pv (i + 1), bk := D.nx } σ2 H2)
    (hd : ∀ σ' H', Pv xs.length σ' H' → D.nx σ' H') : LoopG (Ite K a) g tb D σ H := by
  refine ⟨fun i m σ H => m = xs.length - i ∧ i ≤ xs.length ∧ Pv i σ H, ⟨xs.length, by simp, Nat.zero_le _, h0⟩, ?_⟩
  rintro i m σ H ⟨rfl, hi, p⟩
  have q := hl i σ H hi p
  by_cases lt : i < xs.length
  · refine .inr ⟨⟨xs, xs[i], q, by simp [lt]⟩, Pv (i + 1), fun σ' H' p' => ⟨xs.length - (i + 1), by omega, rfl, lt, p'⟩, fun v H' y => ?_⟩
    obtain ⟨T, x, rfl, nT, rfl, hx⟩ := y
    exact hs i x T σ H (hx xs q) p nT
  · have e : i = xs.length := by omega
    subst e
    exact .inl ⟨⟨xs, q, Nat.le_refl _⟩, hd σ H p⟩
/-! ### comprehensions: items i is what stands behind i turns -/
theorem cp_go {J : It} {n : Nat} (items : Nat → List V) (Ok : Hp → Prop) (hz : ∀ i, i < n → (items i).length < sizeLine) (h0 : items 0 = []) (ok0 : ∀ H', Kp [] H H' → Ok H') (hgo : ∀ i H', i < n → Ok H' → J.go i H') (hst : ∀ H', Ok H' → J.stop n H')
    (hs : ∀ (i : Nat) (x : V) (H' H'' : Hp) (S : V → Hp → Prop) (N : Hp → Prop), i < n → Kp [] H H' → J.yld i H' x H'' → (∀ y H4, Kp [] H' H4 → items (i + 1) = items i ++ [y] → S y H4) → (∀ H4, Kp [] H' H4 → items (i + 1) = items i → N H4) →
      g x (wipe σ vs) H'' fun σ2 H2 => wipe σ2 vs = wipe σ vs ∧ tt σ2 H2 fun b H3 => if b = true then te σ2 H3 S else N H3)
    (hd : ∀ D H', H D = none → Kp [] H H' → H' D = some (.lst (items n)) → Q (.ref D) H') : CompG J g tt te vs σ Q H := by
  intro D nD
  refine ⟨fun i m H' => m = n - i ∧ i ≤ n ∧ Kp [] H H' ∧ H' D = some (.lst (items i)), ⟨n, by simp, Nat.zero_le _, Kp.new nD, by rw [h0]; exact upd_same⟩, ?_⟩
  rintro i m H' ⟨rfl, hi, k, e⟩
  by_cases lt : i < n
  · refine .inr ⟨hgo i H' lt (ok0 H' k), fun H'' => Kp [] H H'' ∧ H'' D = some (.lst (items (i + 1))), fun H'' p => ⟨n - (i + 1), by omega, rfl, lt, p.1, p.2⟩, fun x H'' y => ?_⟩
    refine hs i x H' H'' _ _ lt k y (fun y H4 k4 ei => ⟨items i, k4.at0 e, hz i lt, ?_, ?_⟩) (fun H4 k4 ei => ⟨k.trans k4, ?_⟩)
    · exact Kp.mut (k.trans k4) nD
    · rw [ei]
      exact upd_same
    · rw [ei]
      exact k4.at0 e
  · have ei : i = n := by omega
    subst ei
    exact .inl ⟨hst H' (ok0 H' k), hd D H' nD k e⟩
theorem cp_rng {lo : Int} {n : Nat} (items : Nat → List V) (hz : ∀ i, i < n → (items i).length < sizeLine) (h0 : items 0 = [])
    (hs : ∀ (i : Nat) (H' : Hp) (S : V → Hp → Prop) (N : Hp → Prop), i < n → Kp [] H H' → (∀ y H4, Kp [] H' H4 → items (i + 1) = items i ++ [y] → S y H4) → (∀ H4, Kp [] H' H4 → items (i + 1) = items i → N H4) →
      g (.int (lo + (i : Int))) (wipe σ vs) H' fun σ2 H2 => wipe σ2 vs = wipe σ vs ∧ tt σ2 H2 fun b H3 => if b = true then te σ2 H3 S else N H3)
    (hd : ∀ D H', H D = none → Kp [] H H' → H' D = some (.lst (items n)) → Q (.ref D) H') : CompG (Itr lo n) g tt te vs σ Q H :=
  cp_go items (fun _ => True) hz h0 (fun _ _ => trivial) (fun i H' hi _ => hi) (fun H' _ => Nat.le_refl n) (fun i x H' H'' S N hi k y a b => by
    obtain ⟨rfl, rfl⟩ := y
    exact hs i H'' S N hi k a b) hd
theorem cp_lst {a : Addr} {xs : List V} (h : SqL K H a xs) (items : Nat → List V) (hz : ∀ i, i < xs.length → (items i).length < sizeLine) (h0 : items 0 = [])
    (hs : ∀ (i : Nat) (x : V) (H' : Hp) (S : V → Hp → Prop) (N : Hp → Prop), xs[i]? = some x → Kp [] H H' → (∀ y H4, Kp [] H' H4 → items (i + 1) = items i ++ [y] → S y H4) → (∀ H4, Kp [] H' H4 → items (i + 1) = items i → N H4) →
      g x (wipe σ vs) H' fun σ2 H2 => wipe σ2 vs = wipe σ vs ∧ tt σ2 H2 fun b H3 => if b = true then te σ2 H3 S else N H3)
    (hd : ∀ D H', H D = none → Kp [] H H' → H' D = some (.lst (items xs.length)) → Q (.ref D) H') : CompG (Itl K a) g tt te vs σ Q H :=
  cp_go (n := xs.length) items (fun H' => SqL K H' a xs) hz h0 (fun _ k => k.sql (by simp) h) (fun i H' hi q => ⟨xs, xs[i], q, by simp [hi]⟩) (fun H' q => ⟨xs, q, Nat.le_refl _⟩) (fun i x H' H'' S N hi k y a b => by
    obtain ⟨rfl, hx⟩ := y
    exact hs i x H'' S N (hx xs (k.sql (by simp) h)) k a b) hd
theorem cp_enum {a : Addr} {xs : List V} (h : SqL K H a xs) (items : Nat → List V) (hz : ∀ i, i < xs.length → (items i).length < sizeLine) (h0 : items 0 = [])
    (hs : ∀ (i : Nat) (x : V) (T : Addr) (H' : Hp) (S : V → Hp → Prop) (N : Hp → Prop), xs[i]? = some x → Kp [] H H' → H' T = none → (∀ y H4, Kp [] H' H4 → items (i + 1) = items i ++ [y] → S y H4) → (∀ H4, Kp [] H' H4 → items (i + 1) = items i → N H4) →
      g (.ref T) (wipe σ vs) (upd H' T (.tup [.int (i : Int), x])) fun σ2 H2 => wipe σ2 vs = wipe σ vs ∧ tt σ2 H2 fun b H3 => if b = true then te σ2 H3 S else N H3)
    (hd : ∀ D H', H D = none → Kp [] H H' → H' D = some (.lst (items xs.length)) → Q (.ref D) H') : CompG (Ite K a) g tt te vs σ Q H :=
  cp_go (n := xs.length) items (fun H' => SqL K H' a xs) hz h0 (fun _ k => k.sql (by simp) h) (fun i H' hi q => ⟨xs, xs[i], q, by simp [hi]⟩) (fun H' q => ⟨xs, q, Nat.le_refl _⟩) (fun i v H' H'' S N hi k y a b => by
    obtain ⟨T, x, rfl, nT, rfl, hx⟩ := y
    exact hs i x T H' S N (hx xs (k.sql (by simp) h)) k nT a b) hd
end
/-! ### the head's facts: any tests of the written part -/
abbrev Chk := PySem.W.Frag → Bool
def obsX (fa : List Chk) (fn : List He.DefD) (K : PySem.W.Frag) : He.AlD := ((fa.all fun f => f K) && fn.all fun d => d.ok K, fn.map fun d => He.fnW K d.at_)
def SaysX (fa : List Chk) (fn : List He.DefD) (K : PySem.W.Frag) : Prop := obsX fa fn K = He.valD fn
section
variable {fa : List Chk} {fn : List He.DefD} {K : PySem.W.Frag}
theorem SaysX.fact (c : SaysX fa fn K) (i : Nat) {f : Chk} (h : fa[i]? = some f := by rfl) : f K = true := by
  have c1 := (He.ba (show ((fa.all fun f => f K) && fn.all fun d => d.ok K) = true from congrArg (fun z : He.AlD => z.1) c)).1
  exact List.all_eq_true.mp c1 f (List.mem_of_getElem? h)
theorem SaysX.def_ (c : SaysX fa fn K) (i : Nat) {d : He.DefD} (h : fn[i]? = some d := by rfl) : ∃ fd, FunD K d.name d.qual d.params d.body d.scope (d.dvs K) (d.kws K) (He.fAd K d.at_) fd := by
  have c2 := (He.ba (show ((fa.all fun f => f K) && fn.all fun d => d.ok K) = true from congrArg (fun z : He.AlD => z.1) c)).2
  have e : fn.map (fun d => He.fnW K d.at_) = fn.map He.DefD.val := congrArg (fun z : He.AlD => z.2) c
  have e2 : (fn.map fun d => He.fnW K d.at_)[i]? = (fn.map He.DefD.val)[i]? := by rw [e]
  rw [List.getElem?_map, List.getElem?_map, h] at e2
  exact He.DefD.funD (Option.some.inj e2) (List.all_eq_true.mp c2 d (List.mem_of_getElem? h))
/-- a plain fact of He -/
abbrev fa_ (f : He.Fa) : Chk := fun K => f.ok K
/-- a class of errors, as it is made -/
def oexB (C : Addr) (K : PySem.W.Frag) : Bool := match K.lookup C with
  | some ⟨.type "type", _, .cls cd, sl⟩ => (match cd.mro, sl.toList with
    | .ref C1 :: bm, [_, _, _, _, some (.builtin n), _] => C1 == C && n == "ValueError.__new__" && !cd.hasDel && cd.hasDict && PySem.HandSPX.refsVE bm
    | _, _ => false)
  | _ => false
theorem oexB_ok {C : Addr} (q : oexB C K = true) : ∃ nm qn N bs bm sn sub ab col dd k0 k1 k2 k3 k5, K.lookup C = some (excClassObj nm qn C N bs bm true sn sub ab col dd k0 k1 k2 k3 k5 "ValueError.__new__") ∧ PySem.HandSPX.refsVE bm = true := by
  unfold oexB at q
  split at q
  · rename_i dd cd sl ho
    split at q
    · rename_i C1 bm k0 k1 k2 k3 n k5 hm hs
      simp only [Bool.and_eq_true, beq_iff_eq, Bool.not_eq_true'] at q
      obtain ⟨⟨⟨⟨rfl, rfl⟩, del⟩, hd⟩, hr⟩ := q
      obtain ⟨nm, bs, mro, ns, qn, hdd, sn, sub, ab, col, dl⟩ := cd
      dsimp only at hm del hd
      subst hm del hd
      have es : sl = #[k0, k1, k2, k3, some (.builtin "ValueError.__new__"), k5] := by
        obtain ⟨l⟩ := sl
        exact congrArg Array.mk hs
      subst es
      exact ⟨nm, qn, ns, bs, bm, sn, sub, ab, col, dd, k0, k1, k2, k3, k5, ho, hr⟩
    · cases q
  · cases q
def eqT (a b : Option Bool) : Bool := decide (a = b)
/-- all that an own class of errors C with the fields fs is asked -/
def excB (x : Str) (fs : List Str) (K : PySem.W.Frag) : Bool := oexB (He.ga K x) K && (He.eqO (PySem.W.findIn K (.ref (He.ga K x)) "__setattr__") (some (some (.builtin "object.__setattr__"))) &&
  (eqT (PySem.W.subIn K (.ref (He.ga K x)) (.type "BaseException")) (some true) && (decide (PySem.W.typeIn K (.ref (He.ga K x)) = some (.type "type")) && (PySem.W.keepIn K (.ref (He.ga K x)) &&
  (fs.all fun f => He.eqO (PySem.W.findIn K (.ref (He.ga K x)) f) (some none))))))
/-- .. and its instances are asked -/
def askB (x : Str) (K : PySem.W.Frag) : Bool := (PySem.W.clsIn K (He.ga K x)).isSome && (He.eqO (PySem.W.findIn K (.ref (He.ga K x)) "__getattribute__") (some (some (.builtin "BaseException.__getattribute__"))) &&
  (He.eqO (PySem.W.findIn K (.ref (He.ga K x)) "__getattr__") (some none) && (eqT (PySem.W.subIn K (.ref (He.ga K x)) (.type "BaseException")) (some true) && (PySem.W.hasDictIn K (He.ga K x) &&
  (He.eqO (PySem.W.findIn K (.ref (He.ga K x)) "__class__") (some (some (.builtin "object.__class__"))) && (He.eqO (PySem.W.specialIn K (.builtin "object.__class__") "__get__") (some (some (.builtin "getset_descriptor.__get__"))) &&
  (eqT (PySem.W.takesIn K (.builtin "object.__class__")) (some true) && eqT (PySem.W.mroIn K (He.ga K x) (.type "object")) (some true))))))))
theorem excB_ok {x : Str} {fs : List Str} (q : excB x fs K = true) : OexC K (He.ga K x) ∧ ∀ f ∈ fs, PySem.W.findIn K (.ref (He.ga K x)) f = some none := by
  obtain ⟨q1, q⟩ := He.ba q
  obtain ⟨q2, q⟩ := He.ba q
  obtain ⟨q3, q⟩ := He.ba q
  obtain ⟨q4, q⟩ := He.ba q
  obtain ⟨q5, q6⟩ := He.ba q
  exact ⟨⟨oexB_ok q1, He.eqO_ok q2, of_decide_eq_true q3, of_decide_eq_true q4, q5⟩, fun f hf => He.eqO_ok (List.all_eq_true.mp q6 f hf)⟩
theorem askB_ok {x : Str} (q : askB x K = true) : ExK K (He.ga K x) := by
  obtain ⟨q1, q⟩ := He.ba q
  obtain ⟨q2, q⟩ := He.ba q
  obtain ⟨q3, q⟩ := He.ba q
  obtain ⟨q4, q⟩ := He.ba q
  obtain ⟨q5, q⟩ := He.ba q
  obtain ⟨q6, q⟩ := He.ba q
  obtain ⟨q7, q⟩ := He.ba q
  obtain ⟨q8, q9⟩ := He.ba q
  exact ⟨q1, He.eqO_ok q2, He.eqO_ok q3, of_decide_eq_true q4, q5, He.eqO_ok q6, He.eqO_ok q7, of_decide_eq_true q8, of_decide_eq_true q9⟩
/-- isinstance of an instance of x by the class y, by a built-in one -/
def kitB2 (x y : Str) (b : Bool) (K : PySem.W.Frag) : Bool := eqT (PySem.W.kitOne K (.ref (He.ga K x)) (.ref (He.ga K y))) (some b)
def kitT2 (x : Str) (y : String) (b : Bool) (K : PySem.W.Frag) : Bool := eqT (PySem.W.kitOne K (.ref (He.ga K x)) (.type y)) (some b)
/-- the __init__ that is found, a function -/
def iniB (x : Str) (K : PySem.W.Frag) : Bool := He.eqO (PySem.W.findIn K (.ref (He.ga K x)) "__init__") (some (some (.ref (He.ma K (He.ga K x) "__init__")))) && decide (PySem.W.typeIn K (.ref (He.ma K (He.ga K x) "__init__")) = some (.type "function"))
theorem iniB_ok {x : Str} (q : iniB x K = true) : PySem.W.findIn K (.ref (He.ga K x)) "__init__" = some (some (.ref (He.ma K (He.ga K x) "__init__"))) ∧ PySem.W.typeIn K (.ref (He.ma K (He.ga K x) "__init__")) = some (.type "function") := by
  obtain ⟨q1, q2⟩ := He.ba q
  exact ⟨He.eqO_ok q1, of_decide_eq_true q2⟩
end
end G
set_option Elab.async false
set_option linter.all false
set_option maxRecDepth 100000
set_option maxHeartbeats 4000000
/-! Constants of a class; truth; two things more. -/
namespace G
open PySem PySem.Spec PyProof.Rows L2
section
variable {X : Cx} {C : Addr} {mc u : Value} {v : V} {e : Expr} {f : Str} {pos : Pos} {ta : TE}
theorem pe_cc (k : ∃ mc u, ClX.CRead X.K C mc ∧ ClX.CVal X.K C mc f v u) (he : PE X e (tC (.ref C))) (hb : attributeBase e f X.env (eval e X.env) = eval e X.env := by rfl) : PE X (.Attribute e f pos) (tC v) := by
  obtain ⟨mc, u, r, k⟩ := k
  exact ⟨fun pins s σ H Q I h => (ClX.pe_cval he hb).run pins s σ H Q I ⟨C, mc, v, u, rfl, r, k, h⟩⟩
def tTr (K : PySem.W.Frag) (ta : TE) : TT := fun σ H Q => ta σ H fun x H' => ∃ k, TruV K x H' k ∧ Q k H'
theorem pt_tr (ha : PE X e ta) (he : ∀ whole, isTrue e X.env whole = (do let v ← whole; standAt e.pos; holding [v] (truthy v))) : PT X e (tTr X.K ta) := pt_truth ha he
end
/-- x.f is the whole number i -/
def ccB (x f : Str) (i : Int) (K : PySem.W.Frag) : Bool := PySem.W.readsIn K (He.ga K x) (.type "type") && (He.eqO (PySem.W.specialIn K (.ref (He.ga K x)) "__getattribute__") (some (some (.builtin "type.__getattribute__"))) &&
  (match PySem.W.findCls K (.ref (He.ga K x)) (.type "type") f with
  | some (.val (.int j _)) => decide (j = i)
  | _ => false))
theorem ccB_ok {K : PySem.W.Frag} {x f : Str} {i : Int} (q : ccB x f i K = true) : ∃ mc u, ClX.CRead K (He.ga K x) mc ∧ ClX.CVal K (He.ga K x) mc f (.int i) u := by
  obtain ⟨q1, q⟩ := He.ba q
  obtain ⟨q2, q3⟩ := He.ba q
  have q4 : (match PySem.W.findCls K (.ref (He.ga K x)) (.type "type") f with
    | some (.val (.int j _)) => decide (j = i)
    | _ => false) = true := q3
  split at q4
  · rename_i j t e
    have ej : j = i := of_decide_eq_true q4
    subst ej
    exact ⟨.type "type", .int j t, ⟨q1, He.eqO_ok q2⟩, ⟨e, t, rfl⟩⟩
  · cases q4
end G
namespace G
open PySem PySem.Spec PyProof.Rows L2
/-- a built-in class as a value -/
theorem pe_ty {X : Cx} {x : Str} (n : String) {pos : Pos} (hm : X.mg x = none) (hv : bootBuiltins x = some (.type n)) (hg : Gl X x := by rfl) (hn : x ≠ "__name__" := by decide) (hd : (x == ("__debug__" : Str)) = false := by decide) : PE X (.Name x pos) (tC (.ty n)) :=
  pe_bltn hg hm hv rfl hn hd
/-- an own class as a value -/
theorem pe_own {X : Cx} {x : Str} {C : Addr} {pos : Pos} (hm : X.mg x = some (.ref C)) (hg : Gl X x := by rfl) (hd : (x == ("__debug__" : Str)) = false := by decide) : PE X (.Name x pos) (tC (.ref C)) := pe_glob hg hm rfl hd
end G
namespace G
open PySem PySem.Spec PyProof.Rows L2
/-- what lets nothing out -/
theorem noX {P : Program} {w : World} {K : PySem.W.Frag} {mg : Str → Option Value} {base : Heap} {k : Nat} {f : Addr} {fd : FuncData} {ps : List Str} {sp : Sp} (F : FnOk P w K mg base (L2N.CX P w) k f fd ps sp) :
    FnOk P w K mg base L2.CX0 k f fd ps (fun vs H Q _ => sp vs H Q L2.E0) := by
  refine ⟨fun vs H Q E h => F.len vs H Q _ h, fun A outer s H args us vs Q E hr e0 hb r h => codeAny_mono (F.run A outer s H args us vs Q _ hr e0 hb r h) fun rs s2 q => ?_⟩
  cases rs with
  | error e =>
    obtain ⟨_, _, _, _, _, _, _, _, _, _, _, _, z⟩ := q
    exact z.elim
  | ok fl => cases fl <;> exact q
end G
set_option Elab.async false
set_option linter.all false
set_option maxRecDepth 100000
set_option maxHeartbeats 4000000
/-! Standings as plain lists, and what operations do to them. -/
namespace G
open PySem PySem.Spec PyProof.Rows L2
/-! ### lists by place -/
def gI (l : List Int) (i : Nat) : Int := l.getD i 0
def gB (l : List Bool) (i : Nat) : Bool := l.getD i false
theorem gI_at {l : List Int} {i : Nat} (h : i < l.length) : l[i]? = some (gI l i) := by
  unfold gI
  rw [List.getElem?_eq_getElem h, List.getD_eq_getElem?_getD, List.getElem?_eq_getElem h] <;> rfl
theorem gB_at {l : List Bool} {i : Nat} (h : i < l.length) : l[i]? = some (gB l i) := by
  unfold gB
  rw [List.getElem?_eq_getElem h, List.getD_eq_getElem?_getD, List.getElem?_eq_getElem h] <;> rfl
theorem gI_of {l : List Int} {i : Nat} {v : Int} (h : l[i]? = some v) : gI l i = v := by
  unfold gI
  rw [List.getD_eq_getElem?_getD, h] <;> rfl
theorem gB_of {l : List Bool} {i : Nat} {v : Bool} (h : l[i]? = some v) : gB l i = v := by
  unfold gB
  rw [List.getD_eq_getElem?_getD, h] <;> rfl
theorem gI_set {l : List Int} {i j : Nat} {v : Int} (h : i < l.length) : gI (l.set i v) j = if j = i then v else gI l j := by
  unfold gI
  rw [List.getD_eq_getElem?_getD, List.getD_eq_getElem?_getD]
  by_cases e : j = i
  · rw [if_pos e, e, List.getElem?_set_self h] <;> rfl
  · rw [if_neg e, List.getElem?_set_ne (Ne.symm e)]
theorem gB_set {l : List Bool} {i j : Nat} {v : Bool} (h : i < l.length) : gB (l.set i v) j = if j = i then v else gB l j := by
  unfold gB
  rw [List.getD_eq_getElem?_getD, List.getD_eq_getElem?_getD]
  by_cases e : j = i
  · rw [if_pos e, e, List.getElem?_set_self h] <;> rfl
  · rw [if_neg e, List.getElem?_set_ne (Ne.symm e)]
theorem atI_pos {α : Type} {l : List α} {i : Int} (h0 : 0 ≤ i) (h1 : i < (l.length : Int)) : atI l i = l[i.toNat]? := by
  unfold atI ixN
  rw [if_pos h0, if_pos h1] <;> rfl
theorem ixN_pos {n : Nat} {i : Int} (h0 : 0 ≤ i) (h1 : i < (n : Int)) : ixN n i = some i.toNat := by
  unfold ixN
  rw [if_pos h0, if_pos h1]
theorem at_I {l : List Int} {i : Int} (h0 : 0 ≤ i) (h1 : i < (l.length : Int)) : atI (l.map V.int) i = some (.int (gI l i.toNat)) := by
  rw [atI_pos h0 (by rw [List.length_map]; exact h1), List.getElem?_map, gI_at (by omega)] <;> rfl
theorem at_B {l : List Bool} {i : Int} (h0 : 0 ≤ i) (h1 : i < (l.length : Int)) : atI (l.map V.bl) i = some (.bl (gB l i.toNat)) := by
  rw [atI_pos h0 (by rw [List.length_map]; exact h1), List.getElem?_map, gB_at (by omega)] <;> rfl
theorem set_I {l : List Int} {k : Nat} {v : Int} : (l.map V.int).set k (V.int v) = (l.set k v).map V.int := by rw [List.map_set]
theorem set_B {l : List Bool} {k : Nat} {v : Bool} : (l.map V.bl).set k (V.bl v) = (l.set k v).map V.bl := by rw [List.map_set]
theorem sz_ok {n : Nat} (h : n ≤ 1000000) : n ≤ sizeLine := by
  rw [sizeLine_eq]
  omega
theorem sz_lt {n : Nat} (h : n < 1000000) : n < sizeLine := by
  rw [sizeLine_eq]
  omega
/-! ### standings -/
structure Sd where
  n : Nat
  R : List Int
  L : List Int
  O : List Bool
structure Wf (s : Sd) : Prop where
  n60 : s.n ≤ 60
  lR : s.R.length = s.n + 1
  lL : s.L.length = s.n + 2
  lO : s.O.length = s.n + 2
  rb : ∀ v : Nat, v ≤ s.n → (v : Int) < gI s.R v ∧ gI s.R v ≤ (s.n : Int) + 1
  lb : ∀ v : Nat, 1 ≤ v → v ≤ s.n + 1 → 0 ≤ gI s.L v ∧ gI s.L v < (v : Int)
def stepS (s : Sd) (op : Int) : Sd :=
  let x := op.natAbs
  let l := (gI s.L x).toNat
  let r := (gI s.R x).toNat
  ⟨s.n, s.R.set l (if op < 0 then gI s.R x else (x : Int)), s.L.set r (if op < 0 then gI s.L x else (x : Int)), s.O.set x (decide (op < 0))⟩
/-- an operation for the size; a legal one -/
def IsOp (n : Nat) (op : Int) : Prop := 1 ≤ op.natAbs ∧ op.natAbs ≤ n
def OkOp (s : Sd) (op : Int) : Prop := IsOp s.n op ∧ gB s.O op.natAbs = decide (0 < op)
instance (n : Nat) (op : Int) : Decidable (IsOp n op) := by unfold IsOp; infer_instance
instance (s : Sd) (op : Int) : Decidable (OkOp s op) := by unfold OkOp; infer_instance
theorem Wf.step {s : Sd} (w : Wf s) {op : Int} (h : IsOp s.n op) : Wf (stepS s op) := by
  obtain ⟨h1, h2⟩ := h
  obtain ⟨r1, r2⟩ := w.rb op.natAbs (by omega)
  obtain ⟨l1, l2⟩ := w.lb op.natAbs h1 (by omega)
  have e1 : (gI s.L op.natAbs).toNat < s.R.length := by rw [w.lR]; omega
  have e2 : (gI s.R op.natAbs).toNat < s.L.length := by rw [w.lL]; omega
  refine ⟨w.n60, ?_, ?_, ?_, fun v hv => ?_, fun v hv hv2 => ?_⟩
  · show (s.R.set _ _).length = _
    rw [List.length_set]
    exact w.lR
  · show (s.L.set _ _).length = _
    rw [List.length_set]
    exact w.lL
  · show (s.O.set _ _).length = _
    rw [List.length_set]
    exact w.lO
  · show (v : Int) < gI (s.R.set _ _) v ∧ gI (s.R.set _ _) v ≤ (s.n : Int) + 1
    rw [gI_set e1]
    by_cases e : v = (gI s.L op.natAbs).toNat
    · rw [if_pos e]
      by_cases o : op < 0
      · rw [if_pos o]
        omega
      · rw [if_neg o]
        omega
    · rw [if_neg e]
      exact w.rb v hv
  · show 0 ≤ gI (s.L.set _ _) v ∧ gI (s.L.set _ _) v < (v : Int)
    rw [gI_set e2]
    by_cases e : v = (gI s.R op.natAbs).toNat
    · rw [if_pos e]
      by_cases o : op < 0
      · rw [if_pos o]
        omega
      · rw [if_neg o]
        omega
    · rw [if_neg e]
      exact w.lb v hv hv2
/-- its own links stay -/
theorem step_R {s : Sd} (w : Wf s) {op : Int} (h : IsOp s.n op) : gI (stepS s op).R op.natAbs = gI s.R op.natAbs := by
  obtain ⟨l1, l2⟩ := w.lb op.natAbs h.1 (by have := h.2; omega)
  show gI (s.R.set _ _) _ = _
  rw [gI_set (by rw [w.lR]; have := h.2; omega), if_neg (by omega)]
theorem step_L {s : Sd} (w : Wf s) {op : Int} (h : IsOp s.n op) : gI (stepS s op).L op.natAbs = gI s.L op.natAbs := by
  obtain ⟨l1, l2⟩ := w.rb op.natAbs (by have := h.2; omega)
  show gI (s.L.set _ _) _ = _
  rw [gI_set (by rw [w.lL]; omega), if_neg (by omega)]
/-- a, a + 1, .. n of them -/
def rgI (a : Int) (n : Nat) : List Int := (List.range n).map fun (i : Nat) => a + (i : Int)
theorem rgI_len (a : Int) (n : Nat) : (rgI a n).length = n := by simp [rgI]
def wholeS (n : Nat) : Sd := ⟨n, rgI 1 (n + 1), 0 :: rgI 0 (n + 1), List.replicate (n + 2) false⟩
theorem gI_range {n i : Nat} {a : Int} (h : i < n) : gI (rgI a n) i = a + (i : Int) := by
  refine gI_of ?_
  unfold rgI
  rw [List.getElem?_map, List.getElem?_range h] <;> rfl
theorem Wf.whole {n : Nat} (h : n ≤ 60) : Wf (wholeS n) := by
  refine ⟨h, rgI_len _ _, congrArg Nat.succ (rgI_len _ _), List.length_replicate, fun v hv => ?_, fun v h1 h2 => ?_⟩
  · show (v : Int) < gI (rgI 1 (n + 1)) v ∧ gI (rgI 1 (n + 1)) v ≤ (n : Int) + 1
    have hv' : v ≤ n := hv
    rw [gI_range (by omega)]
    omega
  · show 0 ≤ gI (0 :: rgI 0 (n + 1)) v ∧ gI (0 :: rgI 0 (n + 1)) v < (v : Int)
    have h2' : v ≤ n + 1 := h2
    obtain ⟨u, rfl⟩ : ∃ u, v = u + 1 := ⟨v - 1, by omega⟩
    have e : gI (0 :: rgI 0 (n + 1)) (u + 1) = gI (rgI 0 (n + 1)) u := rfl
    rw [e, gI_range (by omega)]
    omega
theorem snoc_ind {α : Type} {P : List α → Prop} (h0 : P []) (h1 : ∀ l x, P l → P (l ++ [x])) (l : List α) : P l := by
  have key : ∀ r : List α, P r.reverse := by
    intro r
    induction r with
    | nil => exact h0
    | cons x r ih =>
      rw [List.reverse_cons]
      exact h1 _ _ ih
  have e := key l.reverse
  rwa [List.reverse_reverse] at e
def runS (s : Sd) (log : List Int) : Sd := log.foldl stepS s
theorem runS_snoc (s : Sd) (log : List Int) (op : Int) : runS s (log ++ [op]) = stepS (runS s log) op := by
  unfold runS
  rw [List.foldl_append] <;> rfl
/-- every operation is legal in turn -/
def Leg (s : Sd) (log : List Int) : Prop := ∀ i op, log[i]? = some op → OkOp (runS s (log.take i)) op
theorem Leg.take {s : Sd} {log : List Int} (h : Leg s log) (k : Nat) : Leg s (log.take k) := by
  intro i op hp
  have hi : i < (log.take k).length := (List.getElem?_eq_some_iff.mp hp).1
  rw [List.length_take] at hi
  rw [List.getElem?_take_of_lt (by omega)] at hp
  rw [List.take_take, Nat.min_eq_left (by omega)]
  exact h i op hp
theorem Leg.wf {s : Sd} (w : Wf s) : ∀ {log : List Int}, Leg s log → Wf (runS s log) := by
  intro log
  induction log using snoc_ind with
  | h0 => exact fun _ => w
  | h1 l x ih =>
    intro h
    have h1 : Leg s l := by
      have := h.take l.length
      rwa [List.take_left' rfl] at this
    have h2 := h l.length x (by simp)
    rw [List.take_left' rfl] at h2
    rw [runS_snoc]
    exact (ih h1).step h2.1
end G
set_option Elab.async false
set_option linter.all false
set_option maxRecDepth 100000
set_option maxHeartbeats 4000000
/-! What the program's own defs promise: standings, logs, gaps. -/
namespace G
open PySem PySem.Spec PyProof.Rows L2
/-! ### a standing in the heap -/
def fl (n r l o : V) : List (Str × V) := putF "_out" o (putF "_lefts" l (putF "_rights" r (putF "size" n [])))
theorem n1 : ¬ (("size" : Str) = "_rights") := by decide +kernel
theorem n2 : ¬ (("size" : Str) = "_lefts") := by decide +kernel
theorem n3 : ¬ (("size" : Str) = "_out") := by decide +kernel
theorem n4 : ¬ (("_rights" : Str) = "_lefts") := by decide +kernel
theorem n5 : ¬ (("_rights" : Str) = "_out") := by decide +kernel
theorem n6 : ¬ (("_lefts" : Str) = "_out") := by decide +kernel
theorem fl_size (n r l o : V) : (fl n r l o).lookup ("size" : Str) = some n := by
  unfold fl
  rw [lookup_putF, if_neg n3, lookup_putF, if_neg n2, lookup_putF, if_neg n1, lookup_putF, if_pos rfl]
theorem fl_R (n r l o : V) : (fl n r l o).lookup ("_rights" : Str) = some r := by
  unfold fl
  rw [lookup_putF, if_neg n5, lookup_putF, if_neg n4, lookup_putF, if_pos rfl]
theorem fl_L (n r l o : V) : (fl n r l o).lookup ("_lefts" : Str) = some l := by
  unfold fl
  rw [lookup_putF, if_neg n6, lookup_putF, if_pos rfl]
theorem fl_O (n r l o : V) : (fl n r l o).lookup ("_out" : Str) = some o := by
  unfold fl
  rw [lookup_putF, if_pos rfl]
theorem fl_no {m : Str} (n r l o : V) (h1 : ¬ m = "size") (h2 : ¬ m = "_rights") (h3 : ¬ m = "_lefts") (h4 : ¬ m = "_out") : (fl n r l o).lookup m = none := by
  unfold fl
  rw [lookup_putF, if_neg h4, lookup_putF, if_neg h3, lookup_putF, if_neg h2, lookup_putF, if_neg h1]
  rfl
theorem fl_eq (n r l o : V) : fl n r l o = [(("size" : Str), n), ("_rights", r), ("_lefts", l), ("_out", o)] := by
  unfold fl
  simp only [putF, if_neg n1, if_neg n2, if_neg n3, if_neg n4, if_neg n5, if_neg n6]
theorem fl_len (n r l o : V) : (fl n r l o).length < 1000 := by
  rw [fl_eq]
  show 4 < 1000
  decide
theorem fl_putR (n r l o r2 : V) : putF "_rights" r2 (fl n r l o) = fl n r2 l o := by
  rw [fl_eq, fl_eq]
  simp only [putF]
  rw [if_neg n1, if_pos trivial]
theorem fl_putL (n r l o l2 : V) : putF "_lefts" l2 (fl n r l o) = fl n r l2 o := by
  rw [fl_eq, fl_eq]
  simp only [putF]
  rw [if_neg n2, if_neg n4, if_pos trivial]
theorem fl_putO (n r l o o2 : V) : putF "_out" o2 (fl n r l o) = fl n r l o2 := by
  rw [fl_eq, fl_eq]
  simp only [putF]
  rw [if_neg n3, if_neg n5, if_neg n6, if_pos trivial]
structure LinksAt (K : PySem.W.Frag) (H : Hp) (p r l o : Addr) (s : Sd) : Prop where
  ob : ∃ dx, H p = some (.ins (He.ga K "Links") dx (fl (.int s.n) (.ref r) (.ref l) (.ref o)))
  hr : H r = some (.lst (s.R.map V.int))
  hl : H l = some (.lst (s.L.map V.int))
  ho : H o = some (.lst (s.O.map V.bl))
  rl : r ≠ l
  ro : r ≠ o
  lo : l ≠ o
  wf : Wf s
theorem LinksAt.pr {K : PySem.W.Frag} {H : Hp} {p r l o : Addr} {s : Sd} (a : LinksAt K H p r l o s) : p ≠ r ∧ p ≠ l ∧ p ≠ o := by
  obtain ⟨dx, h⟩ := a.ob
  exact ⟨ne_of h a.hr (by intro z; cases z), ne_of h a.hl (by intro z; cases z), ne_of h a.ho (by intro z; cases z)⟩
theorem LinksAt.kp {K : PySem.W.Frag} {H H' : Hp} {p r l o : Addr} {s : Sd} {S : List Addr} (a : LinksAt K H p r l o s) (k : Kp S H H') (h1 : p ∉ S) (h2 : r ∉ S) (h3 : l ∉ S) (h4 : o ∉ S) : LinksAt K H' p r l o s := by
  obtain ⟨dx, h⟩ := a.ob
  exact ⟨⟨dx, k _ _ h1 h⟩, k _ _ h2 a.hr, k _ _ h3 a.hl, k _ _ h4 a.ho, a.rl, a.ro, a.lo, a.wf⟩
theorem LinksAt.k0 {K : PySem.W.Frag} {H H' : Hp} {p r l o : Addr} {s : Sd} (a : LinksAt K H p r l o s) (k : Kp [] H H') : LinksAt K H' p r l o s := a.kp k (by simp) (by simp) (by simp) (by simp)
/-! ### errors -/
/-- an error of the class x leaves, new, with these fields -/
def Ex (K : PySem.W.Frag) (x : Str) (fs : List (Str × V)) (E : XK) (H : Hp) : Prop := ∀ d, H d = none → E (.ref (He.ga K x)) (some d) (upd H d (.xd fs))
def OpE (K : PySem.W.Frag) (n : Nat) (op : Int) (i : Int) (E : XK) (H : Hp) : Prop := Ex K (if IsOp n op then "Illegal" else "BadOperation") [("index", .int i), ("operation", .int op)] E H
/-- .. the first wrong operation of a log -/
def LogE (K : PySem.W.Frag) (s : Sd) (log : List Int) (E : XK) (H : Hp) : Prop := ∀ (i : Nat) (op : Int), log[i]? = some op → Leg s (log.take i) → ¬ OkOp (runS s (log.take i)) op → ∀ H', Kp [] H H' → OpE K s.n op i E H'
def SizeOk (size : Int) : Prop := 0 ≤ size ∧ size ≤ 60
instance (size : Int) : Decidable (SizeOk size) := by unfold SizeOk; infer_instance
/-! ### gaps -/
def stT (s : Sd) (v : Nat) : Str := if gI s.R v = (v : Int) + 1 then (if gI s.L (v + 1) = (v : Int) then "joined" else "left") else (if gI s.L (v + 1) = (v : Int) then "right" else "lost")
def lostL (s : Sd) : List Nat := (List.range (s.n + 1)).filter fun v => decide (stT s v = "lost")
/-! ### promises -/
section
variable (K : PySem.W.Frag)
def sp_check_size : Sp := fun vs H Q E => ∃ size : Int, vs = [.int size] ∧ (SizeOk size → Q .non H) ∧ (¬ SizeOk size → Ex K "BadSize" [("size", .int size)] E H)
def sp_check_operation : Sp := fun vs H Q E => ∃ (n : Nat) (op i : Int), vs = [.int n, .int op, .int i] ∧ (IsOp n op → Q .non H) ∧ (¬ IsOp n op → Ex K "BadOperation" [("index", .int i), ("operation", .int op)] E H)
def sp_check_gap : Sp := fun vs H Q E => ∃ (n : Nat) (g : Int), vs = [.int n, .int g] ∧ (0 ≤ g ∧ g ≤ n → Q .non H) ∧ (¬ (0 ≤ g ∧ g ≤ n) → Ex K "BadGap" [("gap", .int g)] E H)
def sp_Links___init__ : Sp := fun vs H Q E => ∃ (p dx : Addr) (size : Int), vs = [.ref p, .int size] ∧ H p = some (.ins (He.ga K "Links") dx []) ∧
  (SizeOk size → ∀ (r l o : Addr) (H' : Hp), H r = none → H l = none → H o = none → Kp [p] H H' → LinksAt K H' p r l o (wholeS size.toNat) → Q .non H') ∧ (¬ SizeOk size → Ex K "BadSize" [("size", .int size)] E H)
def sp_Links_is_legal : Sp := fun vs H Q E => ∃ (p r l o : Addr) (s : Sd) (op : Int), vs = [.ref p, .int op] ∧ LinksAt K H p r l o s ∧ IsOp s.n op ∧ Q (.bl (decide (gB s.O op.natAbs = decide (0 < op)))) H
def sp_Links_check : Sp := fun vs H Q E => ∃ (p r l o : Addr) (s : Sd) (op i : Int), vs = [.ref p, .int op, .int i] ∧ LinksAt K H p r l o s ∧ (OkOp s op → Q .non H) ∧ (¬ OkOp s op → OpE K s.n op i E H)
def sp_Links_apply_at : Sp := fun vs H Q E => ∃ (p r l o : Addr) (s : Sd) (op i : Int), vs = [.ref p, .int op, .int i] ∧ LinksAt K H p r l o s ∧ (OkOp s op → ∀ H', Kp [r, l, o] H H' → LinksAt K H' p r l o (stepS s op) → Q .non H') ∧ (¬ OkOp s op → OpE K s.n op i E H)
def sp_Links_apply : Sp := fun vs H Q E => ∃ (p r l o : Addr) (s : Sd) (op : Int), vs = [.ref p, .int op] ∧ LinksAt K H p r l o s ∧ (OkOp s op → ∀ H', Kp [r, l, o] H H' → LinksAt K H' p r l o (stepS s op) → Q .non H') ∧ (¬ OkOp s op → OpE K s.n op 0 E H)
def sp_Links_left : Sp := fun vs H Q E => ∃ (p r l o : Addr) (s : Sd) (v : Nat), vs = [.ref p, .int v] ∧ LinksAt K H p r l o s ∧ 1 ≤ v ∧ v ≤ s.n + 1 ∧ Q (.int (gI s.L v)) H
def sp_Links_right : Sp := fun vs H Q E => ∃ (p r l o : Addr) (s : Sd) (v : Nat), vs = [.ref p, .int v] ∧ LinksAt K H p r l o s ∧ v ≤ s.n ∧ Q (.int (gI s.R v)) H
/-- a new standing s -/
def NewS (H : Hp) (s : Sd) (Q : VK) : Prop := ∀ (p r l o : Addr) (H' : Hp), H p = none → H r = none → H l = none → H o = none → Kp [] H H' → LinksAt K H' p r l o s → Q (.ref p) H'
def sp_Links_copy : Sp := fun vs H Q E => ∃ (p r l o : Addr) (s : Sd), vs = [.ref p] ∧ LinksAt K H p r l o s ∧ NewS K H s Q
def sp_gap_state : Sp := fun vs H Q E => ∃ (p r l o : Addr) (s : Sd) (g : Int), vs = [.ref p, .int g] ∧ LinksAt K H p r l o s ∧ (0 ≤ g ∧ g ≤ s.n → Q (.str (stT s g.toNat)) H) ∧ (¬ (0 ≤ g ∧ g ≤ s.n) → Ex K "BadGap" [("gap", .int g)] E H)
def sp_gap_states : Sp := fun vs H Q E => ∃ (p r l o : Addr) (s : Sd), vs = [.ref p] ∧ LinksAt K H p r l o s ∧ ∀ (q : Addr) (H' : Hp), H q = none → Kp [] H H' → H' q = some (.lst ((List.range (s.n + 1)).map fun (v : Nat) => V.str (stT s v))) → Q (.ref q) H'
def sp_lost_gaps : Sp := fun vs H Q E => ∃ (p r l o : Addr) (s : Sd), vs = [.ref p] ∧ LinksAt K H p r l o s ∧ ∀ (q : Addr) (H' : Hp), H q = none → Kp [] H H' → H' q = some (.lst ((lostL s).map fun (v : Nat) => V.int (v : Int))) → Q (.ref q) H'
end
end G
set_option Elab.async false
set_option linter.all false
set_option maxRecDepth 100000
set_option maxHeartbeats 4000000
/-! More steps. -/
namespace G
open PySem PySem.Spec PyProof.Rows L2
section
variable {K : PySem.W.Frag} {σ : L2.St} {H : Hp} {Q : VK} {ta tb tc te : TE} {x y v : V} {D : Ends} {tl : TA} {i j : Int} {n m : Nat} {p q : Addr} {xs ys : List V} {A B : Prop}
theorem w_tT (a : A) : if true = true then A else B := iteT a
theorem w_tF (b : B) : if false = true then A else B := iteF b
theorem w_nT (a : A) : if (!false) = true then A else B := iteT a
theorem w_nF (b : B) : if (!true) = true then A else B := iteF b
theorem w_rz {C : Addr} {fs : List Str} {W : WX} (g : tl σ H fun us H1 => us.length = fs.length ∧ us.length ≤ 1000 ∧ ∀ d, H1 d = none → W (.ref C) (some d) σ (upd H1 d (.xd (fs.zip us).reverse))) : tRz C fs W tl D σ H := g
theorem w_rg1 {R : Int → Int → Hp → Prop} (g : te σ H fun x H1 => ∃ n, x = .int n ∧ R 0 n H1) : tRg1 te σ H R := g
theorem w_rg2 {R : Int → Int → Hp → Prop} (g : ta σ H fun x H1 => tb σ H1 fun y H2 => ∃ i j, x = .int i ∧ y = .int j ∧ R i j H2) : tRg2 ta tb σ H R := g
theorem w_n1 {R : Int → Prop} (g : R i) : ∃ n, V.int i = .int n ∧ R n := ⟨i, rfl, g⟩
theorem w_n2 {R : Int → Int → Prop} (g : R i j) : ∃ a b, V.int i = .int a ∧ V.int j = .int b ∧ R a b := ⟨i, j, rfl, rfl, g⟩
theorem w_sl {r : V → Option Int → Option Int → Hp → VK → Prop} {tlo thi : TO} (g : te σ H fun x H1 => tlo σ H1 fun l H2 => thi σ H2 fun u H3 => r x l u H3 Q) : tSl r te tlo thi σ H Q := g
theorem w_np {R : Option Int → Hp → Prop} (g : R none H) : tNoPart σ H R := g
theorem w_pt {R : Option Int → Hp → Prop} (g : te σ H fun x H1 => ∃ i, x = .int i ∧ R (some i) H1) : tPart te σ H R := g
theorem w_tr {R : Bool → Hp → Prop} (g : te σ H fun x H' => ∃ k, TruV K x H' k ∧ R k H') : tTr K te σ H R := g
theorem w_truL {R : Bool → Prop} (h : SqL K H p xs) (g : R (!xs.isEmpty)) : ∃ k, TruV K (.ref p) H k ∧ R k := ⟨_, .inl ⟨xs, h, rfl⟩, g⟩
theorem w_gn {k : Nat} {R : L2.St → Hp → Prop} (g : R (σ.set k (some v)) H) : gName k v σ H R := g
theorem w_g1 {g1 : TG} {R : L2.St → Hp → Prop} (g : g1 x σ H R) : gCons g1 gNil [x] σ H R := ⟨x, [], rfl, by
  have e : (fun σ2 H2 => gNil [] σ2 H2 R) = R := funext fun σ2 => funext fun H2 => propext ⟨fun z => z.2, fun z => ⟨rfl, z⟩⟩
  rw [e]
  exact g⟩
theorem w_gc {g1 : TG} {ts : TGs} {R : L2.St → Hp → Prop} (g : g1 x σ H fun σ1 H1 => ts (y :: xs) σ1 H1 R) : gCons g1 ts (x :: y :: xs) σ H R := ⟨x, y :: xs, rfl, g⟩
theorem w_gt {T : Addr} {k : Nat} {ts : TGs} {R : L2.St → Hp → Prop} (h : SqT K H T xs) (hl : xs.length = k) (g : ts xs σ H R) : gTup K k ts (.ref T) σ H R := ⟨T, xs, rfl, h, hl, g⟩
/-- a new object: the heap goes on under a name -/
def NwU (o : HO) (H : Hp) (Q : VK) : Prop := ∀ q, H q = none → Q (.ref q) (upd H q o)
theorem nw {o : HO} (g : ∀ q H', H q = none → Kp [] H H' → H' q = some o → Q (.ref q) H') : NwU o H Q := fun q n => g q _ n (Kp.new n) upd_same
theorem w_lstN (g : tl σ H fun xs H1 => xs.length ≤ sizeLine ∧ NwU (.lst xs) H1 Q) : tLst tl σ H Q := g
theorem w_tupN (g : tl σ H fun xs H1 => xs.length ≤ sizeLine ∧ NwU (.tup xs) H1 Q) : tTup tl σ H Q := g
theorem w_lrgN {t : L2.St → Hp → (Int → Int → Hp → Prop) → Prop} (g : t σ H fun a b H1 => RgOk a b ∧ NwU (.lst (rgV a b)) H1 Q) : tLstRg t σ H Q := g
theorem w_addLN (h1 : H p = some (.lst xs)) (h2 : H q = some (.lst ys)) (h : xs.length + ys.length ≤ sizeLine) (g : ∀ r H', H r = none → Kp [] H H' → H' r = some (.lst (xs ++ ys)) → Q (.ref r) H') : rAddA (.ref p) (.ref q) H Q := w_addL h1 h2 h (nw g)
theorem w_mulLN (h1 : H p = some (.lst xs)) (h2 : -(2 ^ 63) ≤ j) (h3 : j < 2 ^ 63) (h : xs.length * j.toNat ≤ sizeLine) (g : ∀ r H', H r = none → Kp [] H H' → H' r = some (.lst (List.replicate j.toNat xs).flatten) → Q (.ref r) H') : rMulA (.ref p) (.int j) H Q := w_mulL h1 h2 h3 h (nw g)
theorem w_listLN (h : SqL K H p xs) (g : ∀ l H', H l = none → Kp [] H H' → H' l = some (.lst xs) → Q (.ref l) H') : rListA K [.ref p] H Q := w_listL h (nw g)
theorem w_sT {C dx : Addr} {fs : List (Str × V)} {f : Str} {R : Hp → Prop} {v : V} (cl : Cls K C) (na : NoAttr K C f) (h : H p = some (.ins C dx fs)) (hl : fs.length < 1000) (g : ∀ H', Kp [p] H H' → H' p = some (.ins C dx (putF f v fs)) → R H') :
    ∃ a C dx fs, V.ref p = .ref a ∧ H a = some (.ins C dx fs) ∧ Cls K C ∧ NoAttr K C f ∧ fs.length < 1000 ∧ R (upd H a (.ins C dx (putF f v fs))) := ⟨p, C, dx, fs, rfl, h, cl, na, hl, g _ (Kp.put (by simp)) upd_same⟩
theorem w_seT {R : Hp → Prop} (h : H p = some (.lst xs)) (ha : ixN xs.length i = some n) (g : ∀ H', Kp [p] H H' → H' p = some (.lst (xs.set n v)) → R H') : rSetL (.ref p) (.int i) v H R := w_setL h ha (g _ (Kp.put (by simp)) upd_same)
theorem w_apT (h : H p = some (.lst xs)) (hl : xs.length < sizeLine) (g : ∀ H', Kp [p] H H' → H' p = some (.lst (xs ++ [v])) → Q .non H') : rAppend (.ref p) [v] H Q := w_append h hl (g _ (Kp.put (by simp)) upd_same)
/-- an object of a class, made: its dict, the object -/
def MkU (C : Addr) (sp : Sp) (E : XK) (vs : List V) (H : Hp) (Q : VK) : Prop := ∀ x dx, H x = none → H dx = none → dx ≠ x → sp (.ref x :: vs) (upd (upd H dx (.own x)) x (.ins C dx [])) (fun v H2 => v = .non ∧ Q (.ref x) H2) E
theorem w_mkN {C : Addr} {sp : Sp} {E : L2.St → XK} (g : tl σ H fun vs H1 => MkU C sp (E σ) vs H1 Q) : tMk C sp E tl σ H Q := g
theorem mk {C : Addr} {sp : Sp} {E : XK} {vs : List V} (g : ∀ x dx H', H x = none → H' x = some (.ins C dx []) → Kp [] H H' → sp (.ref x :: vs) H' (fun v H2 => v = .non ∧ Q (.ref x) H2) E) : MkU C sp E vs H Q :=
  fun x dx n1 n2 ne => g x dx _ n1 upd_same ((Kp.new n2).trans (Kp.new (by rw [upd_ne (Ne.symm ne)]; exact n1)))
theorem w_r1 {R : Int → Prop} {n : Int} (h : -(2 ^ 62) ≤ n ∧ n < 2 ^ 62) (g : R n) : ∃ j : Int, [V.int n] = [.int j] ∧ -(2 ^ 62) ≤ j ∧ j < 2 ^ 62 ∧ R j := ⟨n, rfl, h.1, h.2, g⟩
theorem w_r2 {R : Int → Int → Prop} {a b : Int} (h : -(2 ^ 62) ≤ a ∧ a < 2 ^ 62 ∧ -(2 ^ 62) ≤ b ∧ b < 2 ^ 62) (g : R a b) : ∃ i j : Int, [V.int a, V.int b] = [.int i, .int j] ∧ (-(2 ^ 62) ≤ i ∧ i < 2 ^ 62 ∧ -(2 ^ 62) ≤ j ∧ j < 2 ^ 62) ∧ R i j := ⟨a, b, rfl, h, g⟩
theorem w_yes {R : Bool → Hp → Prop} (g : R true H) : tYes σ H R := g
theorem ref_ne : V.ref p ≠ .non := fun z => by cases z
theorem int_ne : V.int i ≠ .non := fun z => by cases z
theorem at_0 : atI (x :: xs) 0 = some x := by
  rw [atI_pos (by omega) (by rw [List.length_cons]; omega)] <;> rfl
theorem w_l1 {R : Addr → Prop} (h : SqL K H p xs) (g : R p) : ∃ a, V.ref p = .ref a ∧ (∃ xs, SqL K H a xs) ∧ R a := ⟨p, rfl, ⟨xs, h⟩, g⟩
/-- a field of a standing -/
theorem w_fR {r l o : Addr} {s : Sd} {R : V → Prop} (cl : Cls K (He.ga K "Links")) (na : NoAttr K (He.ga K "Links") "_rights") (a : LinksAt K H p r l o s) (g : R (.ref r)) :
    ∃ a C dx fs v, V.ref p = .ref a ∧ H a = some (.ins C dx fs) ∧ Cls K C ∧ NoAttr K C "_rights" ∧ fs.lookup ("_rights" : Str) = some v ∧ R v := by
  obtain ⟨dx, h⟩ := a.ob
  exact ⟨p, _, dx, _, _, rfl, h, cl, na, fl_R _ _ _ _, g⟩
theorem w_fL {r l o : Addr} {s : Sd} {R : V → Prop} (cl : Cls K (He.ga K "Links")) (na : NoAttr K (He.ga K "Links") "_lefts") (a : LinksAt K H p r l o s) (g : R (.ref l)) :
    ∃ a C dx fs v, V.ref p = .ref a ∧ H a = some (.ins C dx fs) ∧ Cls K C ∧ NoAttr K C "_lefts" ∧ fs.lookup ("_lefts" : Str) = some v ∧ R v := by
  obtain ⟨dx, h⟩ := a.ob
  exact ⟨p, _, dx, _, _, rfl, h, cl, na, fl_L _ _ _ _, g⟩
theorem w_fO {r l o : Addr} {s : Sd} {R : V → Prop} (cl : Cls K (He.ga K "Links")) (na : NoAttr K (He.ga K "Links") "_out") (a : LinksAt K H p r l o s) (g : R (.ref o)) :
    ∃ a C dx fs v, V.ref p = .ref a ∧ H a = some (.ins C dx fs) ∧ Cls K C ∧ NoAttr K C "_out" ∧ fs.lookup ("_out" : Str) = some v ∧ R v := by
  obtain ⟨dx, h⟩ := a.ob
  exact ⟨p, _, dx, _, _, rfl, h, cl, na, fl_O _ _ _ _, g⟩
theorem w_fS {r l o : Addr} {s : Sd} {R : V → Prop} (cl : Cls K (He.ga K "Links")) (na : NoAttr K (He.ga K "Links") "size") (a : LinksAt K H p r l o s) (g : R (.int s.n)) :
    ∃ a C dx fs v, V.ref p = .ref a ∧ H a = some (.ins C dx fs) ∧ Cls K C ∧ NoAttr K C "size" ∧ fs.lookup ("size" : Str) = some v ∧ R v := by
  obtain ⟨dx, h⟩ := a.ob
  exact ⟨p, _, dx, _, _, rfl, h, cl, na, fl_size _ _ _ _, g⟩
/-- .. of an object with the fields of a standing -/
theorem w_oR {dx : Addr} {n r l o : V} {R : V → Prop} (cl : Cls K (He.ga K "Links")) (na : NoAttr K (He.ga K "Links") "_rights") (h : H p = some (.ins (He.ga K "Links") dx (fl n r l o))) (g : R r) :
    ∃ a C dx fs v, V.ref p = .ref a ∧ H a = some (.ins C dx fs) ∧ Cls K C ∧ NoAttr K C "_rights" ∧ fs.lookup ("_rights" : Str) = some v ∧ R v := ⟨p, _, dx, _, _, rfl, h, cl, na, fl_R _ _ _ _, g⟩
theorem w_oL {dx : Addr} {n r l o : V} {R : V → Prop} (cl : Cls K (He.ga K "Links")) (na : NoAttr K (He.ga K "Links") "_lefts") (h : H p = some (.ins (He.ga K "Links") dx (fl n r l o))) (g : R l) :
    ∃ a C dx fs v, V.ref p = .ref a ∧ H a = some (.ins C dx fs) ∧ Cls K C ∧ NoAttr K C "_lefts" ∧ fs.lookup ("_lefts" : Str) = some v ∧ R v := ⟨p, _, dx, _, _, rfl, h, cl, na, fl_L _ _ _ _, g⟩
theorem w_oO {dx : Addr} {n r l o : V} {R : V → Prop} (cl : Cls K (He.ga K "Links")) (na : NoAttr K (He.ga K "Links") "_out") (h : H p = some (.ins (He.ga K "Links") dx (fl n r l o))) (g : R o) :
    ∃ a C dx fs v, V.ref p = .ref a ∧ H a = some (.ins C dx fs) ∧ Cls K C ∧ NoAttr K C "_out" ∧ fs.lookup ("_out" : Str) = some v ∧ R v := ⟨p, _, dx, _, _, rfl, h, cl, na, fl_O _ _ _ _, g⟩
/-- a method of a standing -/
theorem w_me {r l o : Addr} {s : Sd} {m : Str} {R : Prop} (a : LinksAt K H p r l o s) (hm : ∀ n r l o : V, (fl n r l o).lookup m = none) (g : R) : ∃ a dx fs, V.ref p = .ref a ∧ H a = some (.ins (He.ga K "Links") dx fs) ∧ fs.lookup m = none ∧ R := by
  obtain ⟨dx, h⟩ := a.ob
  exact ⟨p, dx, _, rfl, h, hm _ _ _ _, g⟩
end
/-- a method's name is none of the fields -/
theorem no_m {m : Str} (h1 : ¬ m = "size" := by decide +kernel) (h2 : ¬ m = "_rights" := by decide +kernel) (h3 : ¬ m = "_lefts" := by decide +kernel) (h4 : ¬ m = "_out" := by decide +kernel) (n r l o : V) : (fl n r l o).lookup m = none := fl_no n r l o h1 h2 h3 h4
theorem natAbs_if (i : Int) : (if i < 0 then -i else i) = (i.natAbs : Int) := by
  split <;> omega
end G
set_option Elab.async false
set_option linter.all false
set_option maxRecDepth 100000
set_option maxHeartbeats 4000000
/-! == by an own __eq__, any answer. -/
namespace G
open PySem PySem.Spec PyProof.Rows L2
section
variable {X : Cx} {j k : Nat} {ps : List Str} {sp : Sp} {E : XK} {C f : Addr} {fd : FuncData}
def rOwn (C : Addr) (sp : Sp) (E : XK) : R2 := fun x y H Q => ∃ a b dx dy fs gs, x = .ref a ∧ y = .ref b ∧ H a = some (.ins C dx fs) ∧ H b = some (.ins C dy gs) ∧ sp [.ref a, .ref b] H (fun v H' => (∃ k, v = .bl k) ∧ Q v H') E
theorem op_own (F : FnOk X.prog X.w X.K X.mg X.base (L2N.CX X.prog X.w) k f fd ps sp) (hb : Binds X.K fd ps []) (hr : Room j X.A) (hk : k ≤ j) (hx : PAt X (fun _ => E))
    (hs : PySem.W.findIn X.K (.ref C) "__eq__" = some (some (.ref f))) (hf : PySem.W.isFn X.K (.ref f) = true) : OpR X (compareOp .Eq) (rOwn C sp E) := by
  intro pins s σ H x y u v Q I rx ry hq
  obtain ⟨a, b, dx, dy, fs, gs, rfl, rfl, ha, hb', q⟩ := hq
  cases rx
  cases ry
  obtain ⟨mA, J, _⟩ := ins_get I.hok ha
  obtain ⟨mB, J', _⟩ := ins_get I.hok hb'
  obtain ⟨od, J, _⟩ := J.look
  obtain ⟨od', J', _⟩ := J'.look
  obtain ⟨m, hF⟩ := I.fr
  show wpAny (model X.prog X.w) X.A (richCompare .Eq (.ref a) (.ref b)) (EP X pins σ Q) X.xe s
  refine PySem.W.cmp_K (op := .Eq) (tb := .ref C) hr.units0 hF I.ok.mod.kin J J'.type (by simp [PySem.W.notFirst]) hs hf ?_
  refine wpAny_mono (run_fnS (E := fun _ => E) (us := [.ref a, .ref b]) (vs := [.ref a, .ref b]) F (hr.mono hk) hb (hx σ) I (.cons rfl (.cons rfl .nil)) q) (fun r s' z => ?_) fun _ _ x => x
  obtain ⟨w, H', I', rw_, ⟨kk, rfl⟩, qq⟩ := z
  cases rw_
  exact ⟨.bl kk, H', I', rfl, qq⟩
end
end G
namespace G
open PySem PySem.Spec PyProof.Rows L2
section
variable {X : Cx} {j k : Nat} {ps : List Str} {sp : Sp} {E : XK} {C : Addr}
/-- == of data, or by the own __eq__ of the class at C -/
def rEqO (K : PySem.W.Frag) (C : Addr) (sp : Sp) (E : XK) : R2 := fun x y H Q => rEqA K x y H Q ∨ rOwn C sp E x y H Q
theorem op_eqO {i : Nat} (c : Met X.prog X.w X.K X.mg X.base k C "__eq__" ps sp) (hr : Room j X.A) (hk : k ≤ j) (hx : PAt X (fun _ => E)) : OpR X (compareOp .Eq) (rEqO X.K C sp E) := by
  obtain ⟨f, fd, F, hm, hb⟩ := c.ex
  exact OpR.or (op_eqA hr) (op_own F hb hr hk hx hm.at_ hm.fn)
end
end G
namespace G
open PySem PySem.Spec PyProof.Rows L2
/-- isinstance of an instance of an own class -/
def tyB (x : Str) (K : PySem.W.Frag) : Bool := He.eqO (PySem.W.findIn K (.ref (He.ga K x)) "__class__") (some (some (.builtin "object.__class__"))) && eqT (PySem.W.mroIn K (He.ga K x) (.type "object")) (some true)
theorem tyB_ok {x : Str} {K : PySem.W.Frag} (q : tyB x K = true) : PySem.W.findIn K (.ref (He.ga K x)) "__class__" = some (some (.builtin "object.__class__")) ∧ PySem.W.mroIn K (He.ga K x) (.type "object") = some true := by
  obtain ⟨q1, q2⟩ := He.ba q
  exact ⟨He.eqO_ok q1, of_decide_eq_true q2⟩
end G
set_option Elab.async false
set_option linter.all false
set_option maxRecDepth 100000
set_option maxHeartbeats 4000000
/-! More built-ins: str, tuple, is True, pop, insert, extend. -/
namespace G
open PySem PySem.Spec PyProof.Rows L2
def rStrA : List V → Hp → VK → Prop := fun xs H Q => ∃ i, xs = [.int i] ∧ i.natAbs.log2 < 1920 ∧ Q (.str (toString i)) H
/-- x is True, x is False, of a truth value -/
def rIsB (neg : Bool) : R2 := fun x y H Q => ∃ b c, x = .bl b ∧ y = .bl c ∧ Q (.bl (neg != decide (b = c))) H
section
variable {X : Cx}
theorem call_strA : CallR X (.type "str") rStrA := call_str_int
theorem op_isB : OpR X (compareOp .Is) (rIsB false) := by
  intro pins s σ H x y v u Q I rx ry h
  obtain ⟨b, c, rfl, rfl, q⟩ := h
  cases rx
  cases ry
  show wpAny _ _ ((isSame (Value.bool b) (Value.bool c)) >>= fun z => pure (Value.bool z)) _ _ s
  refine wpAny_bind (wpAny_isSame_plain rfl (wpAny_pure (fin_bl I q ?_)))
  cases b <;> cases c <;> rfl
theorem op_isnotB : OpR X (compareOp .IsNot) (rIsB true) := by
  intro pins s σ H x y v u Q I rx ry h
  obtain ⟨b, c, rfl, rfl, q⟩ := h
  cases rx
  cases ry
  show wpAny _ _ ((isSame (Value.bool b) (Value.bool c)) >>= fun z => pure (Value.bool (!z))) _ _ s
  refine wpAny_bind (wpAny_isSame_plain rfl (wpAny_pure (fin_bl I q ?_)))
  cases b <;> cases c <;> rfl
end
section
variable {K : PySem.W.Frag} {σ : L2.St} {H : Hp} {Q : VK} {ta tb tc te : TE} {x y v : V} {i j : Int} {n m : Nat} {p q : Addr} {xs ys : List V} {b c : Bool}
theorem w_str (h : i.natAbs.log2 < 1920) (g : Q (.str (toString i)) H) : rStrA [.int i] H Q := ⟨i, rfl, h, g⟩
theorem w_isB (g : Q (.bl (decide (b = c))) H) : rIsB false (.bl b) (.bl c) H Q := ⟨b, c, rfl, rfl, by
  have e : (false != decide (b = c)) = decide (b = c) := by cases decide (b = c) <;> rfl
  rw [e]; exact g⟩
theorem w_isnB (g : Q (.bl (!decide (b = c))) H) : rIsB true (.bl b) (.bl c) H Q := ⟨b, c, rfl, rfl, by
  have e : (true != decide (b = c)) = !decide (b = c) := by cases decide (b = c) <;> rfl
  rw [e]; exact g⟩
theorem w_popAt {k : Nat} (h : H p = some (.lst xs)) (h1 : -(2 ^ 63) ≤ i) (h2 : i < 2 ^ 63) (hk : seqIndex? i xs.length = some k) (hy : xs[k]? = some y) (g : ∀ H', Kp [p] H H' → H' p = some (.lst (xs.eraseIdx k)) → Q y H') : rPopAt (.ref p) [.int i] H Q :=
  ⟨p, xs, i, k, y, rfl, rfl, h, h1, h2, hk, hy, g _ (Kp.put (by simp)) upd_same⟩
theorem w_inL {neg : Bool} (h : SqL K H p xs) (hx : flatV x = true) (ha : xs.all flatV = true) (g : Q (.bl (if neg then !inV x xs else inV x xs)) H) : rIn K neg x (.ref p) H Q := ⟨p, xs, rfl, .inl h, hx, ha, g⟩
theorem w_inT {neg : Bool} (h : SqT K H p xs) (hx : flatV x = true) (ha : xs.all flatV = true) (g : Q (.bl (if neg then !inV x xs else inV x xs)) H) : rIn K neg x (.ref p) H Q := ⟨p, xs, rfl, .inr h, hx, ha, g⟩
end
end G
set_option Elab.async false
set_option linter.all false
set_option maxRecDepth 100000
set_option maxHeartbeats 4000000
/-! Static methods, texts, more in a handler; a head with defs at any address. -/
namespace G
open PySem PySem.Spec PyProof.Rows L2
/-! ### a static method by its class -/
/-! ### the head, defs at any address -/
def obsY (fa : List Chk) (fn : List He5.DefA) (K : PySem.W.Frag) : He.AlD := ((fa.all fun f => f K) && fn.all fun d => d.ok K, fn.map fun d => He5.fnA K (d.at_ K))
def valY (fn : List He5.DefA) : He.AlD := (true, fn.map He5.DefA.val)
def SaysY (fa : List Chk) (fn : List He5.DefA) (K : PySem.W.Frag) : Prop := obsY fa fn K = valY fn
section
variable {fa : List Chk} {fn : List He5.DefA} {K : PySem.W.Frag}
theorem SaysY.fact (c : SaysY fa fn K) (i : Nat) {f : Chk} (h : fa[i]? = some f := by rfl) : f K = true := by
  have c1 := (He.ba (show ((fa.all fun f => f K) && fn.all fun d => d.ok K) = true from congrArg (fun z : He.AlD => z.1) c)).1
  exact List.all_eq_true.mp c1 f (List.mem_of_getElem? h)
theorem SaysY.def_ (c : SaysY fa fn K) (i : Nat) {d : He5.DefA} (h : fn[i]? = some d := by rfl) : ∃ fd, FunD K d.name d.qual d.params d.body d.scope (d.dvs K) (d.kws K) (d.at_ K) fd := by
  have c2 := (He.ba (show ((fa.all fun f => f K) && fn.all fun d => d.ok K) = true from congrArg (fun z : He.AlD => z.1) c)).2
  have e : fn.map (fun d => He5.fnA K (d.at_ K)) = fn.map He5.DefA.val := congrArg (fun z : He.AlD => z.2) c
  have e2 : (fn.map fun d => He5.fnA K (d.at_ K))[i]? = (fn.map He5.DefA.val)[i]? := by rw [e]
  rw [List.getElem?_map, List.getElem?_map, h] at e2
  exact He5.DefA.funD (Option.some.inj e2) (List.all_eq_true.mp c2 d (List.mem_of_getElem? h))
end
/-! ### where an exception is handled -/
/-! ### texts -/
def rJoin (K : PySem.W.Frag) : V → List V → Hp → VK → Prop := fun x xs H Q => ∃ a p, ∃ ys : List Str, x = .str a ∧ xs = [.ref p] ∧ (SqL K H p (ys.map V.str) ∨ SqT K H p (ys.map V.str)) ∧
    (ys.map (·.length)).sum + ys.length * a.length ≤ 16777216 ∧ Q (.str (Txt.join a ys)) H
section
variable {X : Cx} {o e : Expr} {to te : TE}
theorem pe_joinA {apos pos : Pos} (ho : PE X o to) (he : PE X e te) (hs : starEach [e] X.env = [(false, eval e X.env)] := by rfl) (hbase : attributeBase o "join" X.env (eval o X.env) = eval o X.env := by rfl) (hline : (apos.endLine == pos.line) = true := by rfl) :
    PE X (.Call (.Attribute o "join" apos) [e] [] pos) (tM1 (rJoin X.K) to te) := pe_join ho he hs hbase hline
end
section
variable {K : PySem.W.Frag} {σ : L2.St} {H : Hp} {Q : VK} {ta tb tc te : TE} {x y v : V} {i j : Int} {n m : Nat} {p q : Addr} {xs ys : List V} {b c : Bool}
theorem w_m1 {r : V → List V → Hp → VK → Prop} (g : ta σ H fun x H1 => (∃ a, x = .str a) ∧ te σ H1 fun y H2 => r x [y] H2 Q) : tM1 r ta te σ H Q := g
theorem w_joinL {a : Str} {ss : List Str} (h : SqL K H p (ss.map V.str)) (hl : (ss.map (·.length)).sum + ss.length * a.length ≤ 16777216) (g : Q (.str (Txt.join a ss)) H) : rJoin K (.str a) [.ref p] H Q := ⟨a, p, ss, rfl, rfl, .inl h, hl, g⟩
theorem w_exS {P : Prop} {a : Str} (g : P) : (∃ b, V.str a = .str b) ∧ P := ⟨⟨a, rfl⟩, g⟩
theorem w_iS {R : It → Hp → Prop} (g : ta σ H fun v H1 => ∃ x, v = .str x ∧ R (Its x) H1) : iStr ta σ H R := g
end
end G
set_option Elab.async false
set_option linter.all false
set_option maxRecDepth 100000
set_option maxHeartbeats 4000000
/-! What a log writes down: last writes, last changes, the first loss. Promises of the defs that read logs. -/
namespace G
open PySem PySem.Spec PyProof.Rows L2
/-! ### the book -/
structure Bk where
  s : Sd
  k : Nat
  wr : List Int
  wl : List Int
  de : List Int
  ls : Option (Nat × Nat)
def lowN (s : Sd) (op : Int) : Nat := (gI s.L op.natAbs).toNat
def hiN (s : Sd) (op : Int) : Nat := (gI s.R op.natAbs).toNat - 1
def deS (s s' : Sd) (k : Nat) (de : List Int) (g : Nat) : List Int := if stT s g = stT s' g then de else de.set g (k : Int)
def lsS (s s' : Sd) (k g : Nat) (ls : Option (Nat × Nat)) : Option (Nat × Nat) := if ls = none ∧ stT s g ≠ stT s' g ∧ stT s' g = "lost" then some (k, g) else ls
def bstep (b : Bk) (op : Int) : Bk :=
  let s' := stepS b.s op
  ⟨s', b.k + 1, b.wr.set (lowN b.s op) (b.k : Int), b.wl.set (hiN b.s op) (b.k : Int), deS b.s s' b.k (deS b.s s' b.k b.de (lowN b.s op)) (hiN b.s op), lsS b.s s' b.k (hiN b.s op) (lsS b.s s' b.k (lowN b.s op) b.ls)⟩
def bk0 (n : Nat) : Bk := ⟨wholeS n, 0, List.replicate (n + 1) (-1), List.replicate (n + 1) (-1), List.replicate (n + 1) (-1), none⟩
def bkR (n : Nat) (log : List Int) : Bk := log.foldl bstep (bk0 n)
/-! ### promises -/
section
variable (K : PySem.W.Frag)
/-- the errors of a log from the whole list -/
structure RepE (H : Hp) (size : Int) (log : List Int) (E : XK) : Prop where
  op : SizeOk size → LogE K (wholeS size.toNat) log E H
  sz : ¬ SizeOk size → ∀ H', Kp [] H H' → Ex K "BadSize" [("size", .int size)] E H'
theorem RepE.kp {K : PySem.W.Frag} {H H1 : Hp} {size : Int} {log : List Int} {E : XK} (r : RepE K H size log E) (k : Kp [] H H1) : RepE K H1 size log E :=
  ⟨fun ok i op h l b H' k' => r.op ok i op h l b H' (k.trans k'), fun b H' k' => r.sz b H' (k.trans k')⟩
/-- None or a pair -/
def OptP (H : Hp) (v : V) : Option (Nat × Nat) → Prop
  | none => v = .non
  | some (k, g) => ∃ t, v = .ref t ∧ H t = some (.tup [.int (k : Int), .int (g : Int)])
end
end G
set_option Elab.async false
set_option linter.all false
set_option maxRecDepth 100000
set_option maxHeartbeats 4000000
/-! What the law's own defs promise. -/
namespace G
open PySem PySem.Spec PyProof.Rows L2
def Bag (H : Hp) (b : Addr) : Prop := ∃ c m t : Int, H b = some (.lst [.int c, .int m, .int t])
/-- the law's own standing: a list of a size and three lists -/
structure LW (H : Hp) (w r l o : Addr) (s : Sd) : Prop where
  ob : H w = some (.lst [.int s.n, .ref r, .ref l, .ref o])
  hr : H r = some (.lst (s.R.map V.int))
  hl : ∃ L' : List Int, H l = some (.lst (L'.map V.int)) ∧ L'.length = s.n + 2 ∧ ∀ v, 1 ≤ v → gI L' v = gI s.L v
  ho : H o = some (.lst (s.O.map V.bl))
  ne : r ≠ l ∧ r ≠ o ∧ l ≠ o ∧ w ≠ r ∧ w ≠ l ∧ w ≠ o
  wf : Wf s
theorem LW.kp {H H' : Hp} {w r l o : Addr} {s : Sd} {S : List Addr} (a : LW H w r l o s) (k : Kp S H H') (h1 : w ∉ S) (h2 : r ∉ S) (h3 : l ∉ S) (h4 : o ∉ S) : LW H' w r l o s := by
  obtain ⟨L', e1, e2⟩ := a.hl
  exact ⟨k _ _ h1 a.ob, k _ _ h2 a.hr, ⟨L', k _ _ h3 e1, e2⟩, k _ _ h4 a.ho, a.ne, a.wf⟩
theorem LW.k0 {H H' : Hp} {w r l o : Addr} {s : Sd} (a : LW H w r l o s) (k : Kp [] H H') : LW H' w r l o s := a.kp k (by simp) (by simp) (by simp) (by simp)
/-- out, by the last operation of the node -/
def outF (log : List Int) (v : Nat) : Bool := match log.reverse.find? (fun x => decide (x.natAbs = v)) with
  | some x => decide (x < 0)
  | none => false
/-- each operation turns its node -/
def Alt (log : List Int) : Prop := ∀ i op, log[i]? = some op → outF (log.take i) op.natAbs = decide (0 < op)
section
def sp_law (K : PySem.W.Frag) : Sp := fun vs H Q E => ∃ (a : Addr) (ns : List Int), vs = [.ref a] ∧ SqL K H a (ns.map V.int) ∧ ns.length ≤ 63 ∧ ∀ H', Q (.bl true) H'
end
end G
set_option Elab.async false
set_option linter.all false
set_option maxRecDepth 100000
set_option maxHeartbeats 4000000
/-! k10: verdicts, certificates, values of many kinds. -/
namespace G
open PySem PySem.Spec PyProof.Rows L2
/-- the nodes that are out, from the least on -/
def outN (n : Nat) (O : List Bool) : List Int := (((List.range n).map fun (v : Nat) => v + 1).filter fun v => gB O v).map fun (v : Nat) => (v : Int)
theorem outN_len (n : Nat) (O : List Bool) : (outN n O).length ≤ n := by
  unfold outN
  rw [List.length_map]
  refine Nat.le_trans (List.length_filter_le _ _) ?_
  rw [List.length_map, List.length_range]
  exact Nat.le_refl _
/-! a verdict in the heap -/
def vfl (g a b w : V) : List (Str × V) := putF "whole" w (putF "index" b (putF "gap" a (putF "out_nodes" g [])))
theorem m1 : ¬ (("out_nodes" : Str) = "gap") := by decide +kernel
theorem m2 : ¬ (("out_nodes" : Str) = "index") := by decide +kernel
theorem m3 : ¬ (("out_nodes" : Str) = "whole") := by decide +kernel
def whB (a : V) (gone : List Int) : Bool := match a with
  | .non => decide ((gone.length : Int) = 0)
  | _ => false
structure VdAt (K : PySem.W.Frag) (H : Hp) (x g : Addr) (gone : List Int) (a b : V) : Prop where
  ob : ∃ dx, H x = some (.ins (He.ga K "Verdict") dx (vfl (.ref g) a b (.bl (whB a gone))))
  hg : H g = some (.lst (gone.map V.int))
theorem VdAt.kp {K : PySem.W.Frag} {H H' : Hp} {x g : Addr} {gone : List Int} {a b : V} {S : List Addr} (v : VdAt K H x g gone a b) (k : Kp S H H') (h1 : x ∉ S) (h2 : g ∉ S) : VdAt K H' x g gone a b := by
  obtain ⟨dx, h⟩ := v.ob
  exact ⟨⟨dx, k _ _ h1 h⟩, k _ _ h2 v.hg⟩
theorem VdAt.k0 {K : PySem.W.Frag} {H H' : Hp} {x g : Addr} {gone : List Int} {a b : V} (v : VdAt K H x g gone a b) (k : Kp [] H H') : VdAt K H' x g gone a b := v.kp k (by simp) (by simp)
/-- the certificate of a gap -/
def paper (n : Nat) (log : List Int) (i : Nat) : List V := [.str (stT (runS (wholeS n) log) i), .int (gI (bkR n log).wr i), .int (gI (bkR n log).wl i)]
def PapersAt (H : Hp) (p : Addr) (n : Nat) (log : List Int) : Prop := ∃ ps : List V, H p = some (.lst ps) ∧ ps.length = n + 1 ∧ ∀ i, i ≤ n → ∃ t, ps[i]? = some (.ref t) ∧ H t = some (.tup (paper n log i))
theorem PapersAt.k0 {H H' : Hp} {p : Addr} {n : Nat} {log : List Int} (a : PapersAt H p n log) (k : Kp [] H H') : PapersAt H' p n log := by
  obtain ⟨ps, h1, h2, h3⟩ := a
  refine ⟨ps, k.at0 h1, h2, fun i hi => ?_⟩
  obtain ⟨t, h4, h5⟩ := h3 i hi
  exact ⟨t, h4, k.at0 h5⟩
theorem PapersAt.k1 {H H' : Hp} {p b : Addr} {n : Nat} {log : List Int} (a : PapersAt H p n log) (hb : Bag H b) (ne : p ≠ b) (k : Kp [b] H H') : PapersAt H' p n log := by
  obtain ⟨ps, h1, h2, h3⟩ := a
  refine ⟨ps, k.at1 ne h1, h2, fun i hi => ?_⟩
  obtain ⟨t, h4, h5⟩ := h3 i hi
  obtain ⟨c, m, t', hb⟩ := hb
  exact ⟨t, h4, k.at1 (ne_of h5 hb (by intro z; cases z)) h5⟩
/-! values of many kinds, apart from b -/
mutual
inductive Vl (b : Addr) (H : Hp) : V → PyData → Prop
  | non : Vl b H .non .none
  | bl (k : Bool) : Vl b H (.bl k) (.bool k)
  | int (i : Int) : Vl b H (.int i) (.int i)
  | str (x : Str) : Vl b H (.str x) (.str x)
  | lst {a : Addr} {xs : List V} {ds : List PyData} : a ≠ b → H a = some (.lst xs) → VlA b H xs ds → Vl b H (.ref a) (.list ds)
  | tup {a : Addr} {xs : List V} {ds : List PyData} : a ≠ b → H a = some (.tup xs) → VlA b H xs ds → Vl b H (.ref a) (.tuple ds)
inductive VlA (b : Addr) (H : Hp) : List V → List PyData → Prop
  | nil : VlA b H [] []
  | cons {v : V} {vs : List V} {d : PyData} {ds : List PyData} : Vl b H v d → VlA b H vs ds → VlA b H (v :: vs) (d :: ds)
end
mutual
theorem Vl.kp {b : Addr} {H H' : Hp} (k : Kp [b] H H') : ∀ (d : PyData) (v : V), Vl b H v d → Vl b H' v d
  | .none, _, h => by cases h; exact .non
  | .bool b, _, h => by cases h; exact .bl b
  | .int i, _, h => by cases h; exact .int i
  | .str x, _, h => by cases h; exact .str x
  | .list ds, _, h => by
    cases h with
    | lst ne hs ha => exact .lst ne (k.at1 ne hs) (VlA.kp k ds _ ha)
  | .tuple ds, _, h => by
    cases h with
    | tup ne hs ha => exact .tup ne (k.at1 ne hs) (VlA.kp k ds _ ha)
  | .dict _, _, h => by cases h
theorem VlA.kp {b : Addr} {H H' : Hp} (k : Kp [b] H H') : ∀ (ds : List PyData) (vs : List V), VlA b H vs ds → VlA b H' vs ds
  | [], _, h => by cases h; exact .nil
  | d :: ds, _, h => by
    cases h with
    | cons h1 h2 => exact .cons (Vl.kp k d _ h1) (VlA.kp k ds _ h2)
end
theorem Vl.k0 {b : Addr} {H H' : Hp} {v : V} {d : PyData} (h : Vl b H v d) (k : Kp [] H H') : Vl b H' v d := Vl.kp k.all d v h
/-- no truth value stands where a whole number should -/
def okv : PyData → Bool
  | .tuple [_, .bool _, _] => false
  | .tuple [_, _, .bool _] => false
  | _ => true
structure Val (b : Addr) (H : Hp) (v : V) : Prop where
  ex : ∃ d, Vl b H v d ∧ SeqAt.shaped d = true ∧ okv d = true
theorem Val.k1 {b : Addr} {H H' : Hp} {v : V} (h : Val b H v) (k : Kp [b] H H') : Val b H' v := by
  obtain ⟨d, h1, h2⟩ := h.ex
  exact ⟨d, Vl.kp k d v h1, h2⟩
/-! promises -/
section
def sp_Links_outs (K : PySem.W.Frag) : Sp := fun vs H Q E => ∃ (p r l o : Addr) (s : Sd), vs = [.ref p] ∧ LinksAt K H p r l o s ∧ ∀ q H', H q = none → Kp [] H H' → H' q = some (.lst ((outN s.n s.O).map V.int)) → Q (.ref q) H'
end
end G
set_option Elab.async false
set_option linter.all false
set_option maxRecDepth 100000
set_option maxHeartbeats 4000000
/-! Texts of numbers, and of standings. -/
namespace G
open PySem PySem.Spec PyProof.Rows L2 TL
def numI (i : Int) : Str := Str.ofString (toString i)
def spS : Str := " "
def barS : Str := " | "
def joinI (l : List Int) : Str := Txt.join spS (l.map numI)
theorem tl_numI {i : Int} (h : 0 ≤ i) : tl (numI i) = numL i.toNat := by
  obtain ⟨n, rfl⟩ : ∃ n : Nat, i = (n : Int) := ⟨i.toNat, by omega⟩
  rw [Int.toNat_natCast]
  exact tl_num n
theorem tl_spS : tl spS = [32] := by decide +kernel
theorem tl_barS : tl barS = [32, 124, 32] := by decide +kernel
theorem numI_len {i : Int} (h : 0 ≤ i) (h2 : i < 1000000000) : (numI i).length ≤ 9 := by
  rw [len_tl, tl_numI h]
  exact numL_len (by decide) (by omega)
theorem split_joinI {l : List Int} (hne : l ≠ []) (h : ∀ i ∈ l, 0 ≤ i) : Txt.split (joinI l) spS = l.map numI := by
  refine split_join (y := spS) (s := 32) (S := []) tl_spS (by decide +kernel) (by simpa using hne) fun p hp => ?_
  obtain ⟨i, hi, rfl⟩ := List.mem_map.mp hp
  rw [tl_numI (h i hi)]
  exact numL_free (by omega)
theorem joinL_len (S : List Nat) : ∀ ps : List (List Nat), (joinL S ps).length ≤ (ps.map List.length).sum + ps.length * S.length
  | [] => by simp [joinL]
  | [p] => by simp [joinL]
  | p :: q :: r => by
    have ih := joinL_len S (q :: r)
    show (p ++ (S ++ joinL S (q :: r))).length ≤ _
    simp only [List.length_append, List.map_cons, List.sum_cons, List.length_cons, Nat.add_mul, Nat.one_mul] at ih ⊢
    omega
theorem sum_le9 : ∀ {l : List Int}, (∀ i ∈ l, 0 ≤ i ∧ i < 1000000000) → ((l.map numI).map (·.length)).sum ≤ 9 * l.length
  | [], _ => by simp
  | i :: l, h => by
    have ih := sum_le9 (l := l) fun j hj => h j (List.mem_cons_of_mem _ hj)
    have h0 := h i List.mem_cons_self
    have := numI_len h0.1 h0.2
    simp only [List.map_cons, List.sum_cons, List.length_cons]
    omega
theorem joinI_len {l : List Int} (h : ∀ i ∈ l, 0 ≤ i ∧ i < 1000000000) : (joinI l).length ≤ 10 * l.length := by
  unfold joinI
  rw [len_tl, join_eq, tl_join]
  refine Nat.le_trans (joinL_len _ _) ?_
  have := sum_le9 h
  rw [tl_spS, List.map_map, List.length_map, List.length_map]
  have e : (List.map (List.length ∘ tl) (List.map numI l)).sum = ((l.map numI).map (·.length)).sum := by
    congr 1
  rw [e]
  show _ + l.length * 1 ≤ _
  omega
theorem join_cost {l : List Int} (h : ∀ i ∈ l, 0 ≤ i ∧ i < 1000000000) (hl : l.length ≤ 1000) : ((l.map numI).map (·.length)).sum + (l.map numI).length * spS.length ≤ 16777216 := by
  have := sum_le9 h
  have e : spS.length = 1 := by decide +kernel
  rw [e, List.length_map]
  omega
theorem numI_inj {i j : Int} (hi : 0 ≤ i) (hj : 0 ≤ j) (e : numI i = numI j) : i = j := by
  have e2 := congrArg tl e
  rw [tl_numI hi, tl_numI hj] at e2
  have := numL_inj e2
  omega
/-! ### a text's parts -/
def GoodP (p : List Nat) : Prop := 124 ∉ p ∧ ∀ q, p ≠ q ++ [32]
theorem pre_bar {x y : Nat} (r : List Nat) (h : y ≠ 124) : pre [32, 124, 32] (x :: y :: r) = false := by
  cases hp : pre [32, 124, 32] (x :: y :: r) with
  | false => rfl
  | true =>
    have e : (x :: y :: r).take 3 = [32, 124, 32] := eq_of_beq hp
    rw [List.take_succ_cons, List.take_succ_cons] at e
    injection e with e1 e2
    injection e2 with e3 e4
    exact absurd e3 h
theorem good_free {p rest : List Nat} (g : GoodP p) : ∀ i, i < p.length → pre [32, 124, 32] ((p ++ rest).drop i) = false := by
  intro i hi
  have h1 : i < (p ++ rest).length := by rw [List.length_append]; omega
  have e1 : (p ++ rest).drop i = (p ++ rest)[i] :: (p ++ rest).drop (i + 1) := List.drop_eq_getElem_cons h1
  have e2 : (p ++ rest)[i] = p[i] := List.getElem_append_left hi
  rw [e1, e2]
  by_cases c : p[i] = 32
  · have lt : i + 1 < p.length := by
      apply Classical.byContradiction
      intro nlt
      have ei : i = p.length - 1 := by omega
      refine g.2 p.dropLast ?_
      have hne : p ≠ [] := fun z => by rw [z] at hi; simp at hi
      have := List.dropLast_concat_getLast hne
      rw [← this]
      congr 1
      · rw [List.dropLast_concat]
      · congr 1
        rw [List.getLast_eq_getElem]
        subst ei
        exact c
    have h2 : i + 1 < (p ++ rest).length := by rw [List.length_append]; omega
    have e3 : (p ++ rest).drop (i + 1) = (p ++ rest)[i + 1] :: (p ++ rest).drop (i + 2) := List.drop_eq_getElem_cons h2
    have e4 : (p ++ rest)[i + 1] = p[i + 1] := List.getElem_append_left lt
    rw [e3, e4]
    exact pre_bar _ fun z => g.1 (by rw [← z]; exact List.getElem_mem lt)
  · exact pre_of_head _ _ c
theorem split_bar {a b c : Str} (ga : GoodP (tl a)) (gb : GoodP (tl b)) (gc : GoodP (tl c)) : Txt.split (Txt.join barS [a, b, c]) barS = [a, b, c] := by
  refine map_tl_inj ?_
  rw [split_spl _ barS (by rw [tl_barS]; simp) (kind_ok (by decide +kernel)), join_eq, tl_join, tl_barS]
  show spl [32, 124, 32] 0 [] (tl a ++ ([32, 124, 32] ++ (tl b ++ ([32, 124, 32] ++ tl c)))) = [tl a, tl b, tl c]
  rw [spl_part (by simp) (good_free ga), spl_part (by simp) (good_free gb), spl_last (fun i hi => by
    have := good_free (rest := []) gc i hi
    rw [List.append_nil] at this
    exact this)]
  rfl
theorem joinL_mem {S : List Nat} {c : Nat} : ∀ {ps : List (List Nat)}, c ∈ joinL S ps → c ∈ S ∨ ∃ p ∈ ps, c ∈ p
  | [], h => by cases h
  | [p], h => .inr ⟨p, List.mem_singleton.mpr rfl, h⟩
  | p :: q :: r, h => by
    have h : c ∈ p ++ (S ++ joinL S (q :: r)) := h
    rcases List.mem_append.mp h with h | h
    · exact .inr ⟨p, List.mem_cons_self, h⟩
    rcases List.mem_append.mp h with h | h
    · exact .inl h
    rcases joinL_mem h with h | ⟨z, hz, h⟩
    · exact .inl h
    · exact .inr ⟨z, List.mem_cons_of_mem _ hz, h⟩
theorem joinL_last {S : List Nat} : ∀ {ps : List (List Nat)}, ps ≠ [] → (∀ p ∈ ps, p ≠ [] ∧ ∀ q, p ≠ q ++ [32]) → joinL S ps ≠ [] ∧ ∀ q, joinL S ps ≠ q ++ [32]
  | [], h, _ => absurd rfl h
  | [p], _, h => h p (List.mem_singleton.mpr rfl)
  | p :: q :: r, _, h => by
    obtain ⟨i1, i2⟩ := joinL_last (S := S) (ps := q :: r) (by simp) fun z hz => h z (List.mem_cons_of_mem _ hz)
    have hj : joinL S (p :: q :: r) = (p ++ S) ++ joinL S (q :: r) := (List.append_assoc ..).symm
    rw [hj]
    refine ⟨fun z => i1 (List.append_eq_nil_iff.mp z).2, fun t ht => ?_⟩
    have e := congrArg List.getLast? ht
    rw [List.getLast?_append, List.getLast?_concat, List.getLast?_eq_some_getLast i1, Option.some_or] at e
    have d := List.dropLast_concat_getLast i1
    have gl : (joinL S (q :: r)).getLast i1 = 32 := by injection e
    rw [gl] at d
    exact i2 _ d.symm
theorem numL_last (n : Nat) : ∀ q, numL n ≠ q ++ [32] := fun q e => by
  have := numL_digits n 32 (by rw [e]; simp)
  omega
theorem good_joinI {l : List Int} (hne : l ≠ []) (h : ∀ i ∈ l, 0 ≤ i) : GoodP (tl (joinI l)) := by
  unfold joinI
  rw [join_eq, tl_join, tl_spS]
  have hp : ∀ p ∈ (l.map numI).map tl, ∃ n, p = numL n := by
    intro p hp
    obtain ⟨z, hz, rfl⟩ := List.mem_map.mp hp
    obtain ⟨i, hi, rfl⟩ := List.mem_map.mp hz
    exact ⟨_, tl_numI (h i hi)⟩
  refine ⟨fun hm => ?_, (joinL_last (by simpa using hne) fun p hq => ?_).2⟩
  · rcases joinL_mem hm with z | ⟨p, hq, z⟩
    · simp at z
    · obtain ⟨n, rfl⟩ := hp p hq
      have := numL_digits n _ z
      omega
  · obtain ⟨n, rfl⟩ := hp p hq
    exact ⟨numL_ne n, numL_last n⟩
def noneS : Str := "none"
theorem good_none : GoodP (tl noneS) := by
  have e : tl noneS = [110, 111, 110, 101] := by decide +kernel
  rw [e]
  refine ⟨by decide, fun q h => ?_⟩
  have := congrArg List.getLast? h
  rw [List.getLast?_concat] at this
  simp at this
/-! ### the dump -/
def outsT (l : List Int) : Str := if l = [] then noneS else joinI l
def dumpS (s : Sd) : Str := Txt.join barS [joinI s.R, joinI (s.L.drop 1), outsT (outN s.n s.O)]
theorem joinI_ne_none {l : List Int} (hne : l ≠ []) (h : ∀ i ∈ l, 0 ≤ i) : ¬ joinI l = noneS := fun e => by
  have e2 := split_joinI hne h
  rw [e] at e2
  have d : Txt.split noneS spS = [noneS] := by
    refine map_tl_inj ?_
    rw [split_spl _ spS (by rw [tl_spS]; simp) (kind_ok (by decide +kernel))]
    decide +kernel
  rw [d] at e2
  match l, hne with
  | i :: r, _ =>
    rw [List.map_cons] at e2
    injection e2 with e3 e4
    have hi := h i List.mem_cons_self
    have t := congrArg tl e3
    rw [tl_numI hi] at t
    have m : (110 : Nat) ∈ numL i.toNat := by
      rw [← t]
      decide +kernel
    have := numL_digits _ _ m
    omega
theorem outN_bd {n : Nat} {O : List Bool} {i : Int} (h : i ∈ outN n O) : 1 ≤ i ∧ i ≤ n ∧ gB O i.toNat = true := by
  unfold outN at h
  obtain ⟨v, hv, rfl⟩ := List.mem_map.mp h
  obtain ⟨h1, h2⟩ := List.mem_filter.mp hv
  obtain ⟨u, hu, rfl⟩ := List.mem_map.mp h1
  have := List.mem_range.mp hu
  refine ⟨by omega, by omega, ?_⟩
  rw [Int.toNat_natCast]
  exact h2
end G
set_option Elab.async false
set_option linter.all false
set_option maxRecDepth 100000
set_option maxHeartbeats 4000000
/-! k07, k06: standings read from texts; what an operation changes. -/
namespace G
open PySem PySem.Spec PyProof.Rows L2
/-- a standing that can be read back: no left link of the head, the sentinels in -/
structure Snd (s : Sd) : Prop where
  l0 : ∃ t, s.L = 0 :: t
  o0 : gB s.O 0 = false
  o1 : gB s.O (s.n + 1) = false
theorem stepS_snd {s : Sd} (w : Wf s) (d : Snd s) {op : Int} (h : IsOp s.n op) : Snd (stepS s op) := by
  obtain ⟨t, e⟩ := d.l0
  obtain ⟨r1, r2⟩ := w.rb op.natAbs (by have := h.2; omega)
  have h1 := h.1
  have h2 := h.2
  refine ⟨?_, ?_, ?_⟩
  · obtain ⟨k, ek⟩ : ∃ k, (gI s.R op.natAbs).toNat = k + 1 := ⟨(gI s.R op.natAbs).toNat - 1, by omega⟩
    refine ⟨t.set k (if op < 0 then gI s.L op.natAbs else (op.natAbs : Int)), ?_⟩
    show s.L.set (gI s.R op.natAbs).toNat _ = _
    rw [ek]
    generalize (if op < 0 then gI s.L op.natAbs else (op.natAbs : Int)) = v
    rw [e]
    rfl
  · show gB (s.O.set op.natAbs _) 0 = false
    rw [gB_set (by rw [w.lO]; omega), if_neg (by omega)]
    exact d.o0
  · show gB (s.O.set op.natAbs _) (s.n + 1) = false
    rw [gB_set (by rw [w.lO]; omega), if_neg (by omega)]
    exact d.o1
theorem wholeS_snd (n : Nat) : Snd (wholeS n) := by
  refine ⟨⟨_, rfl⟩, ?_, ?_⟩
  · exact gB_of (by show (List.replicate (n + 2) false)[0]? = _; rw [List.getElem?_replicate_of_lt (by omega)])
  · exact gB_of (by show (List.replicate (n + 2) false)[n + 1]? = _; rw [List.getElem?_replicate_of_lt (by omega)])
/-! ### the gaps of foreign writes -/
def forW (s : Sd) (x : Nat) : List Int :=
  (if gI s.L x ≠ (x : Int) - 1 ∧ gI s.R (gI s.L x).toNat = gI s.L x + 1 then [gI s.L x] else []) ++
  (if gI s.R x ≠ (x : Int) + 1 ∧ gI s.L (gI s.R x).toNat = gI s.R x - 1 then [gI s.R x - 1] else [])
theorem forW_len (s : Sd) (x : Nat) : (forW s x).length ≤ 2 := by
  unfold forW
  rw [List.length_append]
  split <;> split <;> simp
/-! ### changes -/
abbrev Tr := Nat × Str × Str
def trV (t : Tr) : List V := [.int (t.1 : Int), .str t.2.1, .str t.2.2]
def TupsAt (H : Hp) (xs : List V) (ts : List Tr) : Prop := xs.length = ts.length ∧ ∀ (i : Nat) (t : Tr), ts[i]? = some t → ∃ a, xs[i]? = some (.ref a) ∧ H a = some (.tup (trV t))
theorem TupsAt.kp {S : List Addr} {H H' : Hp} {xs : List V} {ts : List Tr} (h : TupsAt H xs ts) (k : Kp S H H') (hS : ∀ b ∈ S, ∀ ys, H b ≠ some (.tup ys)) : TupsAt H' xs ts := by
  refine ⟨h.1, fun i t e => ?_⟩
  obtain ⟨a, h1, h2⟩ := h.2 i t e
  exact ⟨a, h1, k _ _ (fun z => hS a z _ h2) h2⟩
theorem TupsAt.k0 {H H' : Hp} {xs : List V} {ts : List Tr} (h : TupsAt H xs ts) (k : Kp [] H H') : TupsAt H' xs ts := h.kp k (by simp)
theorem TupsAt.nil {H : Hp} : TupsAt H [] [] := ⟨rfl, fun i t e => by simp at e⟩
theorem ne_w : ¬ ("joined" : Str) = "lost" ∧ ¬ ("left" : Str) = "lost" ∧ ¬ ("right" : Str) = "lost" ∧ ¬ ("left" : Str) = "joined" ∧ ¬ ("right" : Str) = "joined" ∧ ¬ ("lost" : Str) = "joined" ∧ ¬ ("right" : Str) = "left" ∧ ¬ ("lost" : Str) = "left" ∧ ¬ ("lost" : Str) = "right" ∧ ¬ ("joined" : Str) = "left" ∧ ¬ ("joined" : Str) = "right" ∧ ¬ ("left" : Str) = "right" := by
  decide +kernel
/-! ### promises -/
section
def Num9 (l : List Int) : Prop := ∀ i ∈ l, 0 ≤ i ∧ i < 1000000000
/-- a new list -/
def NewL (H : Hp) (xs : List V) (Q : VK) : Prop := ∀ a H', H a = none → Kp [] H H' → H' a = some (.lst xs) → Q (.ref a) H'
def Any (H : Hp) (v : V) (Q : VK) : Prop := ∀ H', Kp [] H H' → Q v H'
def sp__joined (K : PySem.W.Frag) : Sp := fun vs H Q E => ∃ (a : Addr) (l : List Int), vs = [.ref a] ∧ SqL K H a (l.map V.int) ∧ Num9 l ∧ l.length ≤ 100 ∧ Any H (.str (joinI l)) Q
def sp_dump_of (K : PySem.W.Frag) : Sp := fun vs H Q E => ∃ (r l o : Addr) (R L O : List Int), vs = [.ref r, .ref l, .ref o] ∧ SqL K H r (R.map V.int) ∧ SqL K H l (L.map V.int) ∧ SqL K H o (O.map V.int) ∧ (Num9 R ∧ R.length ≤ 100) ∧ (Num9 L ∧ L.length ≤ 100) ∧ (Num9 O ∧ O.length ≤ 100) ∧
  Any H (.str (Txt.join barS [joinI R, joinI L, outsT O])) Q
def sp_Links_dump (K : PySem.W.Frag) : Sp := fun vs H Q E => ∃ (p r l o : Addr) (s : Sd), vs = [.ref p] ∧ LinksAt K H p r l o s ∧ Any H (.str (dumpS s)) Q
def sp_foreign_writes (K : PySem.W.Frag) : Sp := fun vs H Q E => ∃ (p r l o : Addr) (s : Sd) (op : Int), vs = [.ref p, .int op] ∧ LinksAt K H p r l o s ∧ (OkOp s op → NewL H ((forW s op.natAbs).map V.int) Q) ∧ (¬ OkOp s op → OpE K s.n op 0 E H)
def legO (s : Sd) (v : Nat) : Int := if gB s.O v then (v : Int) else -(v : Int)
/-- the pairs of a gap and a state -/
def PrsAt (H : Hp) (xs : List V) (es : List (Nat × Str)) : Prop := xs.length = es.length ∧ ∀ (i : Nat) (e : Nat × Str), es[i]? = some e → ∃ a, xs[i]? = some (.ref a) ∧ H a = some (.tup [.int (e.1 : Int), .str e.2])
end
end G
set_option Elab.async false
set_option linter.all false
set_option maxRecDepth 100000
set_option maxHeartbeats 4000000
/-! Comprehensions over texts and pairs; cuts; all. -/
namespace G
open PySem PySem.Spec PyProof.Rows L2
section
variable {K : PySem.W.Frag} {σ : L2.St} {H : Hp} {Q : VK} {te : TE} {tt : TT} {g : TG} {vs : List Nat} {p : Addr} {xs ys : List V}
theorem cp_zip {a b : Addr} (h1 : SqL K H a xs) (h2 : SqL K H b ys) (hl : ys.length ≤ xs.length) (items : Nat → List V) (hz : ∀ i, i < ys.length → (items i).length < sizeLine) (h0 : items 0 = [])
    (hs : ∀ (i : Nat) (x y : V) (T : Addr) (H' : Hp) (S : V → Hp → Prop) (N : Hp → Prop), xs[i]? = some x → ys[i]? = some y → Kp [] H H' → H' T = none → (∀ z H4, Kp [] H' H4 → items (i + 1) = items i ++ [z] → S z H4) → (∀ H4, Kp [] H' H4 → items (i + 1) = items i → N H4) →
      g (.ref T) (wipe σ vs) (upd H' T (.tup [x, y])) fun σ2 H2 => wipe σ2 vs = wipe σ vs ∧ tt σ2 H2 fun b H3 => if b = true then te σ2 H3 S else N H3)
    (hd : ∀ D H', H D = none → Kp [] H H' → H' D = some (.lst (items ys.length)) → Q (.ref D) H') : CompG (Itz K a b) g tt te vs σ Q H :=
  cp_go (n := ys.length) items (fun H' => SqL K H' a xs ∧ SqL K H' b ys) hz h0 (fun _ k => ⟨k.sql (by simp) h1, k.sql (by simp) h2⟩)
    (fun i H' hi q => ⟨xs, ys, xs[i]'(by omega), ys[i], q.1, q.2, by simp [show i < xs.length by omega], by simp [hi]⟩) (fun H' q => ⟨xs, ys, q.1, q.2, .inr (Nat.le_refl _)⟩) (fun i v H' H'' S N hi k y e1 e2 => by
    obtain ⟨T, x, y, rfl, nT, rfl, hx, hy⟩ := y
    exact hs i x y T H' S N (hx xs (k.sql (by simp) h1)) (hy ys (k.sql (by simp) h2)) k nT e1 e2) hd
theorem w_slL {lo hi : Option Int} (h : SqL K H p xs) (g : ∀ q H', H q = none → Kp [] H H' → H' q = some (.lst (cutV xs lo hi)) → Q (.ref q) H') : rSlL K (.ref p) lo hi H Q := ⟨p, xs, rfl, h, nw g⟩
theorem cut_drop (xs : List V) (k : Nat) (h : k ≤ xs.length) : cutV xs (some (k : Int)) none = xs.drop k := by
  unfold cutV
  rw [HT.sIx_nat, HT.sIx_none, Nat.min_eq_left h]
  refine List.take_of_length_le ?_
  rw [List.length_drop] <;> omega
theorem cut_take (xs : List V) (k : Nat) (h : k ≤ xs.length) : cutV xs none (some (k : Int)) = xs.take k := by
  unfold cutV
  rw [HT.sIx_nat, HT.sIx_none, Nat.min_eq_left h, List.drop_zero, Nat.sub_zero]
theorem w_asu {D : Ends} {k : Nat} {ts : TGs} (h : te σ H fun v H0 => gUnl K k ts v σ H0 D.nx) : tAsg te (gUnl K k ts) D σ H := h
theorem rep_snoc {α : Type} (n : Nat) (x : α) : List.replicate (n + 1) x = List.replicate n x ++ [x] := List.replicate_succ'
theorem map_snoc {l : List Int} {i : Nat} {x : Int} {f : Int → V} (h : l[i]? = some x) : (l.take (i + 1)).map f = (l.take i).map f ++ [f x] := by
  rw [List.take_succ, h, List.map_append] <;> rfl
end
/-! ### joins behind an if -/
section
variable {σ : L2.St} {H : Hp} {s1 s2 a b : TS} {t : TT} {D : Ends}
def SeqIf (t : TT) (a b s2 : TS) : TS := tSeq (tIfS t a b) s2
theorem w_seqI (g : SeqIf t a b s2 D σ H) : tSeq (tIfS t a b) s2 D σ H := g
theorem w_ifK (P : Hp → Prop) (h1 : ∀ N : L2.St → Hp → Prop, (∀ H', P H' → N σ H') → tIfS t a b { D with nx := N } σ H) (h2 : ∀ H', P H' → s2 D σ H') : SeqIf t a b s2 D σ H := h1 _ h2
theorem w_ifJ (P : L2.St → Hp → Prop) (h1 : ∀ N : L2.St → Hp → Prop, (∀ σ' H', P σ' H' → N σ' H') → tIfS t a b { D with nx := N } σ H) (h2 : ∀ σ' H', P σ' H' → s2 D σ' H') : SeqIf t a b s2 D σ H := h1 _ h2
theorem w_seqJ (P : L2.St → Hp → Prop) (h1 : ∀ N : L2.St → Hp → Prop, (∀ σ' H', P σ' H' → N σ' H') → s1 { D with nx := N } σ H) (h2 : ∀ σ' H', P σ' H' → s2 D σ' H') : tSeq s1 s2 D σ H := h1 _ h2
end
end G
set_option Elab.async false
set_option linter.all false
set_option maxRecDepth 100000
set_option maxHeartbeats 4000000
/-! for over a tuple, a list, where an exception is handled. -/
set_option Elab.async false
set_option linter.all false
set_option maxRecDepth 100000
set_option maxHeartbeats 4000000
/-! xs[lo::k], `in` over data of any depth. -/
set_option Elab.async false
set_option linter.all false
set_option maxRecDepth 100000
set_option maxHeartbeats 1000000
/-! Words with a sign; f"{x:+d}". -/
set_option Elab.async false
set_option linter.all false
set_option maxRecDepth 100000
set_option maxHeartbeats 1000000
set_option Elab.async false
set_option linter.all false
set_option maxRecDepth 100000
set_option maxHeartbeats 1000000
/-! Words of logs, the text of a log, pieces of texts. -/
namespace G
open PySem PySem.Spec PyProof.Rows L2 TL NumText
def spC : Str := " "
theorem tl_spC : tl spC = [32] := by decide +kernel
def posL (cs : List Nat) : Bool := decide (cs ≠ [] ∧ cs.length ≤ 9 ∧ cs.head? ≠ some 48) && cs.all fun c => decide (48 ≤ c ∧ c ≤ 57)
def okW (w : Str) : Bool := match tl w with
  | [] => false
  | c :: cs => decide (c = 43 ∨ c = 45) && posL cs
def valW (w : Str) : Int := match tl w with
  | [] => 0
  | c :: cs => if c = 45 then -((digitsVal cs : Nat) : Int) else ((digitsVal cs : Nat) : Int)
/-! ### the numbers of a log -/
def wordsT (t : Str) : List Str := if t = "" then [] else Txt.split t spC
def badW (ws : List Str) : Option Nat := ws.findIdx? fun w => !okW w
/-! ### lengths -/
def sumL (ws : List Str) : Nat := (ws.map (·.length)).sum
theorem spl_sum : ∀ (l acc : List Nat), ((spl [32] 0 acc l).map List.length).sum ≤ acc.length + l.length ∧ (spl [32] 0 acc l).length ≤ l.length + 1 ∧ spl [32] 0 acc l ≠ []
  | [], acc => by
    rw [spl_nil]
    refine ⟨by simp, by simp, by simp⟩
  | c :: r, acc => by
    cases h : pre [32] (c :: r) with
    | true =>
      rw [spl_hit h]
      obtain ⟨i1, i2, i3⟩ := spl_sum r []
      show ((acc :: spl [32] 0 [] r).map List.length).sum ≤ _ ∧ (acc :: spl [32] 0 [] r).length ≤ _ ∧ acc :: spl [32] 0 [] r ≠ []
      refine ⟨?_, ?_, by simp⟩
      · simp only [List.map_cons, List.sum_cons, List.length_cons, List.length_nil] at i1 ⊢
        omega
      · simp only [List.length_cons] at i2 ⊢
        omega
    | false =>
      rw [spl_miss h]
      obtain ⟨i1, i2, i3⟩ := spl_sum r (acc ++ [c])
      refine ⟨?_, ?_, i3⟩
      · simp only [List.length_append, List.length_cons, List.length_nil] at i1 ⊢
        omega
      · simp only [List.length_cons] at i2 ⊢
        omega
theorem split_sum (t : Str) : sumL (Txt.split t spC) ≤ t.length ∧ (Txt.split t spC).length ≤ t.length + 1 ∧ Txt.split t spC ≠ [] := by
  have e := split_spl t spC (by rw [tl_spC]; simp) (kind_ok (by decide +kernel))
  rw [tl_spC] at e
  obtain ⟨h1, h2, h3⟩ := spl_sum (tl t) []
  rw [← e] at h1 h2 h3
  refine ⟨?_, ?_, fun z => h3 (by rw [z] <;> rfl)⟩
  · have : (List.map List.length ((Txt.split t spC).map tl)).sum = sumL (Txt.split t spC) := by
      unfold sumL
      rw [List.map_map]
      congr 1
    rw [this] at h1
    rw [len_tl]
    simpa using h1
  · rw [List.length_map] at h2
    rw [len_tl]
    exact h2
end G
set_option Elab.async false
set_option linter.all false
set_option maxRecDepth 100000
set_option maxHeartbeats 4000000
/-! Steps over texts: cuts, signs that are not in a text, insert, f"{x:+d}". -/
set_option Elab.async false
set_option linter.all false
set_option maxRecDepth 100000
set_option maxHeartbeats 4000000
/-! Two clauses under one name. -/
set_option Elab.async false
set_option linter.all false
set_option maxRecDepth 100000
set_option maxHeartbeats 4000000
/-! == with data of another kind, len and str by an own method, len(range(..)). -/
set_option Elab.async false
set_option linter.all false
set_option maxRecDepth 100000
set_option maxHeartbeats 4000000
/-! Generators by a method, `in` by an own method, comprehensions over reversed lists. -/
set_option Elab.async false
set_option linter.all false
set_option maxRecDepth 100000
set_option maxHeartbeats 4000000
/-! a < b < c < d. -/
set_option Elab.async false
set_option linter.all false
set_option maxRecDepth 100000
set_option maxHeartbeats 4000000
/-! {elt for x in xs}, elt a whole number that leaves the heap as it is; sorted of it. -/
set_option Elab.async false
set_option linter.all false
set_option maxRecDepth 100000
set_option maxHeartbeats 4000000
/-! shared small facts: == of lists of numbers; reverse. -/
namespace G
open PySem PySem.Spec PyProof.Rows L2
section
variable {K : PySem.W.Frag}
theorem dpZ {H : Hp} : ∀ xs : List Int, DpAll K H (xs.map V.int) (xs.map PyData.int)
  | [] => .nil
  | x :: xs => .cons (.int x) (dpZ xs)
theorem layZ : ∀ xs : List Int, PyData.canLayAll0 (xs.map PyData.int) = true
  | [] => rfl
  | x :: xs => by
    show PyData.canLayAll0 (PyData.int x :: xs.map PyData.int) = true
    rw [PyData.canLayAll0, layZ xs] <;> rfl
theorem depZ : ∀ xs : List Int, PyData.depthAll (xs.map PyData.int) ≤ 1
  | [] => by simp [PyData.depthAll]
  | x :: xs => by
    have := depZ xs
    show PyData.depthAll (PyData.int x :: xs.map PyData.int) ≤ 1
    rw [PyData.depthAll]
    simp [PyData.depth]
    omega
theorem shZ (xs : List Int) : SeqAt.shaped (.list (xs.map PyData.int)) = true := by
  unfold SeqAt.shaped
  rw [PyData.canLay0, layZ, PyData.depth]
  have := depZ xs
  simp
  omega
theorem eqvZ : ∀ xs ys : List Int, PyData.eqvAll (xs.map PyData.int) (ys.map PyData.int) = decide (xs = ys)
  | [], [] => by simp [PyData.eqvAll]
  | [], y :: ys => by simp [PyData.eqvAll]
  | x :: xs, [] => by simp [PyData.eqvAll]
  | x :: xs, y :: ys => by
    show PyData.eqvAll (PyData.int x :: xs.map PyData.int) (PyData.int y :: ys.map PyData.int) = _
    rw [PyData.eqvAll, eqvZ xs ys, PyData.eqv]
    by_cases h : x = y <;> by_cases h2 : xs = ys <;> simp [h, h2]
theorem w_eqLZ {H : Hp} {Q : VK} {p q : Addr} {xs ys : List Int} (h1 : H p = some (.lst (xs.map V.int))) (h2 : H q = some (.lst (ys.map V.int))) (g : Q (.bl (decide (xs = ys))) H) : rEqA K (.ref p) (.ref q) H Q :=
  w_eqD (.lst (SqL.of h1) (dpZ xs)) (.lst (SqL.of h2) (dpZ ys)) (shZ xs) (shZ ys) (by
    rw [PyData.eqv, eqvZ]
    exact g)
end
end G
set_option Elab.async false
set_option linter.all false
set_option maxRecDepth 100000
set_option maxHeartbeats 4000000
/-! tables of sets laid anew, for the masks that a union meets. -/
namespace G
open PySem PySem.Spec PyProof.Rows L2
def MaskU (m : Nat) : Prop := m = 7 ∨ m = 15 ∨ m = 31 ∨ m = 63 ∨ m = 127 ∨ m = 255
def rnd (m : Nat) : Bool := ((List.range (m + 1)).all fun j => (List.range (m + 1)).any fun b => lcgN m b == j) && (lcgN m (m + 1) == 0)
theorem rnd_all {m : Nat} (h : MaskU m) : rnd m = true := by
  rcases h with e | e | e | e | e | e <;> subst e <;> decide +kernel
/-- i -> 5 i + 1 comes around to every place, from every place -/
theorem rnd_any {m i j : Nat} (h : MaskU m) (hi : i ≤ m) (hj : j ≤ m) : ∃ k, k ≤ m ∧ lcgI m i k = j := by
  have z := rnd_all h
  unfold rnd at z
  rw [Bool.and_eq_true, List.all_eq_true, beq_iff_eq] at z
  obtain ⟨z1, z2⟩ := z
  have at_ : ∀ j, j ≤ m → ∃ b, b ≤ m ∧ lcgN m b = j := fun j hj => by
    obtain ⟨b, hb, e⟩ := List.any_eq_true.mp (z1 j (List.mem_range.mpr (Nat.lt_succ_of_le hj)))
    exact ⟨b, Nat.le_of_lt_succ (List.mem_range.mp hb), beq_iff_eq.mp e⟩
  obtain ⟨a, ha, ea⟩ := at_ i hi
  obtain ⟨b, hb, eb⟩ := at_ j hj
  by_cases c : a ≤ b
  · refine ⟨b - a, by omega, ?_⟩
    rw [← ea, lcgN_add, show a + (b - a) = b by omega, eb]
  · -- once more around
    refine ⟨(m + 1 - a) + b, by omega, ?_⟩
    have more : ∀ k, lcgI m 0 k = lcgN m k := fun k => by
      have := lcgN_add m 0 k
      rw [Nat.zero_add] at this
      exact this
    have split : ∀ x k l, lcgI m x (k + l) = lcgI m (lcgI m x k) l := fun x k l => by
      induction l with
      | zero => rfl
      | succ l ih => show (lcgI m x (k + l) * 5 + 1) % (m + 1) = _; rw [ih]; rfl
    rw [split, ← ea, lcgN_add, show a + (m + 1 - a) = m + 1 by omega, z2, more, eb]
/-- a free place is found -/
theorem free_ok {m : Nat} (hm : MaskU m) (owner : Array (Option Nat)) (x : Int) {j : Nat} (hj : j ≤ m) (hf : oAt owner j = none) :
    ∃ j', SetTable.layClean.free m owner (SetTable.turns m) (SetTable.bits x % (m + 1)) (SetTable.bits x) = some j' ∧ j' ≤ m ∧ oAt owner j' = none := by
  obtain ⟨k, hk, ek⟩ := rnd_any hm (runI_le m (SetTable.bits x) 12) hj
  rw [← runI_tail (bits_lt x)] at ek
  have start : ∀ n, (nth m (runAt m (SetTable.bits x % (m + 1)) (SetTable.bits x)) (off m (SetTable.bits x % (m + 1)) (SetTable.bits x) n)).j = runI m (SetTable.bits x) n := fun n => by
    rw [nth_off, itL_run]
    rfl
  obtain ⟨K, k1, k2, k3⟩ := st_least (p := fun q => oAt owner (nth m (runAt m (SetTable.bits x % (m + 1)) (SetTable.bits x)) q).j = none) _ (show oAt owner (nth m (runAt m (SetTable.bits x % (m + 1)) (SetTable.bits x)) (off m (SetTable.bits x % (m + 1)) (SetTable.bits x) (12 + k))).j = none by rw [start, ek]; exact hf)
  have r0 := runI_le m (SetTable.bits x) 0
  have rb := runEnd_bd (m := m) (i := SetTable.bits x % (m + 1)) r0
  refine ⟨_, free_spec m owner (SetTable.turns m) (12 + k) _ _ K (by unfold SetTable.turns; omega) k1 (fun q hq => ?_) (by rw [show oAt owner _ = none from k2]; rfl), ?_, k2⟩
  · cases z : oAt owner (nth m (runAt m (SetTable.bits x % (m + 1)) (SetTable.bits x)) q).j with
    | none => exact absurd z (k3 q hq)
    | some _ => rfl
  · have := nth_in K (runAt m (SetTable.bits x % (m + 1)) (SetTable.bits x)) (show SetTable.bits x % (m + 1) + (SetTable.runEnd m (SetTable.bits x % (m + 1)) - SetTable.bits x % (m + 1)) ≤ m by omega)
    omega
end G
set_option Elab.async false
set_option linter.all false
set_option maxRecDepth 100000
set_option maxHeartbeats 4000000
/-! a set of whole numbers with all that its table is. -/
set_option Elab.async false
set_option linter.all false
set_option maxRecDepth 100000
set_option maxHeartbeats 4000000
/-! a set of whole numbers walked. -/
set_option Elab.async false
set_option linter.all false
set_option maxRecDepth 100000
set_option maxHeartbeats 4000000
/-! a set merged into another. -/
set_option Elab.async false
set_option linter.all false
set_option maxRecDepth 100000
set_option maxHeartbeats 4000000
/-! a | b of sets of whole numbers. -/
set_option Elab.async false
set_option linter.all false
set_option maxRecDepth 100000
set_option maxHeartbeats 4000000
/-! set(xs) of a list of whole numbers; what a def sees of it, of a | b. -/
set_option Elab.async false
set_option linter.all false
set_option maxRecDepth 100000
set_option maxHeartbeats 1000000
namespace G
open PySem PySem.Spec PyProof.Rows L2
/-! f(e, .., k = v): a def with keyword-only parameters, called with keywords -/
structure CalK (P : Program) (w : World) (K : PySem.W.Frag) (mg : Str → Option Value) (base : Heap) (k : Nat) (x : Str) (ps : List Str) (n : Nat) (ks : List Str) (sp : Sp) : Prop where
  ex : ∃ (f : Addr) (fd : FuncData) (g : List Value → List Value → List Value), FnOk P w K mg base (L2N.CX P w) k f fd ps sp ∧ mg x = some (.ref f) ∧ PySem.W.keepIn K (.ref f) = true ∧ KBn K fd ps n ks g (fun vs zs => vs ++ zs)
def tClK (n m : Nat) (sp : Sp) (E : L2.St → XK) (t tk : TA) : TE := fun σ H Q => tCallN n m sp (fun vs zs => vs ++ zs) (E σ) t tk σ H Q
section
variable {X : Cx} {j k n : Nat} {x : Str} {ps ks : List Str} {sp : Sp} {E : L2.St → XK} {p pos : Pos} {e : Expr} {es : List Expr} {kws : List Keyword} {t tk : TA}
theorem run_fnK {pins : List (Addr × Obj)} {σ : L2.St} {H : Hp} {s : Shared} {Q : VK} {f : Addr} {fd : FuncData} {us ws : List Value} {vs zs : List V} {E : XK} {g : List Value → List Value → List Value} {gV : List V → List V → List V} (F : FnOk X.prog X.w X.K X.mg X.base (L2N.CX X.prog X.w) k f fd ps sp) (hr : Room k X.A) (hb : KBn X.K fd ps n ks g gV) (hx : PassesAt (L2N.CX X.prog X.w) X σ E)
    (I : Inv X pins σ H s) (r : Vals vs us) (rz : Vals zs ws) (l1 : vs.length = n) (l2 : zs.length = ks.length) (h : sp (gV vs zs) H Q E) : wpAny (model X.prog X.w) X.A (call (.ref f) us (ks.zip ws)) (EP X pins σ Q) X.xe s := by
  refine wpAny_call (codeAny_mono (F.run X.A X.stack s H ⟨us, ks.zip ws⟩ (g us ws) (gV vs zs) Q E hr I.env0 (hb.to s us ws I.kIn (r.length.symm.trans l1) (rz.length.symm.trans l2)) (hb.rel r rz) h) fun y s' hq => ?_)
  cases y with
  | error er => exact hx pins H s er s' I hq
  | ok fl =>
    cases fl with
    | ret u => exact I.after hq
    | next => exact False.elim hq
    | brk => exact False.elim hq
    | cont => exact False.elim hq
theorem pe_clK (c : CalK X.prog X.w X.K X.mg X.base k x ps n ks sp) (hr : Room j X.A) (hk : k ≤ j) (hx : PAt X E) (ha : PA X (e :: es) t) (hkw : PK X kws tk) (hg : Gl X x := by rfl)
    (hall : (backToKw pos (keywordEach kws X.env)).all (·.1.isSome) = true := by rfl) (hks : (backToKw pos (keywordEach kws X.env)).filterMap (·.1) = ks := by rfl)
    (hdb : (x == ("__debug__" : Str)) = false := by decide) (he : starEach (e :: es) X.env = (false, eval e X.env) :: starEach es X.env := by rfl)
    (hpl : ((backTo pos (starEach (e :: es) X.env)).any (·.1) || (backToKw pos (keywordEach kws X.env)).any (·.1.isNone)) = false := by rfl) : PE X (.Call (.Name x p) (e :: es) kws pos) (tClK n ks.length sp E t tk) := by
  obtain ⟨f, fd, g, F, hm, kp, hb⟩ := c.ex
  refine ⟨fun pins s σ H Q I h => ?_⟩
  refine wpAny_Call_Name_kw (ld_glob I hg hm (PySem.W.callWith_KW (h₀ := X.base) I.ok.mod.kin kp hall (thn (ha.run pos pins s σ H _ I h) fun us sa ⟨vs, Ha, Ia, ra, qa⟩ => thn (hkw.run pos pins sa σ Ha _ Ia qa) fun ws sb ⟨zs, Hb, Ib, rz, l1, l2, qb⟩ => ⟨Ib.kIn, ?_⟩) hpl he) hdb)
  rw [hks]
  exact run_fnK F (hr.mono hk) hb (hx σ) Ib ra rz l1 l2 qb
theorem w_clK {σ : L2.St} {H : Hp} {Q : VK} (h : t σ H fun vs H1 => tk σ H1 fun zs H2 => vs.length = n ∧ zs.length = m ∧ sp (vs ++ zs) H2 Q (E σ)) : tClK n m sp E t tk σ H Q := h
end
section
variable {K : PySem.W.Frag} {x qual : Str} {params : Arguments} {body : List Stmt} {scope : Scope} {kws : List (Str × V)} {f : Addr} {fd : FuncData} {ps : List Str}
theorem kbn_all (F : FunD K x qual params body scope [] kws f fd) (n : Nat) (ks : List Str) (hk : kws ≠ [])
    (h : ∀ (D : Addr) (doc pm : Value) (an : Option Addr) (cdv ct : Value) (us ws : List Value), us.length = n → ws.length = ks.length → bindArgs (PySem.W.fnOf x qual params body scope .none (.ref D) doc pm an cdv ct) ⟨us, ks.zip ws⟩ = pure (ps.zip (us ++ ws))) :
    ∃ g : List Value → List Value → List Value, KBn K fd ps n ks g (fun vs zs => vs ++ zs) := by
  obtain ⟨mv, hb⟩ := F.kbinds0 n ks [] (fun us _ ws => us ++ ws) hk (fun q hq => by cases hq) (fun r1 _ r3 => r1.append r3) fun D doc pm an cdv ct us mv ws l1 _ l3 => by
    exact h D doc pm an cdv ct us ws l1 l3
  exact ⟨_, hb⟩
end
end G
set_option Elab.async false
set_option linter.all false
set_option maxRecDepth 100000
set_option maxHeartbeats 2000000
/-! comprehensions while an exception is handled -/
set_option Elab.async false
set_option linter.all false
set_option maxRecDepth 100000
set_option maxHeartbeats 2000000
/-! a list comprehension while an exception is handled -/
set_option Elab.async false
set_option linter.all false
set_option maxRecDepth 100000
set_option maxHeartbeats 2000000
/-! methods called, ranges walked while an exception is handled -/
set_option Elab.async false
set_option linter.all false
set_option maxRecDepth 100000
set_option maxHeartbeats 4000000
/-! One clause that gives the error no name. -/
set_option Elab.async false
set_option linter.all false
set_option maxRecDepth 100000
set_option maxHeartbeats 4000000
/-! super().m(..) in a method of an own class. -/
namespace G
open PySem PySem.Spec PyProof.Rows L2 NdefX
/-- what the running method's frame tells: its class D is captured -/
structure SupOk (X : Cx) (D : Addr) (sf : Str) : Prop where
  ks : X.env.kindOf "super" = some .globalImplicit
  kc : X.env.kindOf "__class__" = some .free
  gs : X.mg "super" = none
  fn : ∃ f fo fd ar, X.env.func = some f ∧ X.K.lookup f = some fo ∧ fo.data = .func fd ∧ (fd.params.posonlyargs ++ fd.params.args).head? = some ar ∧ ar.arg = sf
  self0 : X.N[0]? = some sf
  selfL : X.env.scope.names.lookup sf = some .local
  code : ∃ cc oc vs file tf, X.env.code = .ref cc ∧ X.K.lookup cc = some oc ∧ oc.data = .fields vs ∧ vs[2]? = some (.str file tf) ∧ ((X.prog.main.file : Str) == file) = true
  top : (X.prog.main.scope.names.lookup ("super" : Str)).isSome = false
  cel : ∃ c oc, X.env.cells.lookup ("__class__" : Str) = some c ∧ X.K.lookup c = some oc ∧ oc.data = .cell (some (.ref D))
/-- the method m behind the class D in the order of the class C is f2 -/
structure SupTo (K : PySem.W.Frag) (C D : Addr) (m : Str) (f2 : Addr) : Prop where
  cd : ∃ cd, PySem.W.clsIn K C = some cd ∧ PySem.W.alongIn K m ((cd.mro.dropWhile (· != .ref D)).drop 1) = some (some (.ref f2))
  sub : PySem.W.mroIn K C (.ref D) = some true
  dd : ∃ oD cdD, K.lookup D = some oD ∧ oD.data = .cls cdD
  fo : ∃ of, K.lookup f2 = some of ∧ of.cls = .type "function"
  fn : PySem.W.fnIn K f2 = true
  opq : PySem.W.nsIn K cStatics "thirdparty.any" = some none
section
variable {X : Cx} {D f2 : Addr} {sf m : Str} {body : List Stmt} {e : Expr} {es : List Expr} {t : TA} {E : L2.St → XK} {k : Nat} {fd2 : FuncData} {ps2 : List Str} {sp2 : Sp} {p0 p1 apos pos : Pos}
theorem sup_eval (so : SupOk X D sf) (F2 : FnOk X.prog X.w X.K X.mg X.base (L2N.CX X.prog X.w) k f2 fd2 ps2 sp2) (hr : Room k X.A) (hb : Binds X.K fd2 ps2 []) (hx : PAt X E) (ha : PA X (e :: es) t)
    (hat : (m == ("__class__" : Str)) = false) (hst : starEach (e :: es) X.env = (false, eval e X.env) :: starEach es X.env) (hpl : (backTo pos (starEach es X.env)).any (·.1) = false)
    (het : ∀ pl : Sem Bool, True) {pl : Sem Bool}
    (he : eval (.Call (.Attribute (.Call (.Name "super" p0) [] [] p1) m apos) (e :: es) [] pos) X.env = (do
      let ov ← attributeBase (.Call (.Name "super" p0) [] [] p1) m X.env (eval (.Call (.Name "super" p0) [] [] p1) X.env)
      standAt apos.atName
      let (f, first) ← holding [ov] (getMethod ov m pl)
      callWith pos f first (backTo pos (starEach (e :: es) X.env)) []))
    {pins : List (Addr × Obj)} {s : Shared} {σ : L2.St} {H : Hp} {Q : VK} (I : Inv X pins σ H s) {x C dx : Addr} {fs : List (Str × V)} (h0 : σ[0]? = some (some (.ref x))) (hx0 : H x = some (.ins C dx fs)) (st : SupTo X.K C D m f2)
    (q : t σ H fun us H1 => sp2 (.ref x :: us) H1 Q (E σ)) :
    PySem.wpAt (model X.prog X.w) X.A (.func body X.env) (eval (.Call (.Attribute (.Call (.Name "super" p0) [] [] p1) m apos) (e :: es) [] pos) X.env) (EP X pins σ Q) X.xe s := by
  obtain ⟨f, fo, fd, ar, hfu, lkf, hfd, hp, hself⟩ := so.fn
  obtain ⟨cc, oc, vs, file, tf, hco, lkcc, hoc, hvs, hfile⟩ := so.code
  obtain ⟨c, ocl, hc, lkc, hcd⟩ := so.cel
  obtain ⟨cd, hcls, halong⟩ := st.cd
  obtain ⟨oD, cdD, lkD, hDd⟩ := st.dd
  obtain ⟨of, lkf2, hfc⟩ := st.fo
  obtain ⟨mb, hb1, hb2⟩ := I.mod.blt
  obtain ⟨mA, O, rO, wiO, lnO, hoO⟩ := ins_get I.hok hx0
  have KX := I.kIn
  have hX : s.heap.get? x = some (PySem.W.instObj C dx) := O.obj
  have hno : PySem.W.Looks (model X.prog X.w) s.heap (opaqueClassAbove (.ref C)) none := PySem.W.looks_opaque KX st.opq
  have nxt : ∀ {s' : Shared}, Inv X pins σ H s' → True := fun _ => trivial
  obtain ⟨ml, hns, hlook⟩ := id I.loc
  obtain ⟨us, rus, lk⟩ := hlook 0 sf (.ref x) so.self0 h0 (.inl so.selfL)
  have hml : ml sf = some us := by
    rcases lk with ⟨_, z⟩ | ⟨z, _⟩
    · exact z
    · have z : X.env.scope.names.lookup sf = some .cell ∨ X.env.scope.names.lookup sf = some .free := z
      rw [so.selfL] at z
      rcases z with z | z <;> cases z
  obtain rfl : us = .ref x := rus
  have hxC : x ≠ C := by
    rintro rfl
    unfold PySem.W.clsIn at hcls
    split at hcls
    · rename_i c d cd' sl ho
      have e := KX _ _ ho
      rw [hX] at e
      cases e
    · cases hcls
  refine PySem.ks_wpAt_MethodCall (pl := pl) ?_ he
  refine PySem.ks_wpAt_super_base so.ks so.kc hat hfu (KX _ _ lkf) hfd hp hco (KX _ _ lkcc) hoc hvs hfile so.top ?_
  refine PySem.W.ks_loadName_global I.ok.kind so.ks ?_
  refine Calls.loadGlobal_builtin (by rw [I.ok.glob]; exact I.mod.glob.keeps I.bk) so.gs (by rw [I.ok.blt]; exact hb1.keeps I.bk) ((hb2 _ (by decide)).trans (by rfl : bootBuiltins "super" = some (.type "super"))) ⟨rfl, ?_⟩
  refine wpAny_loadName_free I.ok.kind so.kc hc ⟨_, KX _ _ lkc, hcd⟩ ?_
  rw [hself]
  refine wpAny_loadName_local I.ok.kind so.selfL hns hml ?_
  refine PySem.ks_wpAny_isType_cls (KX _ _ lkD) hDd ⟨rfl, ?_⟩
  obtain ⟨hp0, g0, d0, t0, os0⟩ := s
  refine PySem.ks_wpAny_call_super (KX _ _ lkD) hDd hX rfl (fun c z => by cases z) (PySem.W.looks_mroIn KX st.sub) (fun h' hso kp => ?_)
  have KX1 : X.K.In h' := KX.keeps kp
  refine PySem.ks_wpAny_getMethod_super (K := X.K) (l₀ := cd.mro) hso (PySem.W.looks_opaque KX1 st.opq) ((PySem.W.looks_clsIn KX1 hcls).andThen .now) rfl KX1 halong (KX1 _ _ lkf2) hfc hxC hat ?_
  have kpush : ∀ b u, h'.get? b = some u → (h'.push { cls := .type "method", data := .fields #[.ref f2, .ref x] }).get? b = some u := fun b u z => Heap.get?_push_of_some _ z
  have hq0 : (h'.push { cls := .type "method", data := .fields #[.ref f2, .ref x] }).get? h'.objs.size = some (PySem.W.methodObj (.ref f2) (.ref x)) := Heap.get?_push_size h' rfl
  have lsz : hp0.objs.size ≤ h'.objs.size := by
    have := Heap.lt_size hso
    exact Nat.le_of_lt this
  generalize hq' : h'.objs.size = qa at *
  generalize hh2 : h'.push { cls := .type "method", data := .fields #[.ref f2, .ref x] } = h2 at *
  have I0 : Inv X pins σ H ⟨h2, g0, d0, t0 + 1, os0⟩ := I.kept fun b u z => kpush _ _ (kp _ _ z)
  have fp := I.fpOk (b := qa) lsz (I.hok.fresh lsz)
  have I1 : Inv X (pins ++ [(qa, PySem.W.methodObj (.ref f2) (.ref x))]) σ H ⟨h2, g0, d0, t0 + 1, os0⟩ := I0.pins_of fun p hp => by
    rcases List.mem_append.mp hp with z | z
    · exact I0.pin p (List.mem_append_right _ z)
    · obtain rfl := List.mem_singleton.mp z
      exact ⟨hq0, fp.1, fp.2.1, fp.2.2.1, fun v z => by cases z⟩
  rw [hst]
  refine PySem.W.callWith_of (P := PySem.W.MethP X.K qa f2 (.ref x)) (by show ((false || (backTo pos (starEach es X.env)).any (·.1)) || false) = false; rw [hpl]; rfl) (PySem.W.keeps_M st.fn) (Calls.evalArgs_plain ?_)
  have run := ha.run pos _ _ σ H _ I1 q
  rw [hst] at run
  refine thn run fun us s1 ⟨vs, H1, I2, r, q2⟩ => ?_
  have pq := (I2.pin (qa, PySem.W.methodObj (.ref f2) (.ref x)) (by simp)).1
  refine ⟨⟨pq, I2.kIn⟩, ?_⟩
  have r2 : Vals (.ref x :: vs) (.ref x :: us) := .cons rfl r
  have hl : (.ref x :: us : List Value).length = ps2.length := by rw [← r2.length]; exact F2.len _ _ _ _ q2
  refine wpAny_call (PySem.ks_codeAny_call_bound pq ?_)
  refine codeAny_mono (F2.run X.A X.stack s1 H1 ⟨.ref x :: us, []⟩ ((.ref x :: us) ++ []) (.ref x :: vs) Q (E σ) hr I2.env0 (hb s1 (.ref x :: us) I2.kIn (by rw [List.append_nil]; exact hl)) (by rw [List.append_nil]; exact r2) q2) fun r s' hq => ?_
  cases r with
  | error e => exact hx σ _ H1 s1 e s' I2 hq
  | ok fl =>
    cases fl with
    | ret u =>
      obtain ⟨v, H2, I3, rv, q3⟩ := I2.after hq
      exact ⟨v, H2, I3.unpinned, rv, q3⟩
    | next => exact False.elim hq
    | brk => exact False.elim hq
    | cont => exact False.elim hq
end
/-- a method that captures its class D, as the top has written it -/
structure FunS (K : PySem.W.Frag) (prog : Program) (x qual : Str) (params : Arguments) (body : List Stmt) (scope : Scope) (D f : Addr) (fd : FuncData) : Prop where
  ex : ∃ (oc : Value) (od an : Option Addr) (kV doc pm ct : Value) (c cc : Addr) (osl : Array (Option Value)) (ocl oco : Obj) (vs : Array Value) (file : Str) (tf : Tok),
    fd = PySem.W.fnX x qual params body scope [("__class__", cc)] .none kV doc pm an (.ref c) ct ∧ K.lookup f = some ⟨oc, od, .func fd, osl⟩ ∧ PySem.W.codeIn K (.ref c) qual = true ∧
    K.lookup cc = some ocl ∧ ocl.data = .cell (some (.ref D)) ∧ K.lookup c = some oco ∧ oco.data = .fields vs ∧ vs[2]? = some (.str file tf) ∧ ((prog.main.file : Str) == file) = true
  kp : PySem.W.keepIn K (.ref f) = true
section
variable {P : Program} {w : World} {K : PySem.W.Frag} {mg : Str → Option Value} {base : Heap} {x qual m y sf : Str} {params : Arguments} {body rest : List Stmt} {scope : Scope} {D f f2 : Addr} {fd fd2 : FuncData} {N ps ps2 : List Str} {k k2 i : Nat} {sp sp2 : Sp} {e : Expr} {es : List Expr} {p0 p1 apos pos py pa : Pos} {ar : Arg}
abbrev nfS (x qual : Str) (params : Arguments) (body : List Stmt) (scope : Scope) (c cc : Addr) : NF := ⟨x, qual, params, body, scope, [("__class__", cc)], c⟩
/-- THE RULE: such a method whose first statement is y = super().m(..) -/
theorem FunS.ok (F : FunS K P x qual params body scope D f fd) (S : NScope N ps ["__class__"] scope) (len : ∀ vs H Q E, sp vs H Q E → vs.length = ps.length)
    (hbody : body = .Assign [.Name y py] (.Call (.Attribute (.Call (.Name "super" p0) [] [] p1) m apos) (e :: es) [] pos) pa :: rest)
    (F2 : FnOk P w K mg base (L2N.CX P w) k2 f2 fd2 ps2 sp2) (hk : k2 ≤ k) (hb2 : Binds K fd2 ps2 [])
    (hpar : (params.posonlyargs ++ params.args).head? = some ar) (hsf : ar.arg = sf) (hN0 : N[0]? = some sf) (hsl : scope.names.lookup sf = some .local)
    (hks : scope.names.lookup ("super" : Str) = some .globalImplicit) (hgs : mg "super" = none) (htop : (P.main.scope.names.lookup ("super" : Str)).isSome = false)
    (hat : (m == ("__class__" : Str)) = false) (hi : N[i]? = some y) (hyl : scope.names.lookup y = some .local)
    (hrd : ∀ (c cc : Addr) (A : Around) (outer : List Env) (s : Shared) (H : Hp) (vs : List V) (Q : VK) (E : XK), Room k (A.deeper (envF (nfS x qual params body scope c cc) f s.heap.objs.size)) → sp vs H Q E →
      ∃ (t : TA) (u : TS) (x0 C dx : Addr) (fs : List (Str × V)) (pl : Sem Bool), PA (ncx (L2N.CX P w) P w K mg base N (nfS x qual params body scope c cc) f A outer s H E) (e :: es) t ∧ PSs (ncx (L2N.CX P w) P w K mg base N (nfS x qual params body scope c cc) f A outer s H E) rest u ∧
        PAt (ncx (L2N.CX P w) P w K mg base N (nfS x qual params body scope c cc) f A outer s H E) (fun _ => E) ∧
        starEach (e :: es) (envF (nfS x qual params body scope c cc) f s.heap.objs.size) = (false, eval e (envF (nfS x qual params body scope c cc) f s.heap.objs.size)) :: starEach es (envF (nfS x qual params body scope c cc) f s.heap.objs.size) ∧
        (backTo pos (starEach es (envF (nfS x qual params body scope c cc) f s.heap.objs.size))).any (·.1) = false ∧
        eval (.Call (.Attribute (.Call (.Name "super" p0) [] [] p1) m apos) (e :: es) [] pos) (envF (nfS x qual params body scope c cc) f s.heap.objs.size) = (do
          let ov ← attributeBase (.Call (.Name "super" p0) [] [] p1) m (envF (nfS x qual params body scope c cc) f s.heap.objs.size) (eval (.Call (.Name "super" p0) [] [] p1) (envF (nfS x qual params body scope c cc) f s.heap.objs.size))
          standAt apos.atName
          let (g, first) ← holding [ov] (getMethod ov m pl)
          callWith pos g first (backTo pos (starEach (e :: es) (envF (nfS x qual params body scope c cc) f s.heap.objs.size))) []) ∧
        swapsWith (.Call (.Attribute (.Call (.Name "super" p0) [] [] p1) m apos) (e :: es) [] pos) (some (.Name y py)) pa.line (envF (nfS x qual params body scope c cc) f s.heap.objs.size) = pure false ∧
        vs[0]? = some (.ref x0) ∧ H x0 = some (.ins C dx fs) ∧ SupTo K C D m f2 ∧
        t (startF N vs [some (.ref D)]) H fun us H1 => sp2 (.ref x0 :: us) H1 (fun v H2 => u { nx := fun _ H' => Q .non H', rt := Q } ((startF N vs [some (.ref D)]).set i (some v)) H2) E) :
    FnOk P w K mg base (L2N.CX P w) (k + 1) f fd ps sp := by
  obtain ⟨oc, od, an, kV, doc, pm, ct, c, cc, osl, ocl, oco, vs0, file, tf, rfl, lk, hcd, lkcc, hcc, lkc, hco, hvs, hfile⟩ := F.ex
  refine ⟨len, fun A outer s H args us vs Q E hr e0 hb r hsp => ?_⟩
  have hl := len _ _ _ _ hsp
  have KX : K.In s.heap := e0.mod.kin.keeps fun b o e => (e0.bs b o e).1
  have lim : s.heap.NoLimit := e0.mod.nolimit.keeps fun b o e => (e0.bs b o e).1
  have hfree : H cc = none := (e0.bs _ _ (e0.mod.kin _ _ lkcc)).2
  have hcell : s.heap.IsCell cc (some (.ref D)) := ⟨_, KX _ _ lkcc, hcc⟩
  have C : CellsAt (nfS x qual params body scope c cc).cl ["__class__"] [some (.ref D)] s.heap H := by
    have one : ∀ y c', ([("__class__", cc)] : List (Str × Addr)).lookup y = some c' → y = "__class__" ∧ c' = cc := by
      intro y c' h
      by_cases e : y = "__class__"
      · rw [e] at h ⊢
        exact ⟨rfl, by simpa [List.lookup] using h.symm⟩
      · have : (y == ("__class__" : Str)) = false := by simpa using e
        simp [List.lookup, this] at h
    refine ⟨rfl, fun y c' h => ?_, fun y z c' h1 h2 => ?_, fun j y h => ?_⟩
    · obtain ⟨_, rfl⟩ := one y c' h
      exact ⟨hfree, _, hcell⟩
    · rw [(one y c' h1).1, (one z c' h2).1]
    · match j, h with
      | 0, h =>
        have h : some ("__class__" : Str) = some y := h
        injection h with h
        subst h
        refine ⟨cc, by simp [List.lookup], fun v hv => ?_⟩
        have hv : some (some (V.ref D)) = some (some v) := hv
        injection hv with hv
        injection hv with hv
        subst hv
        exact ⟨_, rfl, hcell⟩
  refine codeAny_call_function hr.depth (KX _ _ lk) rfl S.co S.gen rfl (PySem.W.codeRec_of KX hcd) (hb _ _ _ _ ?_)
  refine wpAny_newFunctionEnv S.nocell (fun ⟨n, _⟩ hy => S.par n (List.of_mem_zip hy).1) (fun h₁ hns hsb => ⟨lim.fresh _ hsb, ?_⟩) S.kind
  show codeAny _ _ (.func body (envF (nfS x qual params body scope c cc) f s.heap.objs.size)) _ _
  refine PySem.ks_codeAny_funcAt ?_
  have kp : ∀ b o, s.heap.get? b = some o → h₁.get? b = some o := fun b o e => hsb.extBut b o (Nat.ne_of_lt (Heap.lt_size e)) (Heap.get?_push_of_some _ e)
  obtain ⟨t, u, x0, C0, dx, fs, pl, ha, hu, hx, hst, hpl, he, hsw, hv0, hx0, st, q⟩ := hrd c cc A outer s H vs Q E (hr.deeper _) hsp
  have I : Inv (ncx (L2N.CX P w) P w K mg base N (nfS x qual params body scope c cc) f A outer s H E) [] (startF N vs [some (.ref D)]) H { s with heap := h₁, toks := s.toks + (ps.zip us).length } := inv_startN S hr.hd e0 hl r C hns kp
  have eb : execs body (envF (nfS x qual params body scope c cc) f s.heap.objs.size) = execs (.Assign [.Name y py] (.Call (.Attribute (.Call (.Name "super" p0) [] [] p1) m apos) (e :: es) [] pos) pa :: rest) (envF (nfS x qual params body scope c cc) f s.heap.objs.size) := congrArg (fun b => execs b (envF (nfS x qual params body scope c cc) f s.heap.objs.size)) hbody
  rw [eb]
  have so : SupOk (ncx (L2N.CX P w) P w K mg base N (nfS x qual params body scope c cc) f A outer s H E) D sf :=
    ⟨hks, S.frk _ (by simp), hgs, ⟨f, _, _, ar, rfl, lk, rfl, hpar, hsf⟩, hN0, hsl, ⟨c, oco, vs0, file, tf, rfl, lkc, hco, hvs, hfile⟩, htop, ⟨cc, ocl, List.lookup_cons_self, lkcc, hcc⟩⟩
  have h0 : (startF N vs [some (.ref D)])[0]? = some (some (.ref x0)) := by
    have lv : 0 < vs.length := (List.getElem?_eq_some_iff.mp hv0).1
    unfold startF
    rw [List.getElem?_append_left (by rw [List.length_map]; exact lv), List.getElem?_map, hv0] <;> rfl
  refine PySem.ks_wpAt_execs_cons (PySem.ks_wpAt_Assign_Name (PySem.ks_wpAt_mono (sup_eval (E := fun _ => E) so (F2.mono hk) (hr.deeper _) hb2 hx ha hat hst hpl (fun _ => trivial) he I h0 hx0 st q) (fun v s1 hv => ?_) (fun e s' h => h)) hsw)
  obtain ⟨v', H1, I1, rv, q1⟩ := hv
  refine store_ok I1 S.nd hi (.inl hyl) rv (fun s2 I2 => ?_) (.inr hyl)
  refine PySem.wpAt_of_wpAny (wpAny_mono (hu.run [] s2 _ H1 _ I2 q1) (fun fl s' hs => ?_) fun e s' hs => hs)
  have fin : ∀ {σ' : L2.St} {H' : Hp} {v : V} {u : Value}, Inv (ncx (L2N.CX P w) P w K mg base N (nfS x qual params body scope c cc) f A outer s H E) [] σ' H' s' → L2.RelV v u → Q v H' → CE outer P w H s Q u s' :=
    fun {σ' H' v u} J rv q => ⟨v, H', J.os, J.bare, J.base, J.hok, rv, q⟩
  cases fl with
  | ret u =>
    obtain ⟨v, σ', H', J, rv, q⟩ := hs
    exact fin J rv q
  | next =>
    obtain ⟨σ', H', J, q⟩ := hs
    exact fin (v := V.non) (u := Value.none) J rfl q
  | brk =>
    obtain ⟨_, _, _, q⟩ := hs
    exact False.elim q
  | cont =>
    obtain ⟨_, _, _, q⟩ := hs
    exact False.elim q
theorem FunS.bindsN (F : FunS K P x qual params body scope D f fd)
    (h : ∀ (cc : Addr) (kV doc pm : Value) (an : Option Addr) (cdv ct : Value) (us : List Value), us.length = ps.length → bindArgs (PySem.W.fnX x qual params body scope [("__class__", cc)] .none kV doc pm an cdv ct) ⟨us, []⟩ = pure (ps.zip us)) : Binds K fd ps [] := by
  obtain ⟨oc, od, an, kV, doc, pm, ct, c, cc, osl, ocl, oco, vs0, file, tf, rfl, _⟩ := F.ex
  exact .all (h cc kV doc pm an (.ref c) ct)
end
end G
set_option Elab.async false
set_option linter.all false
set_option maxRecDepth 100000
set_option maxHeartbeats 4000000
/-! The head's facts over the first n addresses of the heap. -/
set_option Elab.async false
set_option linter.all false
set_option maxRecDepth 100000
set_option maxHeartbeats 4000000
/-! The head's facts with methods that capture their class. -/
namespace G
open PySem PySem.Spec PyProof.Rows L2
/-- a method that captures its class -/
structure DefS where
  at_ : PySem.W.Frag → Addr
  name : Str
  qual : Str
  params : Arguments
  body : List Stmt
  scope : Scope
  cls : PySem.W.Frag → Addr
  file : Str
/-- a function's words, whatever it captures -/
def fnB (K : PySem.W.Frag) (a : Addr) : He.FnW := match K.lookup a with
  | some ⟨_, _, .func fd, _⟩ => some (fd.name, fd.qualname, fd.params, fd.body, fd.scope, fd.globals, [], fd.builtins)
  | _ => none
def DefS.val (d : DefS) : He.FnW := some (d.name, d.qual, d.params, .stmts d.body, d.scope, mainGlobals, [], builtinsNs)
def cellB (K : PySem.W.Frag) (cc D : Addr) : Bool := match K.lookup cc with
  | some ⟨_, _, .cell (some (.ref D')), _⟩ => D' == D
  | _ => false
def cloB (K : PySem.W.Frag) (cl : List (Str × Addr)) (D : Addr) : Bool := match cl with
  | [(n, cc)] => n == "__class__" && cellB K cc D
  | _ => false
def fldB (vs : Array Value) (file : Str) : Bool := match (vs[2]? : Option Value) with
  | some (Value.str f _) => f == file
  | _ => false
def filB (K : PySem.W.Frag) (cd : Value) (file : Str) : Bool := match cd with
  | .ref c => (match K.lookup c with
    | some ⟨_, _, .fields vs, _⟩ => fldB vs file
    | _ => false)
  | _ => false
def nonB : Value → Bool
  | .none => true
  | _ => false
theorem nonB_ok {v : Value} (h : nonB v = true) : v = .none := by
  cases v <;> first | rfl | cases h
def DefS.ok (K : PySem.W.Frag) (d : DefS) : Bool := PySem.W.keepIn K (.ref (d.at_ K)) && (match K.lookup (d.at_ K) with
  | some ⟨_, _, .func fd, _⟩ => PySem.W.codeIn K fd.code d.qual && (nonB fd.defaults && (cloB K fd.closure (d.cls K) && filB K fd.code d.file))
  | _ => false)
theorem DefS.funS {K : PySem.W.Frag} {d : DefS} {P : Program} (e : fnB K (d.at_ K) = d.val) (c : d.ok K = true) (hf : ((P.main.file : Str) == d.file) = true) : ∃ fd, FunS K P d.name d.qual d.params d.body d.scope (d.cls K) (d.at_ K) fd := by
  obtain ⟨kp, c2⟩ := He.ba c
  unfold fnB at e
  cases q : K.lookup (d.at_ K) with
  | none =>
    rw [q] at c2
    cases c2
  | some o =>
    obtain ⟨oc, od, dt, osl⟩ := o
    rw [q] at c2 e
    cases dt with
    | func fd =>
      obtain ⟨n1, n2, n3, n4, n5, n6, n7, n8, n9, n10, n11, n12, n13, n14, n15⟩ := fd
      have e2 : (some (n1, n2, n3, n4, n5, n6, [], n15) : He.FnW) = some (d.name, d.qual, d.params, .stmts d.body, d.scope, mainGlobals, [], builtinsNs) := e
      simp only [Option.some.injEq, Prod.mk.injEq] at e2
      obtain ⟨h1, h2, h3, h4, h5, h6, _, h8⟩ := e2
      subst h1 h2 h3 h4 h5 h6 h8
      have c3 : (PySem.W.codeIn K n13 d.qual && (nonB n8 && (cloB K n7 (d.cls K) && filB K n13 d.file))) = true := c2
      obtain ⟨k1, k2⟩ := He.ba c3
      obtain ⟨k0, k5⟩ := He.ba k2
      obtain rfl := nonB_ok k0
      obtain ⟨k3, k4⟩ := He.ba k5
      obtain ⟨cc, ocl, rfl, l1, l2⟩ : ∃ cc ocl, n7 = [(("__class__" : Str), cc)] ∧ K.lookup cc = some ocl ∧ ocl.data = .cell (some (.ref (d.cls K))) := by
        unfold cloB at k3
        split at k3
        · rename_i n cc
          obtain ⟨a, b⟩ := He.ba k3
          unfold cellB at b
          split at b
          · rename_i x1 x2 D' x4 hl
            have a : n = "__class__" := by simpa using a
            have b : D' = d.cls K := by simpa using b
            subst a b
            exact ⟨cc, _, rfl, hl, rfl⟩
          · cases b
        · cases k3
      obtain ⟨cd, oco, vs, tf, rfl, m1, m2, m3⟩ : ∃ cd oco vs tf, n13 = .ref cd ∧ K.lookup cd = some oco ∧ oco.data = .fields vs ∧ vs[2]? = some (.str d.file tf) := by
        unfold filB at k4
        split at k4
        · rename_i cd
          split at k4
          · rename_i x1 x2 vs x4 hl
            unfold fldB at k4
            split at k4
            · rename_i f t hv
              have k4 : f = d.file := by simpa using k4
              subst k4
              exact ⟨cd, _, vs, t, rfl, hl, rfl, hv⟩
            · cases k4
          · cases k4
        · cases k4
      exact ⟨_, ⟨oc, od, n12, n9, n10, n11, n14, cd, cc, osl, ocl, oco, vs, d.file, tf, rfl, q, k1, l1, l2, m1, m2, m3, hf⟩, kp⟩
    | _ => cases c2
/-! ### the hook -/
def obsS (fa : List Chk) (fn : List He5.DefA) (fs : List DefS) (K : PySem.W.Frag) : He.AlD := (((fa.all fun f => f K) && fn.all fun d => d.ok K) && fs.all fun d => d.ok K, (fn.map fun d => He5.fnA K (d.at_ K)) ++ fs.map fun d => fnB K (d.at_ K))
def valS (fn : List He5.DefA) (fs : List DefS) : He.AlD := (true, fn.map He5.DefA.val ++ fs.map DefS.val)
def SaysS (fa : List Chk) (fn : List He5.DefA) (fs : List DefS) (K : PySem.W.Frag) : Prop := obsS fa fn fs K = valS fn fs
/-- the same over given addresses (ZL.lean finds those that are needed) -/
def obsSL (L : List Addr) (fa : List Chk) (fn : List He5.DefA) (fs : List DefS) (g : Addr → Option Obj) : He.AlD := obsS fa fn fs (He.frG g L)
def hookSL (L : List Addr) (fa : List Chk) (fn : List He5.DefA) (fs : List DefS) : PySem.W.Hook where
  α := He.AlD
  obs := fun z => obsSL L fa fn fs z.heap.get?
  val := fun _ => valS fn fs
  says := fun _ z => ∃ J : PySem.W.Frag, J.In z ∧ SaysS fa fn fs J
  of := fun _ _ e => ⟨_, He.frG_in, e⟩
  keeps := fun _ _ _ ⟨J, hJ, c⟩ k => ⟨J, PySem.W.Frag.In.keeps hJ k, c⟩
theorem obsSL_eq {L : List Addr} {fa : List Chk} {fn : List He5.DefA} {fs : List DefS} {g : Addr → Option Obj} {z : Shared} (h : ∀ a, g a = z.heap.get? a) : obsSL L fa fn fs g = (hookSL L fa fn fs).obs z := by
  have e : g = z.heap.get? := funext h
  rw [e] <;> rfl
section
variable {fa : List Chk} {fn : List He5.DefA} {fs : List DefS} {K : PySem.W.Frag}
theorem SaysS.parts (c : SaysS fa fn fs K) : SaysY fa fn K ∧ (fs.all fun d => d.ok K) = true ∧ (fs.map fun d => fnB K (d.at_ K)) = fs.map DefS.val := by
  have c1 : (((fa.all fun f => f K) && fn.all fun d => d.ok K) && fs.all fun d => d.ok K) = true := congrArg (fun z : He.AlD => z.1) c
  have c2 : (fn.map fun d => He5.fnA K (d.at_ K)) ++ fs.map (fun d => fnB K (d.at_ K)) = fn.map He5.DefA.val ++ fs.map DefS.val := congrArg (fun z : He.AlD => z.2) c
  obtain ⟨h1, h2⟩ := He.ba c1
  obtain ⟨e1, e2⟩ := List.append_inj c2 (by rw [List.length_map, List.length_map])
  exact ⟨Prod.ext h1 e1, h2, e2⟩
theorem SaysS.toY (c : SaysS fa fn fs K) : SaysY fa fn K := c.parts.1
theorem SaysS.sup (c : SaysS fa fn fs K) (P : Program) (i : Nat) {d : DefS} (hf : ((P.main.file : Str) == d.file) = true) (h : fs[i]? = some d := by rfl) : ∃ fd, FunS K P d.name d.qual d.params d.body d.scope (d.cls K) (d.at_ K) fd := by
  obtain ⟨_, c2, e⟩ := c.parts
  have e2 : (fs.map fun d => fnB K (d.at_ K))[i]? = (fs.map DefS.val)[i]? := by rw [e]
  rw [List.getElem?_map, List.getElem?_map, h] at e2
  exact DefS.funS (Option.some.inj e2) (List.all_eq_true.mp c2 d (List.mem_of_getElem? h)) hf
end
/-! ### the class behind -/
def aloB (K : PySem.W.Frag) (C D : Addr) (m : Str) (f2 : Addr) : Bool := match PySem.W.clsIn K C with
  | some cd => (match PySem.W.alongIn K m ((cd.mro.dropWhile (· != .ref D)).drop 1) with
    | some (some (.ref a)) => a == f2
    | _ => false)
  | _ => false
def mroB (K : PySem.W.Frag) (C D : Addr) : Bool := match PySem.W.mroIn K C (.ref D) with
  | some true => true
  | _ => false
def isClB (K : PySem.W.Frag) (D : Addr) : Bool := match K.lookup D with
  | some ⟨_, _, .cls _, _⟩ => true
  | _ => false
def isFuB (K : PySem.W.Frag) (f : Addr) : Bool := match K.lookup f with
  | some ⟨.type n, _, _, _⟩ => n == "function"
  | _ => false
def opqB (K : PySem.W.Frag) : Bool := match PySem.W.nsIn K cStatics "thirdparty.any" with
  | some none => true
  | _ => false
def supB (K : PySem.W.Frag) (C D : Addr) (m : Str) (f2 : Addr) : Bool := aloB K C D m f2 && (mroB K C D && (isClB K D && (isFuB K f2 && (PySem.W.fnIn K f2 && opqB K))))
theorem supB_ok {K : PySem.W.Frag} {C D f2 : Addr} {m : Str} (h : supB K C D m f2 = true) : SupTo K C D m f2 := by
  obtain ⟨h1, h⟩ := He.ba h
  obtain ⟨h2, h⟩ := He.ba h
  obtain ⟨h3, h⟩ := He.ba h
  obtain ⟨h4, h⟩ := He.ba h
  obtain ⟨h5, h6⟩ := He.ba h
  refine ⟨?_, ?_, ?_, ?_, h5, ?_⟩
  · unfold aloB at h1
    split at h1
    · rename_i cd hcd
      refine ⟨cd, hcd, ?_⟩
      split at h1
      · rename_i a ha
        have h1 : a = f2 := by simpa using h1
        rw [ha, h1]
      · cases h1
    · cases h1
  · unfold mroB at h2
    split at h2
    · assumption
    · cases h2
  · unfold isClB at h3
    split at h3
    · rename_i a b c d hl
      exact ⟨_, _, hl, rfl⟩
    · cases h3
  · unfold isFuB at h4
    split at h4
    · rename_i n b c d hl
      have h4 : n = "function" := by simpa using h4
      subst h4
      exact ⟨_, hl, rfl⟩
    · cases h4
  · unfold opqB at h6
    split at h6
    · assumption
    · cases h6
end G
set_option Elab.async false
set_option linter.all false
set_option maxRecDepth 100000
set_option maxHeartbeats 4000000
/-! C() of a class without __init__; o.m(..) on an object of one of several classes. -/
namespace G
open PySem PySem.Spec PyProof.Rows L2 NdefX
/-- a class of the text that has object's __init__ -/
structure Mk0 (K : PySem.W.Frag) (C : Addr) : Prop where
  makes : PySem.W.makesIn K C = true
  init : PySem.W.findIn K (.ref C) "__init__" = some (some (.builtin "object.__init__"))
  top : PySem.W.mroIn K C (.type "object") = some true
  kp : PySem.W.keepIn K (.ref C) = true
def mk0B (K : PySem.W.Frag) (C : Addr) : Bool := PySem.W.makesIn K C && ((match PySem.W.findIn K (.ref C) "__init__" with
  | some (some (.builtin n)) => n == "object.__init__"
  | _ => false) && ((match PySem.W.mroIn K C (.type "object") with
  | some true => true
  | _ => false) && PySem.W.keepIn K (.ref C)))
theorem mk0B_ok {K : PySem.W.Frag} {C : Addr} (h : mk0B K C = true) : Mk0 K C := by
  obtain ⟨h1, h⟩ := He.ba h
  obtain ⟨h2, h⟩ := He.ba h
  obtain ⟨h3, h4⟩ := He.ba h
  refine ⟨h1, ?_, ?_, h4⟩
  · split at h2
    · rename_i n hn
      have h2 : n = "object.__init__" := by simpa using h2
      rw [hn, h2]
    · cases h2
  · split at h3
    · assumption
    · cases h3
def tMk0 (C : Addr) : TE := fun _ H Q => ∀ x dx, H x = none → H dx = none → dx ≠ x → Q (.ref x) (upd (upd H dx (.own x)) x (.ins C dx []))
section
variable {X : Cx} {C : Addr} {x : Str} {p pos : Pos} {j : Nat}
theorem run_mk0 {pn : List (Addr × Obj)} {τ : L2.St} {H0 : Hp} {sh : Shared} {R : VK} (M : Mk0 X.K C) (I : Inv X pn τ H0 sh)
    (h : ∀ x dx, H0 x = none → H0 dx = none → dx ≠ x → R (.ref x) (upd (upd H0 dx (.own x)) x (.ins C dx []))) :
    wpAny (model X.prog X.w) X.A (call (.ref C) []) (EP X pn τ R) X.xe sh := by
  have q0 := h (sh.heap.objs.size + 1) sh.heap.objs.size (I.hok.fresh (Nat.le_succ _)) (I.hok.fresh (Nat.le_refl _)) (Nat.ne_of_lt (Nat.lt_succ_self _))
  have J := Inv.made (C := C) I
  refine wpAny_call (make_map0 I.kIn M.makes M.init (fun self => PySem.W.Looks.of_pure (PySem.W.oi_bind self)) ?_)
  obtain ⟨hh, g, d, t, os⟩ := sh
  have e2 : ((hh.push PySem.W.emptyDict).push (PySem.W.instObj C hh.objs.size)).get? (hh.objs.size + 1) = some (PySem.W.instObj C hh.objs.size) := by
    have := Heap.get?_push_size (hh.push PySem.W.emptyDict) (o := PySem.W.instObj C hh.objs.size) rfl
    rwa [Heap.size_push] at this
  have t1 : PySem.W.Looks (model X.prog X.w) ((hh.push PySem.W.emptyDict).push (PySem.W.instObj C hh.objs.size)) (typeOf (.ref (hh.objs.size + 1))) (.ref C) := (PySem.W.Looks.ld e2).andThen .now
  have t2 : PySem.W.Looks (model X.prog X.w) ((hh.push PySem.W.emptyDict).push (PySem.W.instObj C hh.objs.size)) (isInstance (.ref (hh.objs.size + 1)) (.type "object")) true := t1.andThen (PySem.W.looks_mroIn J.kIn M.top)
  refine codeAny_call_builtin PySem.W.oi_plain PySem.W.entry_oi (@PySem.W.check_slot (model X.prog X.w) _ _ _ "object.__init__" "object" "__init__" (.ref (hh.objs.size + 1)) [] [] _ PySem.W.oi_kind PySem.W.oi_split t2 (PySem.W.oi_args (.ref (hh.objs.size + 1))) ?_)
  rw [PySem.W.oi_run]
  exact wpAny_pure (And.intro rfl ⟨V.ref (hh.objs.size + 1), _, J, rfl, q0⟩)
theorem pe_mk0 (M : Mk0 X.K C) (hm : X.mg x = some (.ref C)) (hg : Gl X x := by rfl) (hdb : (x == ("__debug__" : Str)) = false := by decide) : PE X (.Call (.Name x p) [] [] pos) (tMk0 C) :=
  ⟨fun pn s τ H Q I h => wpAny_Call_Name_kw (ld_glob I hg hm (PySem.W.callWith_K0 I.kIn M.kp (run_mk0 M I h)) hdb)⟩
end
/-- o.m(..), o of one of the classes in L; each has its promise -/
def tMtD (L : List (Addr × Sp)) (m : Str) (E : L2.St → XK) (ta : TE) (t : TA) : TE := fun σ H Q => ta σ H fun x H1 => ∃ C sp, (C, sp) ∈ L ∧ ∃ a dx fs, x = .ref a ∧ H1 a = some (.ins C dx fs) ∧ fs.lookup m = none ∧ t σ H1 fun vs H2 => sp (x :: vs) H2 Q (E σ)
section
variable {X : Cx} {L : List (Addr × Sp)} {m : Str} {E : L2.St → XK} {ta : TE} {t : TA} {o e : Expr} {es : List Expr} {apos pos : Pos} {j k : Nat}
theorem pe_mtD {pl : Sem Bool} (c : ∀ q ∈ L, (∃ ps, Met X.prog X.w X.K X.mg X.base k q.1 m ps q.2) ∧ Cls X.K q.1) (hr : Room j X.A) (hk : k ≤ j) (hx : PAt X E) (he : PE X o ta) (ha : PA X (e :: es) t)
    (hst : starEach (e :: es) X.env = (false, eval e X.env) :: starEach es X.env := by rfl) (hpl : (backTo pos (starEach es X.env)).any (·.1) = false := by rfl)
    (ht : eval (.Call (.Attribute o m apos) (e :: es) [] pos) X.env = (do
      let ov ← eval o X.env
      standAt apos.atName
      let (f, first) ← holding [ov] (getMethod ov m pl)
      callWith pos f first (backTo pos (starEach (e :: es) X.env)) (backToKw pos (keywordEach [] X.env))) := by rfl) : PE X (.Call (.Attribute o m apos) (e :: es) [] pos) (tMtD L m E ta t) := by
  refine ⟨fun pins s σ H Q I h => PySem.W.methodCall_KW (pl := pl) (thn (he.run pins s σ H _ I h) fun u s1 hh => ?_) ht⟩
  obtain ⟨x, H1, I1, rx, C, sp, hC, a, dx, fs, ex, ea, l, q⟩ := hh
  obtain ⟨⟨ps, cm⟩, cl⟩ := c _ hC
  obtain ⟨f, fd, F, hm, hb⟩ := cm.ex
  subst ex
  obtain rfl : u = Value.ref a := rx
  refine getmeth_ok I1 ea cl hm l (PySem.W.callWith_K (first := [.ref a]) (h₀ := X.base) I.ok.mod.kin hm.kp (thn (ha.run pos pins s1 σ H1 _ I1 q) fun us s2 hh => ?_) hst hpl)
  obtain ⟨vs, H2, I2, r, q2⟩ := hh
  exact ⟨I2.kIn, run_fnS (us := .ref a :: us) (vs := .ref a :: vs) F (hr.mono hk) hb (hx σ) I2 (.cons rfl r) q2⟩
end
/-! ### text constants of a class, read by the class or by an object -/
def ccsB (x f : Str) (v : Str) (K : PySem.W.Frag) : Bool := PySem.W.readsIn K (He.ga K x) (.type "type") && (He.eqO (PySem.W.specialIn K (.ref (He.ga K x)) "__getattribute__") (some (some (.builtin "type.__getattribute__"))) &&
  (match PySem.W.findCls K (.ref (He.ga K x)) (.type "type") f with
  | some (.val (.str j _)) => decide (j = v)
  | _ => false))
theorem ccsB_ok {K : PySem.W.Frag} {x f v : Str} (q : ccsB x f v K = true) : ∃ mc u, ClX.CRead K (He.ga K x) mc ∧ ClX.CVal K (He.ga K x) mc f (.str v) u := by
  obtain ⟨q1, q⟩ := He.ba q
  obtain ⟨q2, q3⟩ := He.ba q
  have q4 : (match PySem.W.findCls K (.ref (He.ga K x)) (.type "type") f with
    | some (.val (.str j _)) => decide (j = v)
    | _ => false) = true := q3
  split at q4
  · rename_i j t e
    have ej : j = v := of_decide_eq_true q4
    subst ej
    exact ⟨_, _, ⟨q1, He.eqO_ok q2⟩, ⟨e, ⟨t, rfl⟩⟩⟩
  · cases q4
def conB (x f : Str) (v : Str) (K : PySem.W.Frag) : Bool := (match PySem.W.findIn K (.ref (He.ga K x)) f with
  | some (some (.str j t)) => decide (j = v) && (match PySem.W.specialIn K (.str j t) "__get__" with
    | some none => true
    | _ => false)
  | _ => false) && !PySem.W.copiedNames.contains f
theorem conB_ok {K : PySem.W.Frag} {x f v : Str} (q : conB x f v K = true) : ∃ u, Con K (He.ga K x) f (.str v) u := by
  obtain ⟨q1, q2⟩ := He.ba q
  split at q1
  · rename_i j t e
    obtain ⟨a, b⟩ := He.ba q1
    have ej : j = v := of_decide_eq_true a
    subst ej
    split at b
    · rename_i hs
      exact ⟨_, e, ⟨t, rfl⟩, hs, by simpa using q2⟩
    · cases b
  · cases q1
/-! ### the reading of a method that begins with y = super().m(..) -/
def tSup (K : PySem.W.Frag) (D : Addr) (m : Str) (f2 : Addr) (sp2 : Sp) (E : XK) (i : Nat) (t : TA) (u : TS) : TS := fun Dn σ H => ∃ x0 C dx fs, σ[0]? = some (some (.ref x0)) ∧ H x0 = some (.ins C dx fs) ∧ SupTo K C D m f2 ∧ t σ H fun us H1 => sp2 (.ref x0 :: us) H1 (fun v H2 => u Dn (σ.set i (some v)) H2) E
section
variable {P : Program} {w : World} {K : PySem.W.Frag} {mg : Str → Option Value} {base : Heap} {x qual m y sf : Str} {params : Arguments} {body rest : List Stmt} {scope : Scope} {D f f2 : Addr} {fd fd2 : FuncData} {N ps ps2 : List Str} {k k2 i : Nat} {sp sp2 : Sp} {e : Expr} {es : List Expr} {p0 p1 apos pos py pa : Pos} {ar : Arg}
theorem startF_0 {vs : List V} {x0 : V} {ws : List (Option V)} (hp : 0 < vs.length) (h : (startF N vs ws)[0]? = some (some x0)) : vs[0]? = some x0 := by
  unfold startF at h
  rw [List.getElem?_append_left (by rw [List.length_map]; exact hp), List.getElem?_map] at h
  cases z : vs[0]? with
  | none => rw [z] at h; cases h
  | some a => rw [z] at h; injection h
theorem FunS.okT (F : FunS K P x qual params body scope D f fd) (S : NScope N ps ["__class__"] scope) (len : ∀ vs H Q E, sp vs H Q E → vs.length = ps.length) (hp : 0 < ps.length)
    (hbody : body = .Assign [.Name y py] (.Call (.Attribute (.Call (.Name "super" p0) [] [] p1) m apos) (e :: es) [] pos) pa :: rest)
    (F2 : FnOk P w K mg base (L2N.CX P w) k2 f2 fd2 ps2 sp2) (hk : k2 ≤ k) (hb2 : Binds K fd2 ps2 [])
    (hpar : (params.posonlyargs ++ params.args).head? = some ar) (hsf : ar.arg = sf) (hN0 : N[0]? = some sf) (hsl : scope.names.lookup sf = some .local)
    (hks : scope.names.lookup ("super" : Str) = some .globalImplicit) (hgs : mg "super" = none) (htop : (P.main.scope.names.lookup ("super" : Str)).isSome = false)
    (hat : (m == ("__class__" : Str)) = false) (hi : N[i]? = some y) (hyl : scope.names.lookup y = some .local)
    (hsyn : ∀ X : Cx, X.env.scope = scope → starEach (e :: es) X.env = (false, eval e X.env) :: starEach es X.env ∧ (backTo pos (starEach es X.env)).any (·.1) = false ∧
        (∃ pl : Sem Bool, eval (.Call (.Attribute (.Call (.Name "super" p0) [] [] p1) m apos) (e :: es) [] pos) X.env = (do
          let ov ← attributeBase (.Call (.Name "super" p0) [] [] p1) m X.env (eval (.Call (.Name "super" p0) [] [] p1) X.env)
          standAt apos.atName
          let (g, first) ← holding [ov] (getMethod ov m pl)
          callWith pos g first (backTo pos (starEach (e :: es) X.env)) [])) ∧
        swapsWith (.Call (.Attribute (.Call (.Name "super" p0) [] [] p1) m apos) (e :: es) [] pos) (some (.Name y py)) pa.line X.env = pure false)
    (hrd : ∀ (c cc : Addr) (A : Around) (outer : List Env) (s : Shared) (H : Hp) (vs : List V) (Q : VK) (E : XK), Room k (A.deeper (envF (nfS x qual params body scope c cc) f s.heap.objs.size)) → sp vs H Q E →
      ∃ (t : TA) (u : TS), PA (ncx (L2N.CX P w) P w K mg base N (nfS x qual params body scope c cc) f A outer s H E) (e :: es) t ∧ PSs (ncx (L2N.CX P w) P w K mg base N (nfS x qual params body scope c cc) f A outer s H E) rest u ∧
        PAt (ncx (L2N.CX P w) P w K mg base N (nfS x qual params body scope c cc) f A outer s H E) (fun _ => E) ∧
        tSup K D m f2 sp2 E i t u { nx := fun _ H' => Q .non H', rt := Q } (startF N vs [some (.ref D)]) H) :
    FnOk P w K mg base (L2N.CX P w) (k + 1) f fd ps sp := by
  refine FunS.ok F S len hbody F2 hk hb2 hpar hsf hN0 hsl hks hgs htop hat hi hyl fun c cc A outer s H vs Q E hr hs => ?_
  obtain ⟨t, u, ha, hu, hx, x0, C, dx, fs, h0, hx0, st, q⟩ := hrd c cc A outer s H vs Q E hr hs
  obtain ⟨s1, s2, ⟨pl, s3⟩, s4⟩ := hsyn (ncx (L2N.CX P w) P w K mg base N (nfS x qual params body scope c cc) f A outer s H E) rfl
  exact ⟨t, u, x0, C, dx, fs, pl, ha, hu, hx, s1, s2, s3, s4, startF_0 (by rw [len _ _ _ _ hs]; exact hp) h0, hx0, st, q⟩
end
/-! ### four classes -/
theorem Met.up {P : Program} {w : World} {K : PySem.W.Frag} {mg : Str → Option Value} {base : Heap} {k j : Nat} {C : Addr} {m : Str} {ps : List Str} {sp : Sp} (c : Met P w K mg base k C m ps sp) (h : k ≤ j) : Met P w K mg base j C m ps sp := by
  obtain ⟨f, fd, F, hm, hb⟩ := c.ex
  exact ⟨f, fd, F.mono h, hm, hb⟩
theorem poly4 {P : Program} {w : World} {K : PySem.W.Frag} {mg : Str → Option Value} {base : Heap} {k1 k2 k3 k : Nat} {C1 C2 C3 C4 : Addr} {m : Str} {p1 p2 p3 p4 : List Str} {s1 s2 s3 s4 : Sp}
    (c1 : Met P w K mg base k1 C1 m p1 s1) (l1 : Cls K C1) (c2 : Met P w K mg base k2 C2 m p2 s2) (l2 : Cls K C2) (c3 : Met P w K mg base k3 C3 m p3 s3) (l3 : Cls K C3) (c4 : Met P w K mg base k C4 m p4 s4) (l4 : Cls K C4) (h1 : k1 ≤ k) (h2 : k2 ≤ k) (h3 : k3 ≤ k) :
    ∀ q ∈ [(C1, s1), (C2, s2), (C3, s3), (C4, s4)], (∃ ps, Met P w K mg base k q.1 m ps q.2) ∧ Cls K q.1 := by
  intro q hq
  simp only [List.mem_cons, List.not_mem_nil, or_false] at hq
  rcases hq with rfl | rfl | rfl | rfl
  · exact ⟨⟨_, c1.up h1⟩, l1⟩
  · exact ⟨⟨_, c2.up h2⟩, l2⟩
  · exact ⟨⟨_, c3.up h3⟩, l3⟩
  · exact ⟨⟨_, c4⟩, l4⟩
/-! ### C.m(..), m a plain def of the class C -/
end G
set_option Elab.async false
set_option linter.all false
set_option maxRecDepth 100000
set_option maxHeartbeats 4000000
/-! f(e, ..): a def with keyword-only parameters, called without them. -/
set_option Elab.async false
set_option linter.all false
set_option maxRecDepth 100000
set_option maxHeartbeats 4000000
namespace G
open PySem PySem.Spec PyProof.Rows L2
def top (i : Nat) : Stmt := PySem.Challenge.pw_latelink_k13_whole_modes_keep.main.body.getD i (.Pass ⟨0, 0, 0, 0⟩)
abbrev s__law_purse : Stmt := top 45
abbrev s_check_size : Stmt := top 15
abbrev s_Links___init__ : Stmt := inClass (top 14) 1
abbrev s_Links_is_legal : Stmt := inClass (top 14) 11
abbrev s_check_operation : Stmt := top 16
abbrev s_Links_check : Stmt := inClass (top 14) 12
abbrev s_Links_apply_at : Stmt := inClass (top 14) 14
abbrev s_Links_apply : Stmt := inClass (top 14) 13
abbrev s_Links___eq__ : Stmt := inClass (top 14) 5
abbrev s_Links_is_whole : Stmt := inClass (top 14) 18
abbrev s__law_holders : Stmt := top 56
abbrev s__law_lost : Stmt := top 55
abbrev s__law_sound : Stmt := top 57
abbrev s__law_harmed : Stmt := top 58
abbrev s__law_moved : Stmt := top 53
abbrev s__law_good : Stmt := top 59
abbrev s_Links_outs : Stmt := inClass (top 14) 10
abbrev s__joined : Stmt := top 19
abbrev s_dump_of : Stmt := top 18
abbrev s_Links_dump : Stmt := inClass (top 14) 21
abbrev s_Links_is_sound : Stmt := inClass (top 14) 17
abbrev s__law_dump : Stmt := top 54
abbrev s__law_is : Stmt := top 48
abbrev s__law_ints : Stmt := top 49
abbrev s__law_truth : Stmt := top 50
abbrev s__law_whole : Stmt := top 51
abbrev s_Links_left : Stmt := inClass (top 14) 7
abbrev s_Links_right : Stmt := inClass (top 14) 8
abbrev s_check_gap : Stmt := top 31
abbrev s_gap_state : Stmt := top 25
abbrev s_gap_states : Stmt := top 26
abbrev s_lost_gaps : Stmt := top 27
abbrev s_sole_holders : Stmt := top 28
abbrev s__law_judged : Stmt := top 60
abbrev s__law_take : Stmt := top 46
abbrev s_Links_is_out : Stmt := inClass (top 14) 9
abbrev s__has_fitting_neighbours : Stmt := top 43
abbrev s_foreign_writes : Stmt := top 29
abbrev s_left_to : Stmt := top 30
abbrev s__leaves_a_gap_to_a_holder_that_is_in : Stmt := top 42
abbrev s__loses_a_gap : Stmt := top 41
abbrev s_FreeMode_refusal : Stmt := inClass (top 33) 1
abbrev s_SavingMode_refusal : Stmt := inClass (top 34) 1
abbrev s_GuardedMode_refusal : Stmt := inClass (top 35) 1
abbrev s_CheckedMode_refusal : Stmt := inClass (top 36) 1
abbrev s_all_modes : Stmt := top 38
abbrev s_mode_named : Stmt := top 37
abbrev s_admits : Stmt := top 39
abbrev s__law_finish : Stmt := top 63
abbrev s__law_operation : Stmt := top 52
abbrev s_admitted : Stmt := top 40
abbrev s__law_moment : Stmt := top 61
abbrev s__law_path : Stmt := top 64
abbrev s_Links_copy : Stmt := inClass (top 14) 19
abbrev s__law_worse : Stmt := top 62
abbrev s__law_run : Stmt := top 65
abbrev s__law_words : Stmt := top 47
abbrev s_law : Stmt := top 66
abbrev s_BadGap___init__ : Stmt := inClass (top 8) 0
abbrev s_BadMode___init__ : Stmt := inClass (top 9) 0
abbrev s_BadNode___init__ : Stmt := inClass (top 7) 0
abbrev s_BadSize___init__ : Stmt := inClass (top 6) 0
abbrev s_LogError___init__ : Stmt := inClass (top 3) 0
theorem sc__law_purse : FnScope ["script", "cells", "seed", "cell"] ["script"] (defScope s__law_purse) := ⟨rfl, rfl, rfl, by decide +kernel, rfl, by decide +kernel, by decide +kernel⟩
theorem sc_check_size : FnScope ["size"] ["size"] (defScope s_check_size) := ⟨rfl, rfl, rfl, by decide +kernel, rfl, by decide +kernel, by decide +kernel⟩
theorem sc_Links___init__ : FnScope ["self", "size"] ["self", "size"] (defScope s_Links___init__) := ⟨rfl, rfl, rfl, by decide +kernel, rfl, by decide +kernel, by decide +kernel⟩
theorem sc_Links_is_legal : FnScope ["self", "operation"] ["self", "operation"] (defScope s_Links_is_legal) := ⟨rfl, rfl, rfl, by decide +kernel, rfl, by decide +kernel, by decide +kernel⟩
theorem sc_check_operation : FnScope ["size", "operation", "index"] ["size", "operation", "index"] (defScope s_check_operation) := ⟨rfl, rfl, rfl, by decide +kernel, rfl, by decide +kernel, by decide +kernel⟩
theorem sc_Links_check : FnScope ["self", "operation", "index"] ["self", "operation", "index"] (defScope s_Links_check) := ⟨rfl, rfl, rfl, by decide +kernel, rfl, by decide +kernel, by decide +kernel⟩
theorem sc_Links_apply_at : FnScope ["self", "operation", "index", "node", "low", "high", "is_unlink"] ["self", "operation", "index"] (defScope s_Links_apply_at) := ⟨rfl, rfl, rfl, by decide +kernel, rfl, by decide +kernel, by decide +kernel⟩
theorem sc_Links_apply : FnScope ["self", "operation"] ["self", "operation"] (defScope s_Links_apply) := ⟨rfl, rfl, rfl, by decide +kernel, rfl, by decide +kernel, by decide +kernel⟩
theorem sc_Links___eq__ : FnScope ["self", "other"] ["self", "other"] (defScope s_Links___eq__) := ⟨rfl, rfl, rfl, by decide +kernel, rfl, by decide +kernel, by decide +kernel⟩
theorem sc_Links_is_whole : FnScope ["self"] ["self"] (defScope s_Links_is_whole) := ⟨rfl, rfl, rfl, by decide +kernel, rfl, by decide +kernel, by decide +kernel⟩
theorem sc__law_holders : FnScope ["book", "found", "node", "below", "above"] ["book"] (defScope s__law_holders) := ⟨rfl, rfl, rfl, by decide +kernel, rfl, by decide +kernel, by decide +kernel⟩
theorem sc__law_lost : FnScope ["book", "gap"] ["book"] (defScope s__law_lost) := ⟨rfl, rfl, rfl, by decide +kernel, rfl, by decide +kernel, by decide +kernel⟩
theorem sc__law_sound : FnScope ["book", "last", "node"] ["book"] (defScope s__law_sound) := ⟨rfl, rfl, rfl, by decide +kernel, rfl, by decide +kernel, by decide +kernel⟩
theorem sc__law_harmed : FnScope ["book", "word", "node"] ["book", "word"] (defScope s__law_harmed) := ⟨rfl, rfl, rfl, by decide +kernel, rfl, by decide +kernel, by decide +kernel⟩
theorem sc__law_moved : FnScope ["book", "node", "lefts", "rights", "flags", "lower", "upper"] ["book", "node"] (defScope s__law_moved) := ⟨rfl, rfl, rfl, by decide +kernel, rfl, by decide +kernel, by decide +kernel⟩
theorem sc__law_good : FnScope ["book", "word", "nodes", "node"] ["book", "word", "nodes"] (defScope s__law_good) := ⟨rfl, rfl, rfl, by decide +kernel, rfl, by decide +kernel, by decide +kernel⟩
theorem sc_Links_outs : FnScope ["self", "node"] ["self"] (defScope s_Links_outs) := ⟨rfl, rfl, rfl, by decide +kernel, rfl, by decide +kernel, by decide +kernel⟩
theorem sc__joined : FnScope ["numbers", "number"] ["numbers"] (defScope s__joined) := ⟨rfl, rfl, rfl, by decide +kernel, rfl, by decide +kernel, by decide +kernel⟩
theorem sc_dump_of : FnScope ["rights", "lefts", "outs"] ["rights", "lefts", "outs"] (defScope s_dump_of) := ⟨rfl, rfl, rfl, by decide +kernel, rfl, by decide +kernel, by decide +kernel⟩
theorem sc_Links_dump : FnScope ["self"] ["self"] (defScope s_Links_dump) := ⟨rfl, rfl, rfl, by decide +kernel, rfl, by decide +kernel, by decide +kernel⟩
theorem sc_Links_is_sound : FnScope ["self", "present", "node", "low", "high"] ["self"] (defScope s_Links_is_sound) := ⟨rfl, rfl, rfl, by decide +kernel, rfl, by decide +kernel, by decide +kernel⟩
theorem sc__law_dump : FnScope ["book", "size", "first", "second", "outs", "third", "link", "node"] ["book"] (defScope s__law_dump) := ⟨rfl, rfl, rfl, by decide +kernel, rfl, by decide +kernel, by decide +kernel⟩
theorem sc__law_is : FnScope ["told", "due"] ["told", "due"] (defScope s__law_is) := ⟨rfl, rfl, rfl, by decide +kernel, rfl, by decide +kernel, by decide +kernel⟩
theorem sc__law_ints : FnScope ["told", "due", "k"] ["told", "due"] (defScope s__law_ints) := ⟨rfl, rfl, rfl, by decide +kernel, rfl, by decide +kernel, by decide +kernel⟩
theorem sc__law_truth : FnScope ["told", "due"] ["told", "due"] (defScope s__law_truth) := ⟨rfl, rfl, rfl, by decide +kernel, rfl, by decide +kernel, by decide +kernel⟩
theorem sc__law_whole : FnScope ["size", "lefts", "rights", "node"] ["size"] (defScope s__law_whole) := ⟨rfl, rfl, rfl, by decide +kernel, rfl, by decide +kernel, by decide +kernel⟩
theorem sc_Links_left : FnScope ["self", "node"] ["self", "node"] (defScope s_Links_left) := ⟨rfl, rfl, rfl, by decide +kernel, rfl, by decide +kernel, by decide +kernel⟩
theorem sc_Links_right : FnScope ["self", "node"] ["self", "node"] (defScope s_Links_right) := ⟨rfl, rfl, rfl, by decide +kernel, rfl, by decide +kernel, by decide +kernel⟩
theorem sc_check_gap : FnScope ["size", "gap"] ["size", "gap"] (defScope s_check_gap) := ⟨rfl, rfl, rfl, by decide +kernel, rfl, by decide +kernel, by decide +kernel⟩
theorem sc_gap_state : FnScope ["links", "gap", "is_held_left", "is_held_right"] ["links", "gap"] (defScope s_gap_state) := ⟨rfl, rfl, rfl, by decide +kernel, rfl, by decide +kernel, by decide +kernel⟩
theorem sc_gap_states : FnScope ["links", "gap"] ["links"] (defScope s_gap_states) := ⟨rfl, rfl, rfl, by decide +kernel, rfl, by decide +kernel, by decide +kernel⟩
theorem sc_lost_gaps : FnScope ["links", "gap", "state"] ["links"] (defScope s_lost_gaps) := ⟨rfl, rfl, rfl, by decide +kernel, rfl, by decide +kernel, by decide +kernel⟩
theorem sc_sole_holders : FnScope ["links", "holders", "gap", "state"] ["links"] (defScope s_sole_holders) := ⟨rfl, rfl, rfl, by decide +kernel, rfl, by decide +kernel, by decide +kernel⟩
theorem sc__law_judged : FnScope ["book", "held", "whole"] ["book", "held"] (defScope s__law_judged) := ⟨rfl, rfl, rfl, by decide +kernel, rfl, by decide +kernel, by decide +kernel⟩
theorem sc__law_take : FnScope ["purse", "many", "cells", "draw"] ["purse", "many"] (defScope s__law_take) := ⟨rfl, rfl, rfl, by decide +kernel, rfl, by decide +kernel, by decide +kernel⟩
theorem sc_Links_is_out : FnScope ["self", "node"] ["self", "node"] (defScope s_Links_is_out) := ⟨rfl, rfl, rfl, by decide +kernel, rfl, by decide +kernel, by decide +kernel⟩
theorem sc__has_fitting_neighbours : FnScope ["links", "operation", "node", "low", "high"] ["links", "operation"] (defScope s__has_fitting_neighbours) := ⟨rfl, rfl, rfl, by decide +kernel, rfl, by decide +kernel, by decide +kernel⟩
theorem sc_foreign_writes : FnScope ["links", "operation", "node", "low", "high", "written"] ["links", "operation"] (defScope s_foreign_writes) := ⟨rfl, rfl, rfl, by decide +kernel, rfl, by decide +kernel, by decide +kernel⟩
theorem sc_left_to : FnScope ["operation", "gap"] ["operation", "gap"] (defScope s_left_to) := ⟨rfl, rfl, rfl, by decide +kernel, rfl, by decide +kernel, by decide +kernel⟩
theorem sc__leaves_a_gap_to_a_holder_that_is_in : FnScope ["links", "operation", "gap"] ["links", "operation"] (defScope s__leaves_a_gap_to_a_holder_that_is_in) := ⟨rfl, rfl, rfl, by decide +kernel, rfl, by decide +kernel, by decide +kernel⟩
theorem sc__loses_a_gap : FnScope ["links", "operation", "gap"] ["links", "operation"] (defScope s__loses_a_gap) := ⟨rfl, rfl, rfl, by decide +kernel, rfl, by decide +kernel, by decide +kernel⟩
theorem sc_FreeMode_refusal : FnScope ["self", "links", "operation"] ["self", "links", "operation"] (defScope s_FreeMode_refusal) := ⟨rfl, rfl, rfl, by decide +kernel, rfl, by decide +kernel, by decide +kernel⟩
theorem sc_SavingMode_refusal : NdefX.NScope ["self", "links", "operation", "__class__", "refusing"] ["self", "links", "operation"] ["__class__"] (defScope s_SavingMode_refusal) := NdefX.nscope_by (by decide +kernel)
theorem sc_GuardedMode_refusal : NdefX.NScope ["self", "links", "operation", "__class__", "refusing"] ["self", "links", "operation"] ["__class__"] (defScope s_GuardedMode_refusal) := NdefX.nscope_by (by decide +kernel)
theorem sc_CheckedMode_refusal : NdefX.NScope ["self", "links", "operation", "__class__", "refusing"] ["self", "links", "operation"] ["__class__"] (defScope s_CheckedMode_refusal) := NdefX.nscope_by (by decide +kernel)
theorem sc_all_modes : FnScope [] [] (defScope s_all_modes) := ⟨rfl, rfl, rfl, by decide +kernel, rfl, by decide +kernel, by decide +kernel⟩
theorem sc_mode_named : FnScope ["mode", "known"] ["mode"] (defScope s_mode_named) := ⟨rfl, rfl, rfl, by decide +kernel, rfl, by decide +kernel, by decide +kernel⟩
theorem sc_admits : FnScope ["links", "operation", "mode"] ["links", "operation", "mode"] (defScope s_admits) := ⟨rfl, rfl, rfl, by decide +kernel, rfl, by decide +kernel, by decide +kernel⟩
theorem sc__law_finish : FnScope ["purse", "book", "held", "word", "turn", "outs", "good", "node"] ["purse", "book", "held", "word"] (defScope s__law_finish) := ⟨rfl, rfl, rfl, by decide +kernel, rfl, by decide +kernel, by decide +kernel⟩
theorem sc__law_operation : FnScope ["book", "node"] ["book", "node"] (defScope s__law_operation) := ⟨rfl, rfl, rfl, by decide +kernel, rfl, by decide +kernel, by decide +kernel⟩
theorem sc_admitted : FnScope ["links", "mode", "legal", "node", "operation"] ["links", "mode"] (defScope s_admitted) := ⟨rfl, rfl, rfl, by decide +kernel, rfl, by decide +kernel, by decide +kernel⟩
theorem sc__law_moment : FnScope ["book", "held", "word", "nodes", "good", "node"] ["book", "held", "word", "nodes"] (defScope s__law_moment) := ⟨rfl, rfl, rfl, by decide +kernel, rfl, by decide +kernel, by decide +kernel⟩
theorem sc__law_path : FnScope ["purse", "wide", "paths", "path", "place"] ["purse", "wide"] (defScope s__law_path) := ⟨rfl, rfl, rfl, by decide +kernel, rfl, by decide +kernel, by decide +kernel⟩
theorem sc_Links_copy : FnScope ["self", "twin"] ["self"] (defScope s_Links_copy) := ⟨rfl, rfl, rfl, by decide +kernel, rfl, by decide +kernel, by decide +kernel⟩
theorem sc__law_worse : FnScope ["purse", "book", "held", "node", "word", "other", "after", "outs", "turn", "each"] ["purse", "book", "held", "node", "word"] (defScope s__law_worse) := ⟨rfl, rfl, rfl, by decide +kernel, rfl, by decide +kernel, by decide +kernel⟩
theorem sc__law_run : FnScope ["purse", "word", "wide", "size", "many", "shift", "nodes", "path", "held", "book", "turn", "good", "bad", "node"] ["purse", "word"] (defScope s__law_run) := ⟨rfl, rfl, rfl, by decide +kernel, rfl, by decide +kernel, by decide +kernel⟩
theorem sc__law_words : FnScope [] [] (defScope s__law_words) := ⟨rfl, rfl, rfl, by decide +kernel, rfl, by decide +kernel, by decide +kernel⟩
theorem sc_law : FnScope ["script", "purse", "word"] ["script"] (defScope s_law) := ⟨rfl, rfl, rfl, by decide +kernel, rfl, by decide +kernel, by decide +kernel⟩
theorem sc_BadGap___init__ : FnScope ["self", "gap"] ["self", "gap"] (defScope s_BadGap___init__) := ⟨rfl, rfl, rfl, by decide +kernel, rfl, by decide +kernel, by decide +kernel⟩
theorem sc_BadMode___init__ : FnScope ["self", "name"] ["self", "name"] (defScope s_BadMode___init__) := ⟨rfl, rfl, rfl, by decide +kernel, rfl, by decide +kernel, by decide +kernel⟩
theorem sc_BadNode___init__ : FnScope ["self", "node"] ["self", "node"] (defScope s_BadNode___init__) := ⟨rfl, rfl, rfl, by decide +kernel, rfl, by decide +kernel, by decide +kernel⟩
theorem sc_BadSize___init__ : FnScope ["self", "size"] ["self", "size"] (defScope s_BadSize___init__) := ⟨rfl, rfl, rfl, by decide +kernel, rfl, by decide +kernel, by decide +kernel⟩
theorem sc_LogError___init__ : FnScope ["self", "operation", "index"] ["self", "operation", "index"] (defScope s_LogError___init__) := ⟨rfl, rfl, rfl, by decide +kernel, rfl, by decide +kernel, by decide +kernel⟩
def d__law_purse : He5.DefA := ⟨fun K => He.fAd K ("_law_purse", none), "_law_purse", "_law_purse", defArgs s__law_purse, defBody s__law_purse, defScope s__law_purse, [], []⟩
def d_check_size : He5.DefA := ⟨fun K => He.fAd K ("check_size", none), "check_size", "check_size", defArgs s_check_size, defBody s_check_size, defScope s_check_size, [], []⟩
def d_Links___init__ : He5.DefA := ⟨fun K => He.fAd K ("Links", some "__init__"), "__init__", "Links.__init__", defArgs s_Links___init__, defBody s_Links___init__, defScope s_Links___init__, [], []⟩
def d_Links_is_legal : He5.DefA := ⟨fun K => He.fAd K ("Links", some "is_legal"), "is_legal", "Links.is_legal", defArgs s_Links_is_legal, defBody s_Links_is_legal, defScope s_Links_is_legal, [], []⟩
def d_check_operation : He5.DefA := ⟨fun K => He.fAd K ("check_operation", none), "check_operation", "check_operation", defArgs s_check_operation, defBody s_check_operation, defScope s_check_operation, [], []⟩
def d_Links_check : He5.DefA := ⟨fun K => He.fAd K ("Links", some "check"), "check", "Links.check", defArgs s_Links_check, defBody s_Links_check, defScope s_Links_check, [], []⟩
def d_Links_apply_at : He5.DefA := ⟨fun K => He.fAd K ("Links", some "apply_at"), "apply_at", "Links.apply_at", defArgs s_Links_apply_at, defBody s_Links_apply_at, defScope s_Links_apply_at, [], []⟩
def d_Links_apply : He5.DefA := ⟨fun K => He.fAd K ("Links", some "apply"), "apply", "Links.apply", defArgs s_Links_apply, defBody s_Links_apply, defScope s_Links_apply, [], []⟩
def d_Links___eq__ : He5.DefA := ⟨fun K => He.fAd K ("Links", some "__eq__"), "__eq__", "Links.__eq__", defArgs s_Links___eq__, defBody s_Links___eq__, defScope s_Links___eq__, [], []⟩
def d_Links_is_whole : He5.DefA := ⟨fun K => He.fAd K ("Links", some "is_whole"), "is_whole", "Links.is_whole", defArgs s_Links_is_whole, defBody s_Links_is_whole, defScope s_Links_is_whole, [], []⟩
def d__law_holders : He5.DefA := ⟨fun K => He.fAd K ("_law_holders", none), "_law_holders", "_law_holders", defArgs s__law_holders, defBody s__law_holders, defScope s__law_holders, [], []⟩
def d__law_lost : He5.DefA := ⟨fun K => He.fAd K ("_law_lost", none), "_law_lost", "_law_lost", defArgs s__law_lost, defBody s__law_lost, defScope s__law_lost, [], []⟩
def d__law_sound : He5.DefA := ⟨fun K => He.fAd K ("_law_sound", none), "_law_sound", "_law_sound", defArgs s__law_sound, defBody s__law_sound, defScope s__law_sound, [], []⟩
def d__law_harmed : He5.DefA := ⟨fun K => He.fAd K ("_law_harmed", none), "_law_harmed", "_law_harmed", defArgs s__law_harmed, defBody s__law_harmed, defScope s__law_harmed, [], []⟩
def d__law_moved : He5.DefA := ⟨fun K => He.fAd K ("_law_moved", none), "_law_moved", "_law_moved", defArgs s__law_moved, defBody s__law_moved, defScope s__law_moved, [], []⟩
def d__law_good : He5.DefA := ⟨fun K => He.fAd K ("_law_good", none), "_law_good", "_law_good", defArgs s__law_good, defBody s__law_good, defScope s__law_good, [], []⟩
def d_Links_outs : He5.DefA := ⟨fun K => He.fAd K ("Links", some "outs"), "outs", "Links.outs", defArgs s_Links_outs, defBody s_Links_outs, defScope s_Links_outs, [], []⟩
def d__joined : He5.DefA := ⟨fun K => He.fAd K ("_joined", none), "_joined", "_joined", defArgs s__joined, defBody s__joined, defScope s__joined, [], []⟩
def d_dump_of : He5.DefA := ⟨fun K => He.fAd K ("dump_of", none), "dump_of", "dump_of", defArgs s_dump_of, defBody s_dump_of, defScope s_dump_of, [], []⟩
def d_Links_dump : He5.DefA := ⟨fun K => He.fAd K ("Links", some "dump"), "dump", "Links.dump", defArgs s_Links_dump, defBody s_Links_dump, defScope s_Links_dump, [], []⟩
def d_Links_is_sound : He5.DefA := ⟨fun K => He.fAd K ("Links", some "is_sound"), "is_sound", "Links.is_sound", defArgs s_Links_is_sound, defBody s_Links_is_sound, defScope s_Links_is_sound, [], []⟩
def d__law_dump : He5.DefA := ⟨fun K => He.fAd K ("_law_dump", none), "_law_dump", "_law_dump", defArgs s__law_dump, defBody s__law_dump, defScope s__law_dump, [], []⟩
def d__law_is : He5.DefA := ⟨fun K => He.fAd K ("_law_is", none), "_law_is", "_law_is", defArgs s__law_is, defBody s__law_is, defScope s__law_is, [], []⟩
def d__law_ints : He5.DefA := ⟨fun K => He.fAd K ("_law_ints", none), "_law_ints", "_law_ints", defArgs s__law_ints, defBody s__law_ints, defScope s__law_ints, [], []⟩
def d__law_truth : He5.DefA := ⟨fun K => He.fAd K ("_law_truth", none), "_law_truth", "_law_truth", defArgs s__law_truth, defBody s__law_truth, defScope s__law_truth, [], []⟩
def d__law_whole : He5.DefA := ⟨fun K => He.fAd K ("_law_whole", none), "_law_whole", "_law_whole", defArgs s__law_whole, defBody s__law_whole, defScope s__law_whole, [], []⟩
def d_Links_left : He5.DefA := ⟨fun K => He.fAd K ("Links", some "left"), "left", "Links.left", defArgs s_Links_left, defBody s_Links_left, defScope s_Links_left, [], []⟩
def d_Links_right : He5.DefA := ⟨fun K => He.fAd K ("Links", some "right"), "right", "Links.right", defArgs s_Links_right, defBody s_Links_right, defScope s_Links_right, [], []⟩
def d_check_gap : He5.DefA := ⟨fun K => He.fAd K ("check_gap", none), "check_gap", "check_gap", defArgs s_check_gap, defBody s_check_gap, defScope s_check_gap, [], []⟩
def d_gap_state : He5.DefA := ⟨fun K => He.fAd K ("gap_state", none), "gap_state", "gap_state", defArgs s_gap_state, defBody s_gap_state, defScope s_gap_state, [], []⟩
def d_gap_states : He5.DefA := ⟨fun K => He.fAd K ("gap_states", none), "gap_states", "gap_states", defArgs s_gap_states, defBody s_gap_states, defScope s_gap_states, [], []⟩
def d_lost_gaps : He5.DefA := ⟨fun K => He.fAd K ("lost_gaps", none), "lost_gaps", "lost_gaps", defArgs s_lost_gaps, defBody s_lost_gaps, defScope s_lost_gaps, [], []⟩
def d_sole_holders : He5.DefA := ⟨fun K => He.fAd K ("sole_holders", none), "sole_holders", "sole_holders", defArgs s_sole_holders, defBody s_sole_holders, defScope s_sole_holders, [], []⟩
def d__law_judged : He5.DefA := ⟨fun K => He.fAd K ("_law_judged", none), "_law_judged", "_law_judged", defArgs s__law_judged, defBody s__law_judged, defScope s__law_judged, [], []⟩
def d__law_take : He5.DefA := ⟨fun K => He.fAd K ("_law_take", none), "_law_take", "_law_take", defArgs s__law_take, defBody s__law_take, defScope s__law_take, [], []⟩
def d_Links_is_out : He5.DefA := ⟨fun K => He.fAd K ("Links", some "is_out"), "is_out", "Links.is_out", defArgs s_Links_is_out, defBody s_Links_is_out, defScope s_Links_is_out, [], []⟩
def d__has_fitting_neighbours : He5.DefA := ⟨fun K => He.fAd K ("_has_fitting_neighbours", none), "_has_fitting_neighbours", "_has_fitting_neighbours", defArgs s__has_fitting_neighbours, defBody s__has_fitting_neighbours, defScope s__has_fitting_neighbours, [], []⟩
def d_foreign_writes : He5.DefA := ⟨fun K => He.fAd K ("foreign_writes", none), "foreign_writes", "foreign_writes", defArgs s_foreign_writes, defBody s_foreign_writes, defScope s_foreign_writes, [], []⟩
def d_left_to : He5.DefA := ⟨fun K => He.fAd K ("left_to", none), "left_to", "left_to", defArgs s_left_to, defBody s_left_to, defScope s_left_to, [], []⟩
def d__leaves_a_gap_to_a_holder_that_is_in : He5.DefA := ⟨fun K => He.fAd K ("_leaves_a_gap_to_a_holder_that_is_in", none), "_leaves_a_gap_to_a_holder_that_is_in", "_leaves_a_gap_to_a_holder_that_is_in", defArgs s__leaves_a_gap_to_a_holder_that_is_in, defBody s__leaves_a_gap_to_a_holder_that_is_in, defScope s__leaves_a_gap_to_a_holder_that_is_in, [], []⟩
def d__loses_a_gap : He5.DefA := ⟨fun K => He.fAd K ("_loses_a_gap", none), "_loses_a_gap", "_loses_a_gap", defArgs s__loses_a_gap, defBody s__loses_a_gap, defScope s__loses_a_gap, [], []⟩
def d_FreeMode_refusal : He5.DefA := ⟨fun K => He.fAd K ("FreeMode", some "refusal"), "refusal", "FreeMode.refusal", defArgs s_FreeMode_refusal, defBody s_FreeMode_refusal, defScope s_FreeMode_refusal, [], []⟩
def d_SavingMode_refusal : DefS := ⟨fun K => He.fAd K ("SavingMode", some "refusal"), "refusal", "SavingMode.refusal", defArgs s_SavingMode_refusal, defBody s_SavingMode_refusal, defScope s_SavingMode_refusal, fun K => He.ga K "SavingMode", PySem.Challenge.pw_latelink_k13_whole_modes_keep.main.file⟩
def d_GuardedMode_refusal : DefS := ⟨fun K => He.fAd K ("GuardedMode", some "refusal"), "refusal", "GuardedMode.refusal", defArgs s_GuardedMode_refusal, defBody s_GuardedMode_refusal, defScope s_GuardedMode_refusal, fun K => He.ga K "GuardedMode", PySem.Challenge.pw_latelink_k13_whole_modes_keep.main.file⟩
def d_CheckedMode_refusal : DefS := ⟨fun K => He.fAd K ("CheckedMode", some "refusal"), "refusal", "CheckedMode.refusal", defArgs s_CheckedMode_refusal, defBody s_CheckedMode_refusal, defScope s_CheckedMode_refusal, fun K => He.ga K "CheckedMode", PySem.Challenge.pw_latelink_k13_whole_modes_keep.main.file⟩
def d_all_modes : He5.DefA := ⟨fun K => He.fAd K ("all_modes", none), "all_modes", "all_modes", defArgs s_all_modes, defBody s_all_modes, defScope s_all_modes, [], []⟩
def d_mode_named : He5.DefA := ⟨fun K => He.fAd K ("mode_named", none), "mode_named", "mode_named", defArgs s_mode_named, defBody s_mode_named, defScope s_mode_named, [], []⟩
def d_admits : He5.DefA := ⟨fun K => He.fAd K ("admits", none), "admits", "admits", defArgs s_admits, defBody s_admits, defScope s_admits, [], [("mode", .str "free")]⟩
def d__law_finish : He5.DefA := ⟨fun K => He.fAd K ("_law_finish", none), "_law_finish", "_law_finish", defArgs s__law_finish, defBody s__law_finish, defScope s__law_finish, [], []⟩
def d__law_operation : He5.DefA := ⟨fun K => He.fAd K ("_law_operation", none), "_law_operation", "_law_operation", defArgs s__law_operation, defBody s__law_operation, defScope s__law_operation, [], []⟩
def d_admitted : He5.DefA := ⟨fun K => He.fAd K ("admitted", none), "admitted", "admitted", defArgs s_admitted, defBody s_admitted, defScope s_admitted, [], [("mode", .str "free")]⟩
def d__law_moment : He5.DefA := ⟨fun K => He.fAd K ("_law_moment", none), "_law_moment", "_law_moment", defArgs s__law_moment, defBody s__law_moment, defScope s__law_moment, [], []⟩
def d__law_path : He5.DefA := ⟨fun K => He.fAd K ("_law_path", none), "_law_path", "_law_path", defArgs s__law_path, defBody s__law_path, defScope s__law_path, [], []⟩
def d_Links_copy : He5.DefA := ⟨fun K => He.fAd K ("Links", some "copy"), "copy", "Links.copy", defArgs s_Links_copy, defBody s_Links_copy, defScope s_Links_copy, [], []⟩
def d__law_worse : He5.DefA := ⟨fun K => He.fAd K ("_law_worse", none), "_law_worse", "_law_worse", defArgs s__law_worse, defBody s__law_worse, defScope s__law_worse, [], []⟩
def d__law_run : He5.DefA := ⟨fun K => He.fAd K ("_law_run", none), "_law_run", "_law_run", defArgs s__law_run, defBody s__law_run, defScope s__law_run, [], []⟩
def d__law_words : He5.DefA := ⟨fun K => He.fAd K ("_law_words", none), "_law_words", "_law_words", defArgs s__law_words, defBody s__law_words, defScope s__law_words, [], []⟩
def d_law : He5.DefA := ⟨fun K => He.fAd K ("law", none), "law", "law", defArgs s_law, defBody s_law, defScope s_law, [], []⟩
def d_BadGap___init__ : He5.DefA := ⟨fun K => He.fAd K ("BadGap", some "__init__"), "__init__", "BadGap.__init__", defArgs s_BadGap___init__, defBody s_BadGap___init__, defScope s_BadGap___init__, [], []⟩
def d_BadMode___init__ : He5.DefA := ⟨fun K => He.fAd K ("BadMode", some "__init__"), "__init__", "BadMode.__init__", defArgs s_BadMode___init__, defBody s_BadMode___init__, defScope s_BadMode___init__, [], []⟩
def d_BadNode___init__ : He5.DefA := ⟨fun K => He.fAd K ("BadNode", some "__init__"), "__init__", "BadNode.__init__", defArgs s_BadNode___init__, defBody s_BadNode___init__, defScope s_BadNode___init__, [], []⟩
def d_BadSize___init__ : He5.DefA := ⟨fun K => He.fAd K ("BadSize", some "__init__"), "__init__", "BadSize.__init__", defArgs s_BadSize___init__, defBody s_BadSize___init__, defScope s_BadSize___init__, [], []⟩
def d_LogError___init__ : He5.DefA := ⟨fun K => He.fAd K ("LogError", some "__init__"), "__init__", "LogError.__init__", defArgs s_LogError___init__, defBody s_LogError___init__, defScope s_LogError___init__, [], []⟩
def fnL : List He5.DefA := [d__law_purse, d_check_size, d_Links___init__, d_Links_is_legal, d_check_operation, d_Links_check, d_Links_apply_at, d_Links_apply, d_Links___eq__, d_Links_is_whole, d__law_holders, d__law_lost, d__law_sound, d__law_harmed, d__law_moved, d__law_good, d_Links_outs, d__joined, d_dump_of, d_Links_dump, d_Links_is_sound, d__law_dump, d__law_is, d__law_ints, d__law_truth, d__law_whole, d_Links_left, d_Links_right, d_check_gap, d_gap_state, d_gap_states, d_lost_gaps, d_sole_holders, d__law_judged, d__law_take, d_Links_is_out, d__has_fitting_neighbours, d_foreign_writes, d_left_to, d__leaves_a_gap_to_a_holder_that_is_in, d__loses_a_gap, d_FreeMode_refusal, d_all_modes, d_mode_named, d_admits, d__law_finish, d__law_operation, d_admitted, d__law_moment, d__law_path, d_Links_copy, d__law_worse, d__law_run, d__law_words, d_law, d_BadGap___init__, d_BadMode___init__, d_BadNode___init__, d_BadSize___init__, d_LogError___init__]
def fsL : List DefS := [d_SavingMode_refusal, d_GuardedMode_refusal, d_CheckedMode_refusal]
def chkL : List Chk := [fa_ (.glo "LinkError"),
  fa_ (.glo "LogError"),
  fa_ (.glo "BadOperation"),
  fa_ (.glo "Illegal"),
  fa_ (.glo "BadSize"),
  fa_ (.glo "BadNode"),
  fa_ (.glo "BadGap"),
  fa_ (.glo "BadMode"),
  fa_ (.glo "BadDump"),
  fa_ (.glo "Links"),
  fa_ (.glo "FreeMode"),
  fa_ (.glo "SavingMode"),
  fa_ (.glo "GuardedMode"),
  fa_ (.glo "CheckedMode"),
  fa_ (.glo "_law_purse"),
  fa_ (.glo "check_size"),
  fa_ (.glo "check_operation"),
  fa_ (.glo "_law_holders"),
  fa_ (.glo "_law_lost"),
  fa_ (.glo "_law_sound"),
  fa_ (.glo "_law_harmed"),
  fa_ (.glo "_law_moved"),
  fa_ (.glo "_law_good"),
  fa_ (.glo "_joined"),
  fa_ (.glo "dump_of"),
  fa_ (.glo "_law_dump"),
  fa_ (.glo "_law_is"),
  fa_ (.glo "_law_ints"),
  fa_ (.glo "_law_truth"),
  fa_ (.glo "_law_whole"),
  fa_ (.glo "check_gap"),
  fa_ (.glo "gap_state"),
  fa_ (.glo "gap_states"),
  fa_ (.glo "lost_gaps"),
  fa_ (.glo "sole_holders"),
  fa_ (.glo "_law_judged"),
  fa_ (.glo "_law_take"),
  fa_ (.glo "_has_fitting_neighbours"),
  fa_ (.glo "foreign_writes"),
  fa_ (.glo "left_to"),
  fa_ (.glo "_leaves_a_gap_to_a_holder_that_is_in"),
  fa_ (.glo "_loses_a_gap"),
  fa_ (.glo "all_modes"),
  fa_ (.glo "mode_named"),
  fa_ (.glo "admits"),
  fa_ (.glo "_law_finish"),
  fa_ (.glo "_law_operation"),
  fa_ (.glo "admitted"),
  fa_ (.glo "_law_moment"),
  fa_ (.glo "_law_path"),
  fa_ (.glo "_law_worse"),
  fa_ (.glo "_law_run"),
  fa_ (.glo "_law_words"),
  fa_ (.glo "law"),
  fa_ (.free "ValueError"),
  fa_ (.free "abs"),
  fa_ (.free "all"),
  fa_ (.free "any"),
  fa_ (.free "bool"),
  fa_ (.free "enumerate"),
  fa_ (.free "int"),
  fa_ (.free "isinstance"),
  fa_ (.free "len"),
  fa_ (.free "list"),
  fa_ (.free "max"),
  fa_ (.free "min"),
  fa_ (.free "range"),
  fa_ (.free "set"),
  fa_ (.free "sorted"),
  fa_ (.free "str"),
  fa_ (.free "super"),
  fa_ (.free "tuple"),
  fa_ (.free "zip"),
  fa_ (.str "DIGITS" "0123456789"),
  fa_ (.int "MOST_DIGITS" 9),
  ccsB "CheckedMode" "NAME" "checked",
  ccsB "GuardedMode" "NAME" "guarded",
  ccB "Links" "MOST" 60,
  ccsB "SavingMode" "NAME" "saving",
  conB "CheckedMode" "NAME" "checked",
  conB "FreeMode" "NAME" "free",
  conB "GuardedMode" "NAME" "guarded",
  conB "SavingMode" "NAME" "saving",
  (fun K => mk0B K (He.ga K "CheckedMode")),
  (fun K => mk0B K (He.ga K "FreeMode")),
  (fun K => mk0B K (He.ga K "GuardedMode")),
  (fun K => mk0B K (He.ga K "SavingMode")),
  (fun K => supB K (He.ga K "SavingMode") (He.ga K "SavingMode") "refusal" (He.fAd K ("FreeMode", some "refusal"))),
  (fun K => supB K (He.ga K "GuardedMode") (He.ga K "SavingMode") "refusal" (He.fAd K ("FreeMode", some "refusal"))),
  (fun K => supB K (He.ga K "CheckedMode") (He.ga K "SavingMode") "refusal" (He.fAd K ("FreeMode", some "refusal"))),
  (fun K => supB K (He.ga K "GuardedMode") (He.ga K "GuardedMode") "refusal" (He.fAd K ("SavingMode", some "refusal"))),
  (fun K => supB K (He.ga K "CheckedMode") (He.ga K "GuardedMode") "refusal" (He.fAd K ("SavingMode", some "refusal"))),
  (fun K => supB K (He.ga K "CheckedMode") (He.ga K "CheckedMode") "refusal" (He.fAd K ("GuardedMode", some "refusal"))),
  fa_ (.cls "Links"),
  tyB "Links",
  fa_ (.noat "Links" "_lefts"),
  fa_ (.noat "Links" "_out"),
  fa_ (.noat "Links" "_rights"),
  fa_ (.noat "Links" "size"),
  fa_ (.mkr "Links"),
  fa_ (.meth "Links" "is_legal"),
  fa_ (.meth "Links" "check"),
  fa_ (.meth "Links" "apply_at"),
  fa_ (.meth "Links" "apply"),
  fa_ (.meth "Links" "__eq__"),
  fa_ (.meth "Links" "is_whole"),
  fa_ (.meth "Links" "outs"),
  fa_ (.meth "Links" "dump"),
  fa_ (.meth "Links" "is_sound"),
  fa_ (.meth "Links" "left"),
  fa_ (.meth "Links" "right"),
  fa_ (.meth "Links" "is_out"),
  fa_ (.meth "Links" "copy"),
  fa_ (.cls "FreeMode"),
  tyB "FreeMode",
  fa_ (.meth "FreeMode" "refusal"),
  fa_ (.cls "SavingMode"),
  tyB "SavingMode",
  fa_ (.meth "SavingMode" "refusal"),
  fa_ (.cls "GuardedMode"),
  tyB "GuardedMode",
  fa_ (.meth "GuardedMode" "refusal"),
  fa_ (.cls "CheckedMode"),
  tyB "CheckedMode",
  fa_ (.meth "CheckedMode" "refusal"),
  askB "BadDump",
  askB "BadGap",
  askB "BadMode",
  askB "BadNode",
  askB "BadOperation",
  askB "BadSize",
  askB "Illegal",
  askB "LinkError",
  askB "LogError",
  excB "BadGap" ["gap"],
  iniB "BadGap",
  kitB2 "BadGap" "BadDump" false,
  kitB2 "BadGap" "BadGap" true,
  kitB2 "BadGap" "BadMode" false,
  kitB2 "BadGap" "BadNode" false,
  kitB2 "BadGap" "BadOperation" false,
  kitB2 "BadGap" "BadSize" false,
  kitB2 "BadGap" "Illegal" false,
  kitB2 "BadGap" "LinkError" true,
  kitB2 "BadGap" "LogError" false,
  kitT2 "BadGap" "ValueError" true,
  excB "BadMode" ["name"],
  iniB "BadMode",
  kitB2 "BadMode" "BadDump" false,
  kitB2 "BadMode" "BadGap" false,
  kitB2 "BadMode" "BadMode" true,
  kitB2 "BadMode" "BadNode" false,
  kitB2 "BadMode" "BadOperation" false,
  kitB2 "BadMode" "BadSize" false,
  kitB2 "BadMode" "Illegal" false,
  kitB2 "BadMode" "LinkError" true,
  kitB2 "BadMode" "LogError" false,
  kitT2 "BadMode" "ValueError" true,
  excB "BadNode" ["node"],
  iniB "BadNode",
  kitB2 "BadNode" "BadDump" false,
  kitB2 "BadNode" "BadGap" false,
  kitB2 "BadNode" "BadMode" false,
  kitB2 "BadNode" "BadNode" true,
  kitB2 "BadNode" "BadOperation" false,
  kitB2 "BadNode" "BadSize" false,
  kitB2 "BadNode" "Illegal" false,
  kitB2 "BadNode" "LinkError" true,
  kitB2 "BadNode" "LogError" false,
  kitT2 "BadNode" "ValueError" true,
  excB "BadOperation" ["operation", "index"],
  iniB "BadOperation",
  (fun K => decide (He.ma K (He.ga K "BadOperation") "__init__" = He.ma K (He.ga K "LogError") "__init__")),
  kitB2 "BadOperation" "BadDump" false,
  kitB2 "BadOperation" "BadGap" false,
  kitB2 "BadOperation" "BadMode" false,
  kitB2 "BadOperation" "BadNode" false,
  kitB2 "BadOperation" "BadOperation" true,
  kitB2 "BadOperation" "BadSize" false,
  kitB2 "BadOperation" "Illegal" false,
  kitB2 "BadOperation" "LinkError" true,
  kitB2 "BadOperation" "LogError" true,
  kitT2 "BadOperation" "ValueError" true,
  excB "BadSize" ["size"],
  iniB "BadSize",
  kitB2 "BadSize" "BadDump" false,
  kitB2 "BadSize" "BadGap" false,
  kitB2 "BadSize" "BadMode" false,
  kitB2 "BadSize" "BadNode" false,
  kitB2 "BadSize" "BadOperation" false,
  kitB2 "BadSize" "BadSize" true,
  kitB2 "BadSize" "Illegal" false,
  kitB2 "BadSize" "LinkError" true,
  kitB2 "BadSize" "LogError" false,
  kitT2 "BadSize" "ValueError" true,
  excB "Illegal" ["operation", "index"],
  iniB "Illegal",
  (fun K => decide (He.ma K (He.ga K "Illegal") "__init__" = He.ma K (He.ga K "LogError") "__init__")),
  kitB2 "Illegal" "BadDump" false,
  kitB2 "Illegal" "BadGap" false,
  kitB2 "Illegal" "BadMode" false,
  kitB2 "Illegal" "BadNode" false,
  kitB2 "Illegal" "BadOperation" false,
  kitB2 "Illegal" "BadSize" false,
  kitB2 "Illegal" "Illegal" true,
  kitB2 "Illegal" "LinkError" true,
  kitB2 "Illegal" "LogError" true,
  kitT2 "Illegal" "ValueError" true]
abbrev R : PySem.W.OpenRow := PySem.W.OpenLaw.row PySem.Challenge.rw_latelink_k13_whole_modes_keep
def adL : List Addr := [2, 3, 30, 31, 47, 48, 50, 51, 62, 63, 74, 75, 90, 91, 93, 94, 109, 110, 112, 113, 128, 129, 131, 132, 147, 148, 150, 151, 169, 170, 185, 186, 216, 217, 230, 231, 237, 238, 244, 245, 249, 250, 256, 257, 263, 264, 270, 271, 277, 278, 296, 297, 303, 304, 310, 311, 324, 325, 327, 328, 338, 339, 345, 346, 357, 358, 362, 363, 389, 390, 394, 395, 399, 400, 406, 407, 413, 414, 420, 421, 427, 428, 441, 442, 444, 445, 453, 464, 465, 467, 468, 474, 485, 486, 488, 489, 495, 506, 507, 509, 510, 518, 519, 525, 526, 527, 533, 534, 535, 539, 540, 544, 545, 549, 550, 556, 557, 561, 562, 568, 569, 575, 576, 582, 583, 589, 590, 596, 597, 601, 602, 608, 609, 615, 616, 620, 621, 625, 626, 632, 633, 639, 640, 644, 645, 649, 650, 656, 657, 661, 662, 666, 667, 671, 672, 676, 677, 681, 682, 688, 689]
abbrev hk : PySem.W.Hook := hookSL adL chkL fnL fsL
def ob (s : PySem.W.SharedT) : He.AlD := obsSL adL chkL fnL fsL (HandSHeadRun.getT s)
theorem ob_eq (s : PySem.W.SharedT) : ob s = hk.obs s.abs := obsSL_eq (HandSHeadRun.getT_eq s)
def loose0 : List Str := ["_wall", "__name__", "LinkError", "LogError", "BadOperation", "Illegal", "BadSize", "BadNode", "BadGap", "BadMode", "BadDump", "DIGITS", "MOST_DIGITS", "Links", "check_size", "check_operation", "is_positive", "dump_of", "_joined", "_read_numbers"]
def loose1 : List Str := ["_read_rights", "_read_lefts", "_read_outs", "gap_state", "gap_states", "lost_gaps", "sole_holders", "foreign_writes", "left_to", "check_gap", "FreeMode", "SavingMode", "GuardedMode", "CheckedMode", "mode_named", "all_modes", "admits", "admitted", "_loses_a_gap", "_leaves_a_gap_to_a_holder_that_is_in"]
def loose2 : List Str := ["_has_fitting_neighbours", "_law_purse", "_law_take", "_law_words", "_law_is", "_law_ints", "_law_truth", "_law_whole", "_law_operation", "_law_moved", "_law_dump", "_law_lost", "_law_holders", "_law_sound", "_law_harmed", "_law_good", "_law_judged", "_law_moment", "_law_worse", "_law_finish"]
def loose3 : List Str := ["_law_path", "_law_run"]
def loose : List Str := loose0 ++ loose1 ++ loose2 ++ loose3
set_option maxHeartbeats 0 in
theorem run (w : World) : HandSHeadRun.RunEq R (PySem.W.view R.prog [66]) hk ob 8000 loose w := by
  intro os
  kernel_rfl
/-- what the top has written -/
structure Txt (K : PySem.W.Frag) (mg : Str → Option Value) : Prop where
  g_LinkError : mg "LinkError" = some (.ref (He.ga K "LinkError"))
  g_LogError : mg "LogError" = some (.ref (He.ga K "LogError"))
  g_BadOperation : mg "BadOperation" = some (.ref (He.ga K "BadOperation"))
  g_Illegal : mg "Illegal" = some (.ref (He.ga K "Illegal"))
  g_BadSize : mg "BadSize" = some (.ref (He.ga K "BadSize"))
  g_BadNode : mg "BadNode" = some (.ref (He.ga K "BadNode"))
  g_BadGap : mg "BadGap" = some (.ref (He.ga K "BadGap"))
  g_BadMode : mg "BadMode" = some (.ref (He.ga K "BadMode"))
  g_BadDump : mg "BadDump" = some (.ref (He.ga K "BadDump"))
  g_Links : mg "Links" = some (.ref (He.ga K "Links"))
  g_FreeMode : mg "FreeMode" = some (.ref (He.ga K "FreeMode"))
  g_SavingMode : mg "SavingMode" = some (.ref (He.ga K "SavingMode"))
  g_GuardedMode : mg "GuardedMode" = some (.ref (He.ga K "GuardedMode"))
  g_CheckedMode : mg "CheckedMode" = some (.ref (He.ga K "CheckedMode"))
  gf__law_purse : mg "_law_purse" = some (.ref (He.ga K "_law_purse"))
  gf_check_size : mg "check_size" = some (.ref (He.ga K "check_size"))
  gf_check_operation : mg "check_operation" = some (.ref (He.ga K "check_operation"))
  gf__law_holders : mg "_law_holders" = some (.ref (He.ga K "_law_holders"))
  gf__law_lost : mg "_law_lost" = some (.ref (He.ga K "_law_lost"))
  gf__law_sound : mg "_law_sound" = some (.ref (He.ga K "_law_sound"))
  gf__law_harmed : mg "_law_harmed" = some (.ref (He.ga K "_law_harmed"))
  gf__law_moved : mg "_law_moved" = some (.ref (He.ga K "_law_moved"))
  gf__law_good : mg "_law_good" = some (.ref (He.ga K "_law_good"))
  gf__joined : mg "_joined" = some (.ref (He.ga K "_joined"))
  gf_dump_of : mg "dump_of" = some (.ref (He.ga K "dump_of"))
  gf__law_dump : mg "_law_dump" = some (.ref (He.ga K "_law_dump"))
  gf__law_is : mg "_law_is" = some (.ref (He.ga K "_law_is"))
  gf__law_ints : mg "_law_ints" = some (.ref (He.ga K "_law_ints"))
  gf__law_truth : mg "_law_truth" = some (.ref (He.ga K "_law_truth"))
  gf__law_whole : mg "_law_whole" = some (.ref (He.ga K "_law_whole"))
  gf_check_gap : mg "check_gap" = some (.ref (He.ga K "check_gap"))
  gf_gap_state : mg "gap_state" = some (.ref (He.ga K "gap_state"))
  gf_gap_states : mg "gap_states" = some (.ref (He.ga K "gap_states"))
  gf_lost_gaps : mg "lost_gaps" = some (.ref (He.ga K "lost_gaps"))
  gf_sole_holders : mg "sole_holders" = some (.ref (He.ga K "sole_holders"))
  gf__law_judged : mg "_law_judged" = some (.ref (He.ga K "_law_judged"))
  gf__law_take : mg "_law_take" = some (.ref (He.ga K "_law_take"))
  gf__has_fitting_neighbours : mg "_has_fitting_neighbours" = some (.ref (He.ga K "_has_fitting_neighbours"))
  gf_foreign_writes : mg "foreign_writes" = some (.ref (He.ga K "foreign_writes"))
  gf_left_to : mg "left_to" = some (.ref (He.ga K "left_to"))
  gf__leaves_a_gap_to_a_holder_that_is_in : mg "_leaves_a_gap_to_a_holder_that_is_in" = some (.ref (He.ga K "_leaves_a_gap_to_a_holder_that_is_in"))
  gf__loses_a_gap : mg "_loses_a_gap" = some (.ref (He.ga K "_loses_a_gap"))
  gf_all_modes : mg "all_modes" = some (.ref (He.ga K "all_modes"))
  gf_mode_named : mg "mode_named" = some (.ref (He.ga K "mode_named"))
  gf_admits : mg "admits" = some (.ref (He.ga K "admits"))
  gf__law_finish : mg "_law_finish" = some (.ref (He.ga K "_law_finish"))
  gf__law_operation : mg "_law_operation" = some (.ref (He.ga K "_law_operation"))
  gf_admitted : mg "admitted" = some (.ref (He.ga K "admitted"))
  gf__law_moment : mg "_law_moment" = some (.ref (He.ga K "_law_moment"))
  gf__law_path : mg "_law_path" = some (.ref (He.ga K "_law_path"))
  gf__law_worse : mg "_law_worse" = some (.ref (He.ga K "_law_worse"))
  gf__law_run : mg "_law_run" = some (.ref (He.ga K "_law_run"))
  gf__law_words : mg "_law_words" = some (.ref (He.ga K "_law_words"))
  gf_law : mg "law" = some (.ref (He.ga K "law"))
  b_ValueError : mg "ValueError" = none
  b_abs : mg "abs" = none
  b_all : mg "all" = none
  b_any : mg "any" = none
  b_bool : mg "bool" = none
  b_enumerate : mg "enumerate" = none
  b_int : mg "int" = none
  b_isinstance : mg "isinstance" = none
  b_len : mg "len" = none
  b_list : mg "list" = none
  b_max : mg "max" = none
  b_min : mg "min" = none
  b_range : mg "range" = none
  b_set : mg "set" = none
  b_sorted : mg "sorted" = none
  b_str : mg "str" = none
  b_super : mg "super" = none
  b_tuple : mg "tuple" = none
  b_zip : mg "zip" = none
  k_DIGITS : ∃ t, mg "DIGITS" = some (.str "0123456789" t)
  k_MOST_DIGITS : ∃ t, mg "MOST_DIGITS" = some (.int 9 t)
  cc_CheckedMode_NAME : ∃ mc u, ClX.CRead K (He.ga K "CheckedMode") mc ∧ ClX.CVal K (He.ga K "CheckedMode") mc "NAME" (.str "checked") u
  cc_GuardedMode_NAME : ∃ mc u, ClX.CRead K (He.ga K "GuardedMode") mc ∧ ClX.CVal K (He.ga K "GuardedMode") mc "NAME" (.str "guarded") u
  cc_Links_MOST : ∃ mc u, ClX.CRead K (He.ga K "Links") mc ∧ ClX.CVal K (He.ga K "Links") mc "MOST" (.int 60) u
  cc_SavingMode_NAME : ∃ mc u, ClX.CRead K (He.ga K "SavingMode") mc ∧ ClX.CVal K (He.ga K "SavingMode") mc "NAME" (.str "saving") u
  con_CheckedMode_NAME : ∃ u, Con K (He.ga K "CheckedMode") "NAME" (.str "checked") u
  con_FreeMode_NAME : ∃ u, Con K (He.ga K "FreeMode") "NAME" (.str "free") u
  con_GuardedMode_NAME : ∃ u, Con K (He.ga K "GuardedMode") "NAME" (.str "guarded") u
  con_SavingMode_NAME : ∃ u, Con K (He.ga K "SavingMode") "NAME" (.str "saving") u
  mk0_CheckedMode : Mk0 K (He.ga K "CheckedMode")
  mk0_FreeMode : Mk0 K (He.ga K "FreeMode")
  mk0_GuardedMode : Mk0 K (He.ga K "GuardedMode")
  mk0_SavingMode : Mk0 K (He.ga K "SavingMode")
  sup_SavingMode_SavingMode_refusal : SupTo K (He.ga K "SavingMode") (He.ga K "SavingMode") "refusal" (He.fAd K ("FreeMode", some "refusal"))
  sup_GuardedMode_SavingMode_refusal : SupTo K (He.ga K "GuardedMode") (He.ga K "SavingMode") "refusal" (He.fAd K ("FreeMode", some "refusal"))
  sup_CheckedMode_SavingMode_refusal : SupTo K (He.ga K "CheckedMode") (He.ga K "SavingMode") "refusal" (He.fAd K ("FreeMode", some "refusal"))
  sup_GuardedMode_GuardedMode_refusal : SupTo K (He.ga K "GuardedMode") (He.ga K "GuardedMode") "refusal" (He.fAd K ("SavingMode", some "refusal"))
  sup_CheckedMode_GuardedMode_refusal : SupTo K (He.ga K "CheckedMode") (He.ga K "GuardedMode") "refusal" (He.fAd K ("SavingMode", some "refusal"))
  sup_CheckedMode_CheckedMode_refusal : SupTo K (He.ga K "CheckedMode") (He.ga K "CheckedMode") "refusal" (He.fAd K ("GuardedMode", some "refusal"))
  cl_Links : Cls K (He.ga K "Links")
  ty_Links : PySem.W.findIn K (.ref (He.ga K "Links")) "__class__" = some (some (.builtin "object.__class__")) ∧ PySem.W.mroIn K (He.ga K "Links") (.type "object") = some true
  na_Links__lefts : NoAttr K (He.ga K "Links") "_lefts"
  na_Links__out : NoAttr K (He.ga K "Links") "_out"
  na_Links__rights : NoAttr K (He.ga K "Links") "_rights"
  na_Links_size : NoAttr K (He.ga K "Links") "size"
  mk_Links : Mk K (He.ga K "Links") (He.ma K (He.ga K "Links") "__init__")
  me_Links_is_legal : Meth K (He.ga K "Links") "is_legal" (He.ma K (He.ga K "Links") "is_legal")
  me_Links_check : Meth K (He.ga K "Links") "check" (He.ma K (He.ga K "Links") "check")
  me_Links_apply_at : Meth K (He.ga K "Links") "apply_at" (He.ma K (He.ga K "Links") "apply_at")
  me_Links_apply : Meth K (He.ga K "Links") "apply" (He.ma K (He.ga K "Links") "apply")
  me_Links___eq__ : Meth K (He.ga K "Links") "__eq__" (He.ma K (He.ga K "Links") "__eq__")
  me_Links_is_whole : Meth K (He.ga K "Links") "is_whole" (He.ma K (He.ga K "Links") "is_whole")
  me_Links_outs : Meth K (He.ga K "Links") "outs" (He.ma K (He.ga K "Links") "outs")
  me_Links_dump : Meth K (He.ga K "Links") "dump" (He.ma K (He.ga K "Links") "dump")
  me_Links_is_sound : Meth K (He.ga K "Links") "is_sound" (He.ma K (He.ga K "Links") "is_sound")
  me_Links_left : Meth K (He.ga K "Links") "left" (He.ma K (He.ga K "Links") "left")
  me_Links_right : Meth K (He.ga K "Links") "right" (He.ma K (He.ga K "Links") "right")
  me_Links_is_out : Meth K (He.ga K "Links") "is_out" (He.ma K (He.ga K "Links") "is_out")
  me_Links_copy : Meth K (He.ga K "Links") "copy" (He.ma K (He.ga K "Links") "copy")
  cl_FreeMode : Cls K (He.ga K "FreeMode")
  ty_FreeMode : PySem.W.findIn K (.ref (He.ga K "FreeMode")) "__class__" = some (some (.builtin "object.__class__")) ∧ PySem.W.mroIn K (He.ga K "FreeMode") (.type "object") = some true
  me_FreeMode_refusal : Meth K (He.ga K "FreeMode") "refusal" (He.ma K (He.ga K "FreeMode") "refusal")
  cl_SavingMode : Cls K (He.ga K "SavingMode")
  ty_SavingMode : PySem.W.findIn K (.ref (He.ga K "SavingMode")) "__class__" = some (some (.builtin "object.__class__")) ∧ PySem.W.mroIn K (He.ga K "SavingMode") (.type "object") = some true
  me_SavingMode_refusal : Meth K (He.ga K "SavingMode") "refusal" (He.ma K (He.ga K "SavingMode") "refusal")
  cl_GuardedMode : Cls K (He.ga K "GuardedMode")
  ty_GuardedMode : PySem.W.findIn K (.ref (He.ga K "GuardedMode")) "__class__" = some (some (.builtin "object.__class__")) ∧ PySem.W.mroIn K (He.ga K "GuardedMode") (.type "object") = some true
  me_GuardedMode_refusal : Meth K (He.ga K "GuardedMode") "refusal" (He.ma K (He.ga K "GuardedMode") "refusal")
  cl_CheckedMode : Cls K (He.ga K "CheckedMode")
  ty_CheckedMode : PySem.W.findIn K (.ref (He.ga K "CheckedMode")) "__class__" = some (some (.builtin "object.__class__")) ∧ PySem.W.mroIn K (He.ga K "CheckedMode") (.type "object") = some true
  me_CheckedMode_refusal : Meth K (He.ga K "CheckedMode") "refusal" (He.ma K (He.ga K "CheckedMode") "refusal")
  ex_BadDump : ExK K (He.ga K "BadDump")
  ex_BadGap : ExK K (He.ga K "BadGap")
  ex_BadMode : ExK K (He.ga K "BadMode")
  ex_BadNode : ExK K (He.ga K "BadNode")
  ex_BadOperation : ExK K (He.ga K "BadOperation")
  ex_BadSize : ExK K (He.ga K "BadSize")
  ex_Illegal : ExK K (He.ga K "Illegal")
  ex_LinkError : ExK K (He.ga K "LinkError")
  ex_LogError : ExK K (He.ga K "LogError")
  oe_BadGap : OexC K (He.ga K "BadGap") ∧ ∀ f ∈ (["gap"] : List Str), PySem.W.findIn K (.ref (He.ga K "BadGap")) f = some none
  in_BadGap : PySem.W.findIn K (.ref (He.ga K "BadGap")) "__init__" = some (some (.ref (He.ma K (He.ga K "BadGap") "__init__"))) ∧ PySem.W.typeIn K (.ref (He.ma K (He.ga K "BadGap") "__init__")) = some (.type "function")
  kit_BadGap_BadDump : PySem.W.kitOne K (.ref (He.ga K "BadGap")) (.ref (He.ga K "BadDump")) = some false
  kit_BadGap_BadGap : PySem.W.kitOne K (.ref (He.ga K "BadGap")) (.ref (He.ga K "BadGap")) = some true
  kit_BadGap_BadMode : PySem.W.kitOne K (.ref (He.ga K "BadGap")) (.ref (He.ga K "BadMode")) = some false
  kit_BadGap_BadNode : PySem.W.kitOne K (.ref (He.ga K "BadGap")) (.ref (He.ga K "BadNode")) = some false
  kit_BadGap_BadOperation : PySem.W.kitOne K (.ref (He.ga K "BadGap")) (.ref (He.ga K "BadOperation")) = some false
  kit_BadGap_BadSize : PySem.W.kitOne K (.ref (He.ga K "BadGap")) (.ref (He.ga K "BadSize")) = some false
  kit_BadGap_Illegal : PySem.W.kitOne K (.ref (He.ga K "BadGap")) (.ref (He.ga K "Illegal")) = some false
  kit_BadGap_LinkError : PySem.W.kitOne K (.ref (He.ga K "BadGap")) (.ref (He.ga K "LinkError")) = some true
  kit_BadGap_LogError : PySem.W.kitOne K (.ref (He.ga K "BadGap")) (.ref (He.ga K "LogError")) = some false
  kit_BadGap_ValueError : PySem.W.kitOne K (.ref (He.ga K "BadGap")) (.type "ValueError") = some true
  oe_BadMode : OexC K (He.ga K "BadMode") ∧ ∀ f ∈ (["name"] : List Str), PySem.W.findIn K (.ref (He.ga K "BadMode")) f = some none
  in_BadMode : PySem.W.findIn K (.ref (He.ga K "BadMode")) "__init__" = some (some (.ref (He.ma K (He.ga K "BadMode") "__init__"))) ∧ PySem.W.typeIn K (.ref (He.ma K (He.ga K "BadMode") "__init__")) = some (.type "function")
  kit_BadMode_BadDump : PySem.W.kitOne K (.ref (He.ga K "BadMode")) (.ref (He.ga K "BadDump")) = some false
  kit_BadMode_BadGap : PySem.W.kitOne K (.ref (He.ga K "BadMode")) (.ref (He.ga K "BadGap")) = some false
  kit_BadMode_BadMode : PySem.W.kitOne K (.ref (He.ga K "BadMode")) (.ref (He.ga K "BadMode")) = some true
  kit_BadMode_BadNode : PySem.W.kitOne K (.ref (He.ga K "BadMode")) (.ref (He.ga K "BadNode")) = some false
  kit_BadMode_BadOperation : PySem.W.kitOne K (.ref (He.ga K "BadMode")) (.ref (He.ga K "BadOperation")) = some false
  kit_BadMode_BadSize : PySem.W.kitOne K (.ref (He.ga K "BadMode")) (.ref (He.ga K "BadSize")) = some false
  kit_BadMode_Illegal : PySem.W.kitOne K (.ref (He.ga K "BadMode")) (.ref (He.ga K "Illegal")) = some false
  kit_BadMode_LinkError : PySem.W.kitOne K (.ref (He.ga K "BadMode")) (.ref (He.ga K "LinkError")) = some true
  kit_BadMode_LogError : PySem.W.kitOne K (.ref (He.ga K "BadMode")) (.ref (He.ga K "LogError")) = some false
  kit_BadMode_ValueError : PySem.W.kitOne K (.ref (He.ga K "BadMode")) (.type "ValueError") = some true
  oe_BadNode : OexC K (He.ga K "BadNode") ∧ ∀ f ∈ (["node"] : List Str), PySem.W.findIn K (.ref (He.ga K "BadNode")) f = some none
  in_BadNode : PySem.W.findIn K (.ref (He.ga K "BadNode")) "__init__" = some (some (.ref (He.ma K (He.ga K "BadNode") "__init__"))) ∧ PySem.W.typeIn K (.ref (He.ma K (He.ga K "BadNode") "__init__")) = some (.type "function")
  kit_BadNode_BadDump : PySem.W.kitOne K (.ref (He.ga K "BadNode")) (.ref (He.ga K "BadDump")) = some false
  kit_BadNode_BadGap : PySem.W.kitOne K (.ref (He.ga K "BadNode")) (.ref (He.ga K "BadGap")) = some false
  kit_BadNode_BadMode : PySem.W.kitOne K (.ref (He.ga K "BadNode")) (.ref (He.ga K "BadMode")) = some false
  kit_BadNode_BadNode : PySem.W.kitOne K (.ref (He.ga K "BadNode")) (.ref (He.ga K "BadNode")) = some true
  kit_BadNode_BadOperation : PySem.W.kitOne K (.ref (He.ga K "BadNode")) (.ref (He.ga K "BadOperation")) = some false
  kit_BadNode_BadSize : PySem.W.kitOne K (.ref (He.ga K "BadNode")) (.ref (He.ga K "BadSize")) = some false
  kit_BadNode_Illegal : PySem.W.kitOne K (.ref (He.ga K "BadNode")) (.ref (He.ga K "Illegal")) = some false
  kit_BadNode_LinkError : PySem.W.kitOne K (.ref (He.ga K "BadNode")) (.ref (He.ga K "LinkError")) = some true
  kit_BadNode_LogError : PySem.W.kitOne K (.ref (He.ga K "BadNode")) (.ref (He.ga K "LogError")) = some false
  kit_BadNode_ValueError : PySem.W.kitOne K (.ref (He.ga K "BadNode")) (.type "ValueError") = some true
  oe_BadOperation : OexC K (He.ga K "BadOperation") ∧ ∀ f ∈ (["operation", "index"] : List Str), PySem.W.findIn K (.ref (He.ga K "BadOperation")) f = some none
  in_BadOperation : PySem.W.findIn K (.ref (He.ga K "BadOperation")) "__init__" = some (some (.ref (He.ma K (He.ga K "BadOperation") "__init__"))) ∧ PySem.W.typeIn K (.ref (He.ma K (He.ga K "BadOperation") "__init__")) = some (.type "function")
  sm_BadOperation : He.ma K (He.ga K "BadOperation") "__init__" = He.ma K (He.ga K "LogError") "__init__"
  kit_BadOperation_BadDump : PySem.W.kitOne K (.ref (He.ga K "BadOperation")) (.ref (He.ga K "BadDump")) = some false
  kit_BadOperation_BadGap : PySem.W.kitOne K (.ref (He.ga K "BadOperation")) (.ref (He.ga K "BadGap")) = some false
  kit_BadOperation_BadMode : PySem.W.kitOne K (.ref (He.ga K "BadOperation")) (.ref (He.ga K "BadMode")) = some false
  kit_BadOperation_BadNode : PySem.W.kitOne K (.ref (He.ga K "BadOperation")) (.ref (He.ga K "BadNode")) = some false
  kit_BadOperation_BadOperation : PySem.W.kitOne K (.ref (He.ga K "BadOperation")) (.ref (He.ga K "BadOperation")) = some true
  kit_BadOperation_BadSize : PySem.W.kitOne K (.ref (He.ga K "BadOperation")) (.ref (He.ga K "BadSize")) = some false
  kit_BadOperation_Illegal : PySem.W.kitOne K (.ref (He.ga K "BadOperation")) (.ref (He.ga K "Illegal")) = some false
  kit_BadOperation_LinkError : PySem.W.kitOne K (.ref (He.ga K "BadOperation")) (.ref (He.ga K "LinkError")) = some true
  kit_BadOperation_LogError : PySem.W.kitOne K (.ref (He.ga K "BadOperation")) (.ref (He.ga K "LogError")) = some true
  kit_BadOperation_ValueError : PySem.W.kitOne K (.ref (He.ga K "BadOperation")) (.type "ValueError") = some true
  oe_BadSize : OexC K (He.ga K "BadSize") ∧ ∀ f ∈ (["size"] : List Str), PySem.W.findIn K (.ref (He.ga K "BadSize")) f = some none
  in_BadSize : PySem.W.findIn K (.ref (He.ga K "BadSize")) "__init__" = some (some (.ref (He.ma K (He.ga K "BadSize") "__init__"))) ∧ PySem.W.typeIn K (.ref (He.ma K (He.ga K "BadSize") "__init__")) = some (.type "function")
  kit_BadSize_BadDump : PySem.W.kitOne K (.ref (He.ga K "BadSize")) (.ref (He.ga K "BadDump")) = some false
  kit_BadSize_BadGap : PySem.W.kitOne K (.ref (He.ga K "BadSize")) (.ref (He.ga K "BadGap")) = some false
  kit_BadSize_BadMode : PySem.W.kitOne K (.ref (He.ga K "BadSize")) (.ref (He.ga K "BadMode")) = some false
  kit_BadSize_BadNode : PySem.W.kitOne K (.ref (He.ga K "BadSize")) (.ref (He.ga K "BadNode")) = some false
  kit_BadSize_BadOperation : PySem.W.kitOne K (.ref (He.ga K "BadSize")) (.ref (He.ga K "BadOperation")) = some false
  kit_BadSize_BadSize : PySem.W.kitOne K (.ref (He.ga K "BadSize")) (.ref (He.ga K "BadSize")) = some true
  kit_BadSize_Illegal : PySem.W.kitOne K (.ref (He.ga K "BadSize")) (.ref (He.ga K "Illegal")) = some false
  kit_BadSize_LinkError : PySem.W.kitOne K (.ref (He.ga K "BadSize")) (.ref (He.ga K "LinkError")) = some true
  kit_BadSize_LogError : PySem.W.kitOne K (.ref (He.ga K "BadSize")) (.ref (He.ga K "LogError")) = some false
  kit_BadSize_ValueError : PySem.W.kitOne K (.ref (He.ga K "BadSize")) (.type "ValueError") = some true
  oe_Illegal : OexC K (He.ga K "Illegal") ∧ ∀ f ∈ (["operation", "index"] : List Str), PySem.W.findIn K (.ref (He.ga K "Illegal")) f = some none
  in_Illegal : PySem.W.findIn K (.ref (He.ga K "Illegal")) "__init__" = some (some (.ref (He.ma K (He.ga K "Illegal") "__init__"))) ∧ PySem.W.typeIn K (.ref (He.ma K (He.ga K "Illegal") "__init__")) = some (.type "function")
  sm_Illegal : He.ma K (He.ga K "Illegal") "__init__" = He.ma K (He.ga K "LogError") "__init__"
  kit_Illegal_BadDump : PySem.W.kitOne K (.ref (He.ga K "Illegal")) (.ref (He.ga K "BadDump")) = some false
  kit_Illegal_BadGap : PySem.W.kitOne K (.ref (He.ga K "Illegal")) (.ref (He.ga K "BadGap")) = some false
  kit_Illegal_BadMode : PySem.W.kitOne K (.ref (He.ga K "Illegal")) (.ref (He.ga K "BadMode")) = some false
  kit_Illegal_BadNode : PySem.W.kitOne K (.ref (He.ga K "Illegal")) (.ref (He.ga K "BadNode")) = some false
  kit_Illegal_BadOperation : PySem.W.kitOne K (.ref (He.ga K "Illegal")) (.ref (He.ga K "BadOperation")) = some false
  kit_Illegal_BadSize : PySem.W.kitOne K (.ref (He.ga K "Illegal")) (.ref (He.ga K "BadSize")) = some false
  kit_Illegal_Illegal : PySem.W.kitOne K (.ref (He.ga K "Illegal")) (.ref (He.ga K "Illegal")) = some true
  kit_Illegal_LinkError : PySem.W.kitOne K (.ref (He.ga K "Illegal")) (.ref (He.ga K "LinkError")) = some true
  kit_Illegal_LogError : PySem.W.kitOne K (.ref (He.ga K "Illegal")) (.ref (He.ga K "LogError")) = some true
  kit_Illegal_ValueError : PySem.W.kitOne K (.ref (He.ga K "Illegal")) (.type "ValueError") = some true
theorem txt_of {K : PySem.W.Frag} {h : Heap} {mg : Str → Option Value} (X : K.In h) (G : h.Ns mainGlobals mg) (c : SaysY chkL fnL K) : Txt K mg where
  g_LinkError := He.glo_ok X G (c.fact 0 (f := fa_ (.glo "LinkError")) rfl)
  g_LogError := He.glo_ok X G (c.fact 1 (f := fa_ (.glo "LogError")) rfl)
  g_BadOperation := He.glo_ok X G (c.fact 2 (f := fa_ (.glo "BadOperation")) rfl)
  g_Illegal := He.glo_ok X G (c.fact 3 (f := fa_ (.glo "Illegal")) rfl)
  g_BadSize := He.glo_ok X G (c.fact 4 (f := fa_ (.glo "BadSize")) rfl)
  g_BadNode := He.glo_ok X G (c.fact 5 (f := fa_ (.glo "BadNode")) rfl)
  g_BadGap := He.glo_ok X G (c.fact 6 (f := fa_ (.glo "BadGap")) rfl)
  g_BadMode := He.glo_ok X G (c.fact 7 (f := fa_ (.glo "BadMode")) rfl)
  g_BadDump := He.glo_ok X G (c.fact 8 (f := fa_ (.glo "BadDump")) rfl)
  g_Links := He.glo_ok X G (c.fact 9 (f := fa_ (.glo "Links")) rfl)
  g_FreeMode := He.glo_ok X G (c.fact 10 (f := fa_ (.glo "FreeMode")) rfl)
  g_SavingMode := He.glo_ok X G (c.fact 11 (f := fa_ (.glo "SavingMode")) rfl)
  g_GuardedMode := He.glo_ok X G (c.fact 12 (f := fa_ (.glo "GuardedMode")) rfl)
  g_CheckedMode := He.glo_ok X G (c.fact 13 (f := fa_ (.glo "CheckedMode")) rfl)
  gf__law_purse := He.glo_ok X G (c.fact 14 (f := fa_ (.glo "_law_purse")) rfl)
  gf_check_size := He.glo_ok X G (c.fact 15 (f := fa_ (.glo "check_size")) rfl)
  gf_check_operation := He.glo_ok X G (c.fact 16 (f := fa_ (.glo "check_operation")) rfl)
  gf__law_holders := He.glo_ok X G (c.fact 17 (f := fa_ (.glo "_law_holders")) rfl)
  gf__law_lost := He.glo_ok X G (c.fact 18 (f := fa_ (.glo "_law_lost")) rfl)
  gf__law_sound := He.glo_ok X G (c.fact 19 (f := fa_ (.glo "_law_sound")) rfl)
  gf__law_harmed := He.glo_ok X G (c.fact 20 (f := fa_ (.glo "_law_harmed")) rfl)
  gf__law_moved := He.glo_ok X G (c.fact 21 (f := fa_ (.glo "_law_moved")) rfl)
  gf__law_good := He.glo_ok X G (c.fact 22 (f := fa_ (.glo "_law_good")) rfl)
  gf__joined := He.glo_ok X G (c.fact 23 (f := fa_ (.glo "_joined")) rfl)
  gf_dump_of := He.glo_ok X G (c.fact 24 (f := fa_ (.glo "dump_of")) rfl)
  gf__law_dump := He.glo_ok X G (c.fact 25 (f := fa_ (.glo "_law_dump")) rfl)
  gf__law_is := He.glo_ok X G (c.fact 26 (f := fa_ (.glo "_law_is")) rfl)
  gf__law_ints := He.glo_ok X G (c.fact 27 (f := fa_ (.glo "_law_ints")) rfl)
  gf__law_truth := He.glo_ok X G (c.fact 28 (f := fa_ (.glo "_law_truth")) rfl)
  gf__law_whole := He.glo_ok X G (c.fact 29 (f := fa_ (.glo "_law_whole")) rfl)
  gf_check_gap := He.glo_ok X G (c.fact 30 (f := fa_ (.glo "check_gap")) rfl)
  gf_gap_state := He.glo_ok X G (c.fact 31 (f := fa_ (.glo "gap_state")) rfl)
  gf_gap_states := He.glo_ok X G (c.fact 32 (f := fa_ (.glo "gap_states")) rfl)
  gf_lost_gaps := He.glo_ok X G (c.fact 33 (f := fa_ (.glo "lost_gaps")) rfl)
  gf_sole_holders := He.glo_ok X G (c.fact 34 (f := fa_ (.glo "sole_holders")) rfl)
  gf__law_judged := He.glo_ok X G (c.fact 35 (f := fa_ (.glo "_law_judged")) rfl)
  gf__law_take := He.glo_ok X G (c.fact 36 (f := fa_ (.glo "_law_take")) rfl)
  gf__has_fitting_neighbours := He.glo_ok X G (c.fact 37 (f := fa_ (.glo "_has_fitting_neighbours")) rfl)
  gf_foreign_writes := He.glo_ok X G (c.fact 38 (f := fa_ (.glo "foreign_writes")) rfl)
  gf_left_to := He.glo_ok X G (c.fact 39 (f := fa_ (.glo "left_to")) rfl)
  gf__leaves_a_gap_to_a_holder_that_is_in := He.glo_ok X G (c.fact 40 (f := fa_ (.glo "_leaves_a_gap_to_a_holder_that_is_in")) rfl)
  gf__loses_a_gap := He.glo_ok X G (c.fact 41 (f := fa_ (.glo "_loses_a_gap")) rfl)
  gf_all_modes := He.glo_ok X G (c.fact 42 (f := fa_ (.glo "all_modes")) rfl)
  gf_mode_named := He.glo_ok X G (c.fact 43 (f := fa_ (.glo "mode_named")) rfl)
  gf_admits := He.glo_ok X G (c.fact 44 (f := fa_ (.glo "admits")) rfl)
  gf__law_finish := He.glo_ok X G (c.fact 45 (f := fa_ (.glo "_law_finish")) rfl)
  gf__law_operation := He.glo_ok X G (c.fact 46 (f := fa_ (.glo "_law_operation")) rfl)
  gf_admitted := He.glo_ok X G (c.fact 47 (f := fa_ (.glo "admitted")) rfl)
  gf__law_moment := He.glo_ok X G (c.fact 48 (f := fa_ (.glo "_law_moment")) rfl)
  gf__law_path := He.glo_ok X G (c.fact 49 (f := fa_ (.glo "_law_path")) rfl)
  gf__law_worse := He.glo_ok X G (c.fact 50 (f := fa_ (.glo "_law_worse")) rfl)
  gf__law_run := He.glo_ok X G (c.fact 51 (f := fa_ (.glo "_law_run")) rfl)
  gf__law_words := He.glo_ok X G (c.fact 52 (f := fa_ (.glo "_law_words")) rfl)
  gf_law := He.glo_ok X G (c.fact 53 (f := fa_ (.glo "law")) rfl)
  b_ValueError := He.free_ok X G (c.fact 54 (f := fa_ (.free "ValueError")) rfl)
  b_abs := He.free_ok X G (c.fact 55 (f := fa_ (.free "abs")) rfl)
  b_all := He.free_ok X G (c.fact 56 (f := fa_ (.free "all")) rfl)
  b_any := He.free_ok X G (c.fact 57 (f := fa_ (.free "any")) rfl)
  b_bool := He.free_ok X G (c.fact 58 (f := fa_ (.free "bool")) rfl)
  b_enumerate := He.free_ok X G (c.fact 59 (f := fa_ (.free "enumerate")) rfl)
  b_int := He.free_ok X G (c.fact 60 (f := fa_ (.free "int")) rfl)
  b_isinstance := He.free_ok X G (c.fact 61 (f := fa_ (.free "isinstance")) rfl)
  b_len := He.free_ok X G (c.fact 62 (f := fa_ (.free "len")) rfl)
  b_list := He.free_ok X G (c.fact 63 (f := fa_ (.free "list")) rfl)
  b_max := He.free_ok X G (c.fact 64 (f := fa_ (.free "max")) rfl)
  b_min := He.free_ok X G (c.fact 65 (f := fa_ (.free "min")) rfl)
  b_range := He.free_ok X G (c.fact 66 (f := fa_ (.free "range")) rfl)
  b_set := He.free_ok X G (c.fact 67 (f := fa_ (.free "set")) rfl)
  b_sorted := He.free_ok X G (c.fact 68 (f := fa_ (.free "sorted")) rfl)
  b_str := He.free_ok X G (c.fact 69 (f := fa_ (.free "str")) rfl)
  b_super := He.free_ok X G (c.fact 70 (f := fa_ (.free "super")) rfl)
  b_tuple := He.free_ok X G (c.fact 71 (f := fa_ (.free "tuple")) rfl)
  b_zip := He.free_ok X G (c.fact 72 (f := fa_ (.free "zip")) rfl)
  k_DIGITS := He.str_ok X G (c.fact 73 (f := fa_ (.str "DIGITS" "0123456789")) rfl)
  k_MOST_DIGITS := He.int_ok X G (c.fact 74 (f := fa_ (.int "MOST_DIGITS" 9)) rfl)
  cc_CheckedMode_NAME := ccsB_ok (c.fact 75 (f := ccsB "CheckedMode" "NAME" "checked") rfl)
  cc_GuardedMode_NAME := ccsB_ok (c.fact 76 (f := ccsB "GuardedMode" "NAME" "guarded") rfl)
  cc_Links_MOST := ccB_ok (c.fact 77 (f := ccB "Links" "MOST" 60) rfl)
  cc_SavingMode_NAME := ccsB_ok (c.fact 78 (f := ccsB "SavingMode" "NAME" "saving") rfl)
  con_CheckedMode_NAME := conB_ok (c.fact 79 (f := conB "CheckedMode" "NAME" "checked") rfl)
  con_FreeMode_NAME := conB_ok (c.fact 80 (f := conB "FreeMode" "NAME" "free") rfl)
  con_GuardedMode_NAME := conB_ok (c.fact 81 (f := conB "GuardedMode" "NAME" "guarded") rfl)
  con_SavingMode_NAME := conB_ok (c.fact 82 (f := conB "SavingMode" "NAME" "saving") rfl)
  mk0_CheckedMode := mk0B_ok (c.fact 83 (f := (fun K => mk0B K (He.ga K "CheckedMode"))) rfl)
  mk0_FreeMode := mk0B_ok (c.fact 84 (f := (fun K => mk0B K (He.ga K "FreeMode"))) rfl)
  mk0_GuardedMode := mk0B_ok (c.fact 85 (f := (fun K => mk0B K (He.ga K "GuardedMode"))) rfl)
  mk0_SavingMode := mk0B_ok (c.fact 86 (f := (fun K => mk0B K (He.ga K "SavingMode"))) rfl)
  sup_SavingMode_SavingMode_refusal := supB_ok (c.fact 87 (f := (fun K => supB K (He.ga K "SavingMode") (He.ga K "SavingMode") "refusal" (He.fAd K ("FreeMode", some "refusal")))) rfl)
  sup_GuardedMode_SavingMode_refusal := supB_ok (c.fact 88 (f := (fun K => supB K (He.ga K "GuardedMode") (He.ga K "SavingMode") "refusal" (He.fAd K ("FreeMode", some "refusal")))) rfl)
  sup_CheckedMode_SavingMode_refusal := supB_ok (c.fact 89 (f := (fun K => supB K (He.ga K "CheckedMode") (He.ga K "SavingMode") "refusal" (He.fAd K ("FreeMode", some "refusal")))) rfl)
  sup_GuardedMode_GuardedMode_refusal := supB_ok (c.fact 90 (f := (fun K => supB K (He.ga K "GuardedMode") (He.ga K "GuardedMode") "refusal" (He.fAd K ("SavingMode", some "refusal")))) rfl)
  sup_CheckedMode_GuardedMode_refusal := supB_ok (c.fact 91 (f := (fun K => supB K (He.ga K "CheckedMode") (He.ga K "GuardedMode") "refusal" (He.fAd K ("SavingMode", some "refusal")))) rfl)
  sup_CheckedMode_CheckedMode_refusal := supB_ok (c.fact 92 (f := (fun K => supB K (He.ga K "CheckedMode") (He.ga K "CheckedMode") "refusal" (He.fAd K ("GuardedMode", some "refusal")))) rfl)
  cl_Links := He.cls_ok (c.fact 93 (f := fa_ (.cls "Links")) rfl)
  ty_Links := tyB_ok (c.fact 94 (f := tyB "Links") rfl)
  na_Links__lefts := He.noat_ok (c.fact 95 (f := fa_ (.noat "Links" "_lefts")) rfl)
  na_Links__out := He.noat_ok (c.fact 96 (f := fa_ (.noat "Links" "_out")) rfl)
  na_Links__rights := He.noat_ok (c.fact 97 (f := fa_ (.noat "Links" "_rights")) rfl)
  na_Links_size := He.noat_ok (c.fact 98 (f := fa_ (.noat "Links" "size")) rfl)
  mk_Links := He.mkr_ok (c.fact 99 (f := fa_ (.mkr "Links")) rfl)
  me_Links_is_legal := He.meth_ok (c.fact 100 (f := fa_ (.meth "Links" "is_legal")) rfl)
  me_Links_check := He.meth_ok (c.fact 101 (f := fa_ (.meth "Links" "check")) rfl)
  me_Links_apply_at := He.meth_ok (c.fact 102 (f := fa_ (.meth "Links" "apply_at")) rfl)
  me_Links_apply := He.meth_ok (c.fact 103 (f := fa_ (.meth "Links" "apply")) rfl)
  me_Links___eq__ := He.meth_ok (c.fact 104 (f := fa_ (.meth "Links" "__eq__")) rfl)
  me_Links_is_whole := He.meth_ok (c.fact 105 (f := fa_ (.meth "Links" "is_whole")) rfl)
  me_Links_outs := He.meth_ok (c.fact 106 (f := fa_ (.meth "Links" "outs")) rfl)
  me_Links_dump := He.meth_ok (c.fact 107 (f := fa_ (.meth "Links" "dump")) rfl)
  me_Links_is_sound := He.meth_ok (c.fact 108 (f := fa_ (.meth "Links" "is_sound")) rfl)
  me_Links_left := He.meth_ok (c.fact 109 (f := fa_ (.meth "Links" "left")) rfl)
  me_Links_right := He.meth_ok (c.fact 110 (f := fa_ (.meth "Links" "right")) rfl)
  me_Links_is_out := He.meth_ok (c.fact 111 (f := fa_ (.meth "Links" "is_out")) rfl)
  me_Links_copy := He.meth_ok (c.fact 112 (f := fa_ (.meth "Links" "copy")) rfl)
  cl_FreeMode := He.cls_ok (c.fact 113 (f := fa_ (.cls "FreeMode")) rfl)
  ty_FreeMode := tyB_ok (c.fact 114 (f := tyB "FreeMode") rfl)
  me_FreeMode_refusal := He.meth_ok (c.fact 115 (f := fa_ (.meth "FreeMode" "refusal")) rfl)
  cl_SavingMode := He.cls_ok (c.fact 116 (f := fa_ (.cls "SavingMode")) rfl)
  ty_SavingMode := tyB_ok (c.fact 117 (f := tyB "SavingMode") rfl)
  me_SavingMode_refusal := He.meth_ok (c.fact 118 (f := fa_ (.meth "SavingMode" "refusal")) rfl)
  cl_GuardedMode := He.cls_ok (c.fact 119 (f := fa_ (.cls "GuardedMode")) rfl)
  ty_GuardedMode := tyB_ok (c.fact 120 (f := tyB "GuardedMode") rfl)
  me_GuardedMode_refusal := He.meth_ok (c.fact 121 (f := fa_ (.meth "GuardedMode" "refusal")) rfl)
  cl_CheckedMode := He.cls_ok (c.fact 122 (f := fa_ (.cls "CheckedMode")) rfl)
  ty_CheckedMode := tyB_ok (c.fact 123 (f := tyB "CheckedMode") rfl)
  me_CheckedMode_refusal := He.meth_ok (c.fact 124 (f := fa_ (.meth "CheckedMode" "refusal")) rfl)
  ex_BadDump := askB_ok (c.fact 125 (f := askB "BadDump") rfl)
  ex_BadGap := askB_ok (c.fact 126 (f := askB "BadGap") rfl)
  ex_BadMode := askB_ok (c.fact 127 (f := askB "BadMode") rfl)
  ex_BadNode := askB_ok (c.fact 128 (f := askB "BadNode") rfl)
  ex_BadOperation := askB_ok (c.fact 129 (f := askB "BadOperation") rfl)
  ex_BadSize := askB_ok (c.fact 130 (f := askB "BadSize") rfl)
  ex_Illegal := askB_ok (c.fact 131 (f := askB "Illegal") rfl)
  ex_LinkError := askB_ok (c.fact 132 (f := askB "LinkError") rfl)
  ex_LogError := askB_ok (c.fact 133 (f := askB "LogError") rfl)
  oe_BadGap := excB_ok (c.fact 134 (f := excB "BadGap" ["gap"]) rfl)
  in_BadGap := iniB_ok (c.fact 135 (f := iniB "BadGap") rfl)
  kit_BadGap_BadDump := of_decide_eq_true (c.fact 136 (f := kitB2 "BadGap" "BadDump" false) rfl)
  kit_BadGap_BadGap := of_decide_eq_true (c.fact 137 (f := kitB2 "BadGap" "BadGap" true) rfl)
  kit_BadGap_BadMode := of_decide_eq_true (c.fact 138 (f := kitB2 "BadGap" "BadMode" false) rfl)
  kit_BadGap_BadNode := of_decide_eq_true (c.fact 139 (f := kitB2 "BadGap" "BadNode" false) rfl)
  kit_BadGap_BadOperation := of_decide_eq_true (c.fact 140 (f := kitB2 "BadGap" "BadOperation" false) rfl)
  kit_BadGap_BadSize := of_decide_eq_true (c.fact 141 (f := kitB2 "BadGap" "BadSize" false) rfl)
  kit_BadGap_Illegal := of_decide_eq_true (c.fact 142 (f := kitB2 "BadGap" "Illegal" false) rfl)
  kit_BadGap_LinkError := of_decide_eq_true (c.fact 143 (f := kitB2 "BadGap" "LinkError" true) rfl)
  kit_BadGap_LogError := of_decide_eq_true (c.fact 144 (f := kitB2 "BadGap" "LogError" false) rfl)
  kit_BadGap_ValueError := of_decide_eq_true (c.fact 145 (f := kitT2 "BadGap" "ValueError" true) rfl)
  oe_BadMode := excB_ok (c.fact 146 (f := excB "BadMode" ["name"]) rfl)
  in_BadMode := iniB_ok (c.fact 147 (f := iniB "BadMode") rfl)
  kit_BadMode_BadDump := of_decide_eq_true (c.fact 148 (f := kitB2 "BadMode" "BadDump" false) rfl)
  kit_BadMode_BadGap := of_decide_eq_true (c.fact 149 (f := kitB2 "BadMode" "BadGap" false) rfl)
  kit_BadMode_BadMode := of_decide_eq_true (c.fact 150 (f := kitB2 "BadMode" "BadMode" true) rfl)
  kit_BadMode_BadNode := of_decide_eq_true (c.fact 151 (f := kitB2 "BadMode" "BadNode" false) rfl)
  kit_BadMode_BadOperation := of_decide_eq_true (c.fact 152 (f := kitB2 "BadMode" "BadOperation" false) rfl)
  kit_BadMode_BadSize := of_decide_eq_true (c.fact 153 (f := kitB2 "BadMode" "BadSize" false) rfl)
  kit_BadMode_Illegal := of_decide_eq_true (c.fact 154 (f := kitB2 "BadMode" "Illegal" false) rfl)
  kit_BadMode_LinkError := of_decide_eq_true (c.fact 155 (f := kitB2 "BadMode" "LinkError" true) rfl)
  kit_BadMode_LogError := of_decide_eq_true (c.fact 156 (f := kitB2 "BadMode" "LogError" false) rfl)
  kit_BadMode_ValueError := of_decide_eq_true (c.fact 157 (f := kitT2 "BadMode" "ValueError" true) rfl)
  oe_BadNode := excB_ok (c.fact 158 (f := excB "BadNode" ["node"]) rfl)
  in_BadNode := iniB_ok (c.fact 159 (f := iniB "BadNode") rfl)
  kit_BadNode_BadDump := of_decide_eq_true (c.fact 160 (f := kitB2 "BadNode" "BadDump" false) rfl)
  kit_BadNode_BadGap := of_decide_eq_true (c.fact 161 (f := kitB2 "BadNode" "BadGap" false) rfl)
  kit_BadNode_BadMode := of_decide_eq_true (c.fact 162 (f := kitB2 "BadNode" "BadMode" false) rfl)
  kit_BadNode_BadNode := of_decide_eq_true (c.fact 163 (f := kitB2 "BadNode" "BadNode" true) rfl)
  kit_BadNode_BadOperation := of_decide_eq_true (c.fact 164 (f := kitB2 "BadNode" "BadOperation" false) rfl)
  kit_BadNode_BadSize := of_decide_eq_true (c.fact 165 (f := kitB2 "BadNode" "BadSize" false) rfl)
  kit_BadNode_Illegal := of_decide_eq_true (c.fact 166 (f := kitB2 "BadNode" "Illegal" false) rfl)
  kit_BadNode_LinkError := of_decide_eq_true (c.fact 167 (f := kitB2 "BadNode" "LinkError" true) rfl)
  kit_BadNode_LogError := of_decide_eq_true (c.fact 168 (f := kitB2 "BadNode" "LogError" false) rfl)
  kit_BadNode_ValueError := of_decide_eq_true (c.fact 169 (f := kitT2 "BadNode" "ValueError" true) rfl)
  oe_BadOperation := excB_ok (c.fact 170 (f := excB "BadOperation" ["operation", "index"]) rfl)
  in_BadOperation := iniB_ok (c.fact 171 (f := iniB "BadOperation") rfl)
  sm_BadOperation := of_decide_eq_true (c.fact 172 (f := (fun K => decide (He.ma K (He.ga K "BadOperation") "__init__" = He.ma K (He.ga K "LogError") "__init__"))) rfl)
  kit_BadOperation_BadDump := of_decide_eq_true (c.fact 173 (f := kitB2 "BadOperation" "BadDump" false) rfl)
  kit_BadOperation_BadGap := of_decide_eq_true (c.fact 174 (f := kitB2 "BadOperation" "BadGap" false) rfl)
  kit_BadOperation_BadMode := of_decide_eq_true (c.fact 175 (f := kitB2 "BadOperation" "BadMode" false) rfl)
  kit_BadOperation_BadNode := of_decide_eq_true (c.fact 176 (f := kitB2 "BadOperation" "BadNode" false) rfl)
  kit_BadOperation_BadOperation := of_decide_eq_true (c.fact 177 (f := kitB2 "BadOperation" "BadOperation" true) rfl)
  kit_BadOperation_BadSize := of_decide_eq_true (c.fact 178 (f := kitB2 "BadOperation" "BadSize" false) rfl)
  kit_BadOperation_Illegal := of_decide_eq_true (c.fact 179 (f := kitB2 "BadOperation" "Illegal" false) rfl)
  kit_BadOperation_LinkError := of_decide_eq_true (c.fact 180 (f := kitB2 "BadOperation" "LinkError" true) rfl)
  kit_BadOperation_LogError := of_decide_eq_true (c.fact 181 (f := kitB2 "BadOperation" "LogError" true) rfl)
  kit_BadOperation_ValueError := of_decide_eq_true (c.fact 182 (f := kitT2 "BadOperation" "ValueError" true) rfl)
  oe_BadSize := excB_ok (c.fact 183 (f := excB "BadSize" ["size"]) rfl)
  in_BadSize := iniB_ok (c.fact 184 (f := iniB "BadSize") rfl)
  kit_BadSize_BadDump := of_decide_eq_true (c.fact 185 (f := kitB2 "BadSize" "BadDump" false) rfl)
  kit_BadSize_BadGap := of_decide_eq_true (c.fact 186 (f := kitB2 "BadSize" "BadGap" false) rfl)
  kit_BadSize_BadMode := of_decide_eq_true (c.fact 187 (f := kitB2 "BadSize" "BadMode" false) rfl)
  kit_BadSize_BadNode := of_decide_eq_true (c.fact 188 (f := kitB2 "BadSize" "BadNode" false) rfl)
  kit_BadSize_BadOperation := of_decide_eq_true (c.fact 189 (f := kitB2 "BadSize" "BadOperation" false) rfl)
  kit_BadSize_BadSize := of_decide_eq_true (c.fact 190 (f := kitB2 "BadSize" "BadSize" true) rfl)
  kit_BadSize_Illegal := of_decide_eq_true (c.fact 191 (f := kitB2 "BadSize" "Illegal" false) rfl)
  kit_BadSize_LinkError := of_decide_eq_true (c.fact 192 (f := kitB2 "BadSize" "LinkError" true) rfl)
  kit_BadSize_LogError := of_decide_eq_true (c.fact 193 (f := kitB2 "BadSize" "LogError" false) rfl)
  kit_BadSize_ValueError := of_decide_eq_true (c.fact 194 (f := kitT2 "BadSize" "ValueError" true) rfl)
  oe_Illegal := excB_ok (c.fact 195 (f := excB "Illegal" ["operation", "index"]) rfl)
  in_Illegal := iniB_ok (c.fact 196 (f := iniB "Illegal") rfl)
  sm_Illegal := of_decide_eq_true (c.fact 197 (f := (fun K => decide (He.ma K (He.ga K "Illegal") "__init__" = He.ma K (He.ga K "LogError") "__init__"))) rfl)
  kit_Illegal_BadDump := of_decide_eq_true (c.fact 198 (f := kitB2 "Illegal" "BadDump" false) rfl)
  kit_Illegal_BadGap := of_decide_eq_true (c.fact 199 (f := kitB2 "Illegal" "BadGap" false) rfl)
  kit_Illegal_BadMode := of_decide_eq_true (c.fact 200 (f := kitB2 "Illegal" "BadMode" false) rfl)
  kit_Illegal_BadNode := of_decide_eq_true (c.fact 201 (f := kitB2 "Illegal" "BadNode" false) rfl)
  kit_Illegal_BadOperation := of_decide_eq_true (c.fact 202 (f := kitB2 "Illegal" "BadOperation" false) rfl)
  kit_Illegal_BadSize := of_decide_eq_true (c.fact 203 (f := kitB2 "Illegal" "BadSize" false) rfl)
  kit_Illegal_Illegal := of_decide_eq_true (c.fact 204 (f := kitB2 "Illegal" "Illegal" true) rfl)
  kit_Illegal_LinkError := of_decide_eq_true (c.fact 205 (f := kitB2 "Illegal" "LinkError" true) rfl)
  kit_Illegal_LogError := of_decide_eq_true (c.fact 206 (f := kitB2 "Illegal" "LogError" true) rfl)
  kit_Illegal_ValueError := of_decide_eq_true (c.fact 207 (f := kitT2 "Illegal" "ValueError" true) rfl)
end G
set_option Elab.async false
set_option linter.all false
set_option maxRecDepth 100000
set_option maxHeartbeats 4000000
/-! k21: certificates of loss. -/
namespace G
open PySem PySem.Spec PyProof.Rows L2
theorem jl : ¬ (("joined" : Str) = "lost") := by decide +kernel
theorem ll : ¬ (("left" : Str) = "lost") := by decide +kernel
theorem rl_ : ¬ (("right" : Str) = "lost") := by decide +kernel
theorem jl2 : ¬ (("left" : Str) = "joined") := by decide +kernel
theorem jr2 : ¬ (("right" : Str) = "joined") := by decide +kernel
theorem jx2 : ¬ (("lost" : Str) = "joined") := by decide +kernel
theorem stT_joined {s : Sd} {g : Nat} : stT s g = "joined" ↔ gI s.R g = (g : Int) + 1 ∧ gI s.L (g + 1) = (g : Int) := by
  unfold stT
  split <;> split <;> rename_i a b
  · exact ⟨fun _ => ⟨a, b⟩, fun _ => rfl⟩
  · exact ⟨fun z => absurd z jl2, fun z => absurd z.2 b⟩
  · exact ⟨fun z => absurd z jr2, fun z => absurd z.1 a⟩
  · exact ⟨fun z => absurd z jx2, fun z => absurd z.1 a⟩
theorem stT_lost2 {s : Sd} {g : Nat} : stT s g = "lost" ↔ ¬ gI s.R g = (g : Int) + 1 ∧ ¬ gI s.L (g + 1) = (g : Int) := by
  unfold stT
  split <;> split <;> rename_i a b
  · exact ⟨fun z => absurd z jl, fun z => absurd a z.1⟩
  · exact ⟨fun z => absurd z ll, fun z => absurd a z.1⟩
  · exact ⟨fun z => absurd z rl_, fun z => absurd b z.2⟩
  · exact ⟨fun _ => ⟨a, b⟩, fun _ => rfl⟩
/-! ### triples -/
abbrev Ct := Int × Int × Int
def ctV (t : Ct) : List V := [.int t.1, .int t.2.1, .int t.2.2]
def CPs (H : Hp) (xs : List V) (es : List Ct) : Prop := xs.length = es.length ∧ ∀ (i : Nat) (e : Ct), es[i]? = some e → ∃ a, xs[i]? = some (.ref a) ∧ H a = some (.tup (ctV e))
theorem CPs.kp {S : List Addr} {H H' : Hp} {xs : List V} {es : List Ct} (h : CPs H xs es) (k : Kp S H H') (hS : ∀ b ∈ S, ∀ ys, H b ≠ some (.tup ys)) : CPs H' xs es := by
  refine ⟨h.1, fun i t e => ?_⟩
  obtain ⟨a, h1, h2⟩ := h.2 i t e
  exact ⟨a, h1, k _ _ (fun z => hS a z _ h2) h2⟩
theorem CPs.k0 {H H' : Hp} {xs : List V} {es : List Ct} (h : CPs H xs es) (k : Kp [] H H') : CPs H' xs es := h.kp k (by simp)
theorem CPs.one {H : Hp} {a : Addr} {t : Ct} (ha : H a = some (.tup (ctV t))) : CPs H [.ref a] [t] := by
  refine ⟨rfl, fun i u e => ?_⟩
  match i, e with
  | 0, e =>
    have eu : t = u := by simpa using e
    subst eu
    exact ⟨a, rfl, ha⟩
  | i + 1, e => simp at e
theorem CPs.nil {H : Hp} : CPs H [] [] := ⟨rfl, fun i t e => by simp at e⟩
theorem CPs.tail {H : Hp} {x : V} {xs : List V} {e : Ct} {es : List Ct} (h : CPs H (x :: xs) (e :: es)) : CPs H xs es := by
  have := h.1
  refine ⟨by simpa using this, fun i u z => ?_⟩
  obtain ⟨a, h1, h2⟩ := h.2 (i + 1) u (by simpa using z)
  exact ⟨a, by simpa using h1, h2⟩
/-! ### the law's things -/
structure Bk5 (H : Hp) (w l r o : Addr) (s : Sd) : Prop where
  ob : H w = some (.lst [.int s.n, .ref l, .ref r, .ref o])
  hl : ∃ L' : List Int, H l = some (.lst (L'.map V.int)) ∧ L'.length = s.n + 2 ∧ ∀ v, 1 ≤ v → v ≤ s.n + 1 → gI L' v = gI s.L v
  hr : ∃ R' : List Int, H r = some (.lst (R'.map V.int)) ∧ R'.length = s.n + 2 ∧ ∀ v, v ≤ s.n → gI R' v = gI s.R v
  ho : H o = some (.lst (s.O.map V.bl))
  ne : l ≠ r ∧ l ≠ o ∧ r ≠ o ∧ w ≠ l ∧ w ≠ r ∧ w ≠ o
  wf : Wf s
theorem Bk5.kp {H H' : Hp} {w l r o : Addr} {s : Sd} {S : List Addr} (a : Bk5 H w l r o s) (k : Kp S H H') (h1 : w ∉ S) (h2 : l ∉ S) (h3 : r ∉ S) (h4 : o ∉ S) : Bk5 H' w l r o s := by
  obtain ⟨L', e1, e2⟩ := a.hl
  obtain ⟨R', f1, f2⟩ := a.hr
  exact ⟨k _ _ h1 a.ob, ⟨L', k _ _ h2 e1, e2⟩, ⟨R', k _ _ h3 f1, f2⟩, k _ _ h4 a.ho, a.ne, a.wf⟩
theorem Bk5.k0 {H H' : Hp} {w l r o : Addr} {s : Sd} (a : Bk5 H w l r o s) (k : Kp [] H H') : Bk5 H' w l r o s := a.kp k (by simp) (by simp) (by simp) (by simp)
theorem Bk5.fr {H : Hp} {w l r o x : Addr} {s : Sd} (a : Bk5 H w l r o s) (n : H x = none) : w ≠ x ∧ l ≠ x ∧ r ≠ x ∧ o ≠ x := by
  obtain ⟨L', e1, e2⟩ := a.hl
  obtain ⟨R', f1, f2⟩ := a.hr
  exact ⟨ne_of_none a.ob n, ne_of_none e1 n, ne_of_none f1 n, ne_of_none a.ho n⟩
theorem legO_ok' {s : Sd} {v : Nat} (h1 : 1 ≤ v) (h2 : v ≤ s.n) : OkOp s (legO s v) ∧ (legO s v).natAbs = v := by
  unfold legO
  by_cases c : gB s.O v = true
  · rw [if_pos c]
    refine ⟨⟨⟨by omega, by omega⟩, ?_⟩, by omega⟩
    rw [Int.natAbs_natCast, c]
    symm
    exact decide_eq_true (by omega)
  · rw [if_neg c]
    refine ⟨⟨⟨by omega, by omega⟩, ?_⟩, by omega⟩
    rw [Int.natAbs_neg, Int.natAbs_natCast, Bool.not_eq_true] at *
    rw [c]
    symm
    exact decide_eq_false (by omega)
structure Bag5 (H : Hp) (b c : Addr) : Prop where
  ob : ∃ p q m t : Int, H b = some (.lst [.ref c, .int p, .int q, .int m, .int t]) ∧ 0 ≤ p
  hc : ∃ ns : List Int, H c = some (.lst (ns.map V.int)) ∧ ns.length ≤ 63
theorem Bag5.ne {H : Hp} {b c : Addr} (h : Bag5 H b c) : b ≠ c := by
  obtain ⟨p, q, m, t, h1, _⟩ := h.ob
  obtain ⟨ns, h2, _⟩ := h.hc
  rintro rfl
  rw [h1] at h2
  injection h2 with h2
  injection h2 with h2
  cases ns with
  | nil => cases h2
  | cons x ns =>
    injection h2 with h2
    cases h2
theorem Bag5.kp {H H' : Hp} {b c : Addr} {S : List Addr} (a : Bag5 H b c) (k : Kp S H H') (h1 : b ∉ S) (h2 : c ∉ S) : Bag5 H' b c := by
  obtain ⟨p, q, m, t, e1, p0⟩ := a.ob
  obtain ⟨ns, e2, e3⟩ := a.hc
  exact ⟨⟨p, q, m, t, k _ _ h1 e1, p0⟩, ⟨ns, k _ _ h2 e2, e3⟩⟩
theorem Bag5.k0 {H H' : Hp} {b c : Addr} (a : Bag5 H b c) (k : Kp [] H H') : Bag5 H' b c := a.kp k (by simp) (by simp)
theorem Bag5.fr {H : Hp} {b c x : Addr} (a : Bag5 H b c) (n : H x = none) : x ≠ b ∧ x ≠ c := by
  obtain ⟨_, _, _, _, e1, _⟩ := a.ob
  obtain ⟨_, e2, _⟩ := a.hc
  exact ⟨(ne_of_none e1 n).symm, (ne_of_none e2 n).symm⟩
structure ValS (b : Addr) (H : Hp) (v : V) : Prop where
  ex : ∃ d, Vl b H v d ∧ SeqAt.shaped d = true
theorem ValS.k1 {b : Addr} {H H' : Hp} {v : V} (h : ValS b H v) (k : Kp [b] H H') : ValS b H' v := by
  obtain ⟨d, h1, h2⟩ := h.ex
  exact ⟨d, Vl.kp k d v h1, h2⟩
theorem ValS.k0 {b : Addr} {H H' : Hp} {v : V} (h : ValS b H v) (k : Kp [] H H') : ValS b H' v := h.k1 k.all
/-! ### promises -/
section
def sp__law_operation (K : PySem.W.Frag) : Sp := fun vs H Q E => ∃ (w l r o : Addr) (s : Sd) (v : Nat), vs = [.ref w, .int (v : Int)] ∧ Bk5 H w l r o s ∧ v ≤ s.n + 1 ∧ Q (.int (legO s v)) H
end
end G
set_option Elab.async false
set_option linter.all false
set_option maxRecDepth 100000
set_option maxHeartbeats 4000000
/-! k06: sole holders; promises. -/
namespace G
open PySem PySem.Spec PyProof.Rows L2
/-- v holds a gap alone -/
def soleB (s : Sd) (v : Nat) : Bool := decide (stT s v = "left") || decide (stT s (v - 1) = "right")
def aloneL (s : Sd) : List Int := (((List.range s.n).map fun (v : Nat) => v + 1).filter fun v => soleB s v).map fun (v : Nat) => (v : Int)
theorem stT_left {s : Sd} {g : Nat} : stT s g = "left" ↔ gI s.R g = (g : Int) + 1 ∧ gI s.L (g + 1) ≠ (g : Int) := by
  obtain ⟨a, b, c, d, e, f, h, i, j, k, l, m⟩ := ne_w
  unfold stT
  by_cases h1 : gI s.R g = (g : Int) + 1 <;> by_cases h2 : gI s.L (g + 1) = (g : Int)
  · rw [if_pos h1, if_pos h2]
    exact ⟨fun z => absurd z k, fun z => absurd h2 z.2⟩
  · rw [if_pos h1, if_neg h2]
    exact ⟨fun _ => ⟨h1, h2⟩, fun _ => rfl⟩
  · rw [if_neg h1, if_pos h2]
    exact ⟨fun z => absurd z h, fun z => absurd z.1 h1⟩
  · rw [if_neg h1, if_neg h2]
    exact ⟨fun z => absurd z i, fun z => absurd z.1 h1⟩
theorem stT_right {s : Sd} {g : Nat} : stT s g = "right" ↔ gI s.R g ≠ (g : Int) + 1 ∧ gI s.L (g + 1) = (g : Int) := by
  obtain ⟨a, b, c, d, e, f, h, i, j, k, l, m⟩ := ne_w
  unfold stT
  by_cases h1 : gI s.R g = (g : Int) + 1 <;> by_cases h2 : gI s.L (g + 1) = (g : Int)
  · rw [if_pos h1, if_pos h2]
    exact ⟨fun z => absurd z l, fun z => absurd h1 z.1⟩
  · rw [if_pos h1, if_neg h2]
    exact ⟨fun z => absurd z m, fun z => absurd h1 z.1⟩
  · rw [if_neg h1, if_pos h2]
    exact ⟨fun _ => ⟨h1, h2⟩, fun _ => rfl⟩
  · rw [if_neg h1, if_neg h2]
    exact ⟨fun z => absurd z j, fun z => absurd z.2 h2⟩
theorem not_left0 {s : Sd} (w : Wf s) : stT s 0 ≠ "left" := fun z => by
  have h1 := (stT_left.mp z).2
  have h2 := w.lb 1 (by omega) (by omega)
  have e : gI s.L (0 + 1) = gI s.L 1 := rfl
  rw [e] at h1
  omega
theorem not_rightn {s : Sd} (w : Wf s) : stT s s.n ≠ "right" := fun z => by
  have h := (stT_right.mp z).1
  have := w.rb s.n (by omega)
  omega
theorem mem_alone {s : Sd} {i : Int} : i ∈ aloneL s ↔ 1 ≤ i ∧ i ≤ s.n ∧ soleB s i.toNat = true := by
  unfold aloneL
  constructor
  · intro h
    obtain ⟨v, hv, rfl⟩ := List.mem_map.mp h
    obtain ⟨h1, h2⟩ := List.mem_filter.mp hv
    obtain ⟨u, hu, rfl⟩ := List.mem_map.mp h1
    have := List.mem_range.mp hu
    rw [Int.toNat_natCast]
    exact ⟨by omega, by omega, h2⟩
  · rintro ⟨h1, h2, h3⟩
    exact List.mem_map.mpr ⟨i.toNat, List.mem_filter.mpr ⟨List.mem_map.mpr ⟨i.toNat - 1, List.mem_range.mpr (by omega), by omega⟩, h3⟩, by omega⟩
theorem alone_sorted (s : Sd) : (aloneL s).Pairwise (· < ·) := by
  unfold aloneL
  refine List.Pairwise.map (R := fun a b : Nat => a < b) _ (fun a b h => ?_) (List.Pairwise.filter (R := fun a b : Nat => a < b) _ (List.Pairwise.map (R := fun a b : Nat => a < b) (S := fun a b : Nat => a < b) _ (fun a b h => ?_) (List.pairwise_lt_range (n := s.n))))
  · exact Int.ofNat_lt.mpr h
  · exact Nat.succ_lt_succ h
theorem alone_len (s : Sd) : (aloneL s).length ≤ s.n := by
  unfold aloneL
  rw [List.length_map]
  refine Nat.le_trans (List.length_filter_le _ _) ?_
  rw [List.length_map, List.length_range]
  exact Nat.le_refl _
theorem sorted_ext : ∀ {a b : List Int}, a.Pairwise (· < ·) → b.Pairwise (· < ·) → (∀ x, x ∈ a ↔ x ∈ b) → a = b
  | [], [], _, _, _ => rfl
  | [], y :: b, _, _, h => by
    have := (h y).mpr List.mem_cons_self
    cases this
  | x :: a, [], _, _, h => by
    have := (h x).mp List.mem_cons_self
    cases this
  | x :: a, y :: b, ha, hb, h => by
    obtain ⟨a1, a2⟩ := List.pairwise_cons.mp ha
    obtain ⟨b1, b2⟩ := List.pairwise_cons.mp hb
    have exy : x = y := by
      rcases List.mem_cons.mp ((h x).mp List.mem_cons_self) with e | e
      · exact e
      · rcases List.mem_cons.mp ((h y).mpr List.mem_cons_self) with f | f
        · exact f.symm
        · have := a1 y f
          have := b1 x e
          omega
    subst exy
    congr 1
    refine sorted_ext a2 b2 fun z => ⟨fun hz => ?_, fun hz => ?_⟩
    · rcases List.mem_cons.mp ((h z).mp (List.mem_cons_of_mem _ hz)) with e | e
      · have := a1 z hz
        omega
      · exact e
    · rcases List.mem_cons.mp ((h z).mpr (List.mem_cons_of_mem _ hz)) with e | e
      · have := b1 z hz
        omega
      · exact e
/-- the holders found behind i gaps -/
def holdB (s : Sd) (i : Nat) (k : Int) : Bool := (List.range i).any fun g => (decide (stT s g = "left") && decide (k = (g : Int))) || (decide (stT s g = "right") && decide (k = (g : Int) + 1))
theorem holdB_all {s : Sd} (w : Wf s) {k : Int} : holdB s (s.n + 1) k = true ↔ k ∈ aloneL s := by
  rw [mem_alone]
  unfold holdB soleB
  rw [List.any_eq_true]
  constructor
  · rintro ⟨g, hg, h⟩
    have hg := List.mem_range.mp hg
    rw [Bool.or_eq_true, Bool.and_eq_true, Bool.and_eq_true, decide_eq_true_iff, decide_eq_true_iff, decide_eq_true_iff, decide_eq_true_iff] at h
    rcases h with ⟨h1, rfl⟩ | ⟨h1, rfl⟩
    · have g0 : g ≠ 0 := fun z => by
        subst z
        exact not_left0 w h1
      have gn : g ≠ s.n ∨ g = s.n := by omega
      refine ⟨by omega, ?_, ?_⟩
      · omega
      · rw [Int.toNat_natCast, decide_eq_true h1, Bool.true_or]
    · have gn : g ≠ s.n := fun z => by
        subst z
        exact not_rightn w h1
      refine ⟨by omega, by omega, ?_⟩
      rw [show ((g : Int) + 1).toNat = g + 1 by omega, Nat.add_sub_cancel, decide_eq_true h1, Bool.or_true]
  · rintro ⟨h1, h2, h3⟩
    obtain ⟨v, rfl⟩ : ∃ v : Nat, k = (v : Int) := ⟨k.toNat, by omega⟩
    rw [Int.toNat_natCast, Bool.or_eq_true, decide_eq_true_iff, decide_eq_true_iff] at h3
    rcases h3 with h3 | h3
    · exact ⟨v, List.mem_range.mpr (by omega), by rw [decide_eq_true h3, decide_eq_true rfl] <;> rfl⟩
    · refine ⟨v - 1, List.mem_range.mpr (by omega), ?_⟩
      rw [Bool.or_eq_true]
      refine .inr ?_
      rw [decide_eq_true h3, decide_eq_true (by omega)] <;> rfl
theorem holdB_snoc (s : Sd) (i : Nat) (k : Int) : holdB s (i + 1) k = (holdB s i k || ((decide (stT s i = "left") && decide (k = (i : Int))) || (decide (stT s i = "right") && decide (k = (i : Int) + 1)))) := by
  unfold holdB
  rw [List.range_succ, List.any_append]
  simp
/-- the four words of a state, one by one -/
theorem st_cases (s : Sd) (g : Nat) : (gI s.R g = (g : Int) + 1 ∧ gI s.L (g + 1) = (g : Int) ∧ stT s g = "joined") ∨ (gI s.R g = (g : Int) + 1 ∧ ¬ gI s.L (g + 1) = (g : Int) ∧ stT s g = "left") ∨
    (¬ gI s.R g = (g : Int) + 1 ∧ gI s.L (g + 1) = (g : Int) ∧ stT s g = "right") ∨ (¬ gI s.R g = (g : Int) + 1 ∧ ¬ gI s.L (g + 1) = (g : Int) ∧ stT s g = "lost") := by
  unfold stT
  by_cases h1 : gI s.R g = (g : Int) + 1 <;> by_cases h2 : gI s.L (g + 1) = (g : Int)
  · exact .inl ⟨h1, h2, by rw [if_pos h1, if_pos h2]⟩
  · exact .inr (.inl ⟨h1, h2, by rw [if_pos h1, if_neg h2]⟩)
  · exact .inr (.inr (.inl ⟨h1, h2, by rw [if_neg h1, if_pos h2]⟩))
  · exact .inr (.inr (.inr ⟨h1, h2, by rw [if_neg h1, if_neg h2]⟩))
/-! ### promises -/
section
def sp_sole_holders (K : PySem.W.Frag) : Sp := fun vs H Q E => ∃ (p r l o : Addr) (s : Sd), vs = [.ref p] ∧ LinksAt K H p r l o s ∧ NewL H ((aloneL s).map V.int) Q
end
end G
set_option Elab.async false
set_option linter.all false
set_option maxRecDepth 100000
set_option maxHeartbeats 4000000
/-! k00: promises. -/
namespace G
open PySem PySem.Spec PyProof.Rows L2 TL
/-- the law's box of draws: cells, place, number, seed, count -/
structure BxI (H : Hp) (b c : Addr) : Prop where
  ob : ∃ p q m t : Int, H b = some (.lst [.ref c, .int p, .int q, .int m, .int t]) ∧ 0 ≤ p
  hc : ∃ ns : List Int, H c = some (.lst (ns.map V.int)) ∧ ns.length ≤ 63
theorem BxI.ne {H : Hp} {b c : Addr} (h : BxI H b c) : b ≠ c := by
  obtain ⟨p, q, m, t, h1, _⟩ := h.ob
  obtain ⟨ns, h2, _⟩ := h.hc
  rintro rfl
  rw [h1] at h2
  injection h2 with h2
  injection h2 with h2
  cases ns with
  | nil => cases h2
  | cons x ns =>
    injection h2 with h2
    cases h2
theorem BxI.kp {H H' : Hp} {b c : Addr} {S : List Addr} (a : BxI H b c) (k : Kp S H H') (h1 : b ∉ S) (h2 : c ∉ S) : BxI H' b c := by
  obtain ⟨p, q, m, t, e1, p0⟩ := a.ob
  obtain ⟨ns, e2, e3⟩ := a.hc
  exact ⟨⟨p, q, m, t, k _ _ h1 e1, p0⟩, ⟨ns, k _ _ h2 e2, e3⟩⟩
theorem BxI.k0 {H H' : Hp} {b c : Addr} (a : BxI H b c) (k : Kp [] H H') : BxI H' b c := a.kp k (by simp) (by simp)
theorem BxI.fr {H : Hp} {b c x : Addr} (a : BxI H b c) (n : H x = none) : x ≠ b ∧ x ≠ c := by
  obtain ⟨_, _, _, _, e1, _⟩ := a.ob
  obtain ⟨_, e2, _⟩ := a.hc
  exact ⟨(ne_of_none e1 n).symm, (ne_of_none e2 n).symm⟩
/-- what a reading of the text is due to tell -/
def DueA (H : Hp) (t : Str) (xs : List V) : Prop := (∃ k : Nat, badW (wordsT t) = some k ∧ xs = [.bl false, .int (k : Int)]) ∨ (badW (wordsT t) = none ∧ ∃ l, xs = [.bl true, .ref l] ∧ H l = some (.lst (((wordsT t).map valW).map V.int)))
theorem DueA.k0 {H H' : Hp} {t : Str} {xs : List V} (h : DueA H t xs) (k : Kp [] H H') : DueA H' t xs := by
  rcases h with h | ⟨h, l, e, hl⟩
  · exact .inl h
  · exact .inr ⟨h, l, e, k.at0 hl⟩
end G
set_option Elab.async false
set_option linter.all false
set_option maxRecDepth 100000
set_option maxHeartbeats 4000000
/-! k03: dumps of any form. -/
namespace G
open PySem PySem.Spec PyProof.Rows L2 TL NumText
/-! ### canonical digits -/
def numZ (w : Str) : Int := if tl w = [48] then 0 else if posL (tl w) = true then ((digitsVal (tl w) : Nat) : Int) else -1
/-! ### what is split is joined again -/
/-! ### the parts of a dump -/
def nz (t : Str) : List Int := (Txt.split t spS).map numZ
theorem nz_len (t : Str) : (nz t).length = (Txt.split t spS).length := List.length_map ..
theorem nz_ne (t : Str) : nz t ≠ [] := fun z => (split_sum t).2.2 (by
  have := nz_len t
  rw [z] at this
  exact List.length_eq_zero_iff.mp this.symm)
def okR (R : List Int) : Prop := R.length ≤ 61 ∧ ∀ v, v < R.length → (v : Int) < gI R v ∧ gI R v ≤ R.length
def okL (L : List Int) (n : Nat) : Prop := L.length = n + 1 ∧ ∀ v, v ≤ n → 0 ≤ gI L v ∧ gI L v ≤ v
def okO (O : List Int) (n : Nat) : Prop := ∀ i, i < O.length → gI (0 :: O) i < gI O i ∧ gI O i ≤ n
def prt (t : Str) (i : Nat) : Str := (Txt.split t barS ++ (["", ""] : List Str)).getD i ""
def szT (t : Str) : Nat := (nz (prt t 0)).length - 1
def osT (t : Str) : List Int := if prt t 2 = noneS then [] else nz (prt t 2)
def bitsO (n : Nat) (O : List Int) : List Bool := (List.range (n + 2)).map fun (v : Nat) => decide ((v : Int) ∈ O)
def sdT (t : Str) : Sd := ⟨szT t, nz (prt t 0), 0 :: nz (prt t 1), bitsO (szT t) (osT t)⟩
theorem bits_len (n : Nat) (O : List Int) : (bitsO n O).length = n + 2 := by
  unfold bitsO
  rw [List.length_map, List.length_range]
/-- a right text -/
structure RightT (t : Str) : Prop where
  r : okR (nz (prt t 0))
  l : okL (nz (prt t 1)) (szT t)
  o : okO (osT t) (szT t)
theorem RightT.wf {t : Str} (h : RightT t) : Wf (sdT t) := by
  have hn := List.length_pos_iff.mpr (nz_ne (prt t 0))
  have e : (nz (prt t 0)).length = szT t + 1 := by
    unfold szT
    omega
  refine ⟨?_, e, by show (nz (prt t 1)).length + 1 = _; rw [h.l.1] <;> rfl, bits_len _ _, fun v hv => ?_, fun v h1 h2 => ?_⟩
  · have := h.r.1
    show szT t ≤ 60
    omega
  · have := h.r.2 v (by rw [e]; exact Nat.lt_succ_of_le hv)
    rw [e] at this
    exact this
  · obtain ⟨u, rfl⟩ : ∃ u, v = u + 1 := ⟨v - 1, by omega⟩
    have := h.l.2 u (by show u ≤ szT t; have : u + 1 ≤ szT t + 1 := h2; omega)
    show 0 ≤ gI (nz (prt t 1)) u ∧ gI (nz (prt t 1)) u < _
    omega
end G
set_option Elab.async false
set_option linter.all false
set_option maxRecDepth 100000
set_option maxHeartbeats 4000000
/-! k03: promises. -/
namespace G
open PySem PySem.Spec PyProof.Rows L2 TL
/-- the law's lists of links -/
structure WdZ (H : Hp) (r l o : Addr) (n : Nat) (R L : List Int) (O : List Bool) : Prop where
  hr : H r = some (.lst (R.map V.int))
  hl : H l = some (.lst (L.map V.int))
  ho : H o = some (.lst (O.map V.bl))
  ne : r ≠ l ∧ r ≠ o ∧ l ≠ o
  lR : R.length = n + 1
  lL : L.length = n + 2
  lO : O.length = n + 2
  rb : ∀ v : Nat, v ≤ n → (v : Int) < gI R v ∧ gI R v ≤ (n : Int) + 1
  lb : ∀ v : Nat, 1 ≤ v → v ≤ n + 1 → 0 ≤ gI L v ∧ gI L v < (v : Int)
  o0 : gB O 0 = false
  o1 : gB O (n + 1) = false
theorem WdZ.kp {H H' : Hp} {r l o : Addr} {n : Nat} {R L : List Int} {O : List Bool} {S : List Addr} (a : WdZ H r l o n R L O) (k : Kp S H H') (h1 : r ∉ S) (h2 : l ∉ S) (h3 : o ∉ S) : WdZ H' r l o n R L O :=
  ⟨k _ _ h1 a.hr, k _ _ h2 a.hl, k _ _ h3 a.ho, a.ne, a.lR, a.lL, a.lO, a.rb, a.lb, a.o0, a.o1⟩
theorem WdZ.k0 {H H' : Hp} {r l o : Addr} {n : Nat} {R L : List Int} {O : List Bool} (a : WdZ H r l o n R L O) (k : Kp [] H H') : WdZ H' r l o n R L O := a.kp k (by simp) (by simp) (by simp)
section
def sp03_Links_is_out (K : PySem.W.Frag) : Sp := fun vs H Q E => ∃ (p r l o : Addr) (s : Sd) (v : Nat), vs = [.ref p, .int (v : Int)] ∧ LinksAt K H p r l o s ∧ v ≤ s.n + 1 ∧ Q (.bl (gB s.O v)) H
end
end G
set_option Elab.async false
set_option linter.all false
set_option maxRecDepth 100000
set_option maxHeartbeats 4000000
/-! k02: mathematics and promises. -/
namespace G
open PySem PySem.Spec PyProof.Rows L2 TL
/-! ### the standing of the law's lists -/
def wS (n : Nat) (R L : List Int) (O : List Bool) : Sd := ⟨n, R, 0 :: L.drop 1, O⟩
theorem gI_wL {L : List Int} {v : Nat} (h : 1 ≤ v) : gI (0 :: L.drop 1) v = gI L v := by
  obtain ⟨u, rfl⟩ : ∃ u, v = u + 1 := ⟨v - 1, by omega⟩
  show (L.drop 1).getD u 0 = L.getD (u + 1) 0
  rw [List.getD_eq_getElem?_getD, List.getD_eq_getElem?_getD, List.getElem?_drop, Nat.add_comm]
theorem WdZ.wf {H : Hp} {r l o : Addr} {n : Nat} {R L : List Int} {O : List Bool} (a : WdZ H r l o n R L O) (hn : n ≤ 60) : Wf (wS n R L O) := by
  refine ⟨hn, a.lR, ?_, a.lO, a.rb, fun v h1 h2 => ?_⟩
  · show (L.drop 1).length + 1 = n + 2
    rw [List.length_drop, a.lL]
    omega
  · show 0 ≤ gI (0 :: L.drop 1) v ∧ gI (0 :: L.drop 1) v < _
    rw [gI_wL h1]
    exact a.lb v h1 h2
/-! ### dumps are alike exactly if the standings are -/
theorem map_numI_inj : ∀ {a b : List Int}, (∀ i ∈ a, 0 ≤ i) → (∀ i ∈ b, 0 ≤ i) → a.map numI = b.map numI → a = b
  | [], [], _, _, _ => rfl
  | [], _ :: _, _, _, e => by simp at e
  | _ :: _, [], _, _, e => by simp at e
  | x :: a, y :: b, ha, hb, e => by
    rw [List.map_cons, List.map_cons, List.cons.injEq] at e
    rw [numI_inj (ha x (List.mem_cons_self ..)) (hb y (List.mem_cons_self ..)) e.1, map_numI_inj (fun i h => ha i (List.mem_cons_of_mem _ h)) (fun i h => hb i (List.mem_cons_of_mem _ h)) e.2]
theorem joinI_inj {a b : List Int} (na : a ≠ []) (nb : b ≠ []) (ha : ∀ i ∈ a, 0 ≤ i) (hb : ∀ i ∈ b, 0 ≤ i) (e : joinI a = joinI b) : a = b := by
  have e2 := congrArg (fun t => Txt.split t spS) e
  simp only [split_joinI na ha, split_joinI nb hb] at e2
  exact map_numI_inj ha hb e2
theorem outsT_inj {a b : List Int} (ha : ∀ i ∈ a, 0 ≤ i) (hb : ∀ i ∈ b, 0 ≤ i) (e : outsT a = outsT b) : a = b := by
  unfold outsT at e
  by_cases ca : a = [] <;> by_cases cb : b = []
  · rw [ca, cb]
  · rw [if_pos ca, if_neg cb] at e
    exact absurd e.symm (joinI_ne_none cb hb)
  · rw [if_neg ca, if_pos cb] at e
    exact absurd e (joinI_ne_none ca ha)
  · rw [if_neg ca, if_neg cb] at e
    exact joinI_inj ca cb ha hb e
theorem Wf.goods {s : Sd} (w : Wf s) : (s.R ≠ [] ∧ ∀ i ∈ s.R, 0 ≤ i) ∧ (s.L.drop 1 ≠ [] ∧ ∀ i ∈ s.L.drop 1, 0 ≤ i) ∧ ∀ i ∈ outN s.n s.O, 0 ≤ i := by
  refine ⟨⟨fun z => ?_, fun i hi => ?_⟩, ⟨fun z => ?_, fun i hi => ?_⟩, fun i hi => ?_⟩
  · have := w.lR
    rw [z] at this
    simp at this
  · obtain ⟨k, hk, rfl⟩ := List.mem_iff_getElem.mp hi
    have h1 := w.lR
    have := (w.rb k (by omega)).1
    rw [gI_of (List.getElem?_eq_getElem hk)] at this
    omega
  · have := congrArg List.length z
    rw [List.length_drop, w.lL] at this
    simp at this
  · obtain ⟨k, hk, rfl⟩ := List.mem_iff_getElem.mp hi
    have h1 := w.lL
    rw [List.length_drop] at hk
    have e : s.L[k + 1]? = some ((s.L.drop 1)[k]) := by
      rw [← List.getElem?_eq_getElem, List.getElem?_drop, Nat.add_comm]
    have := (w.lb (k + 1) (by omega) (by omega)).1
    rw [gI_of e] at this
    exact this
  · exact Int.le_trans (by decide) (outN_bd hi).1
theorem good_outs {l : List Int} (h : ∀ i ∈ l, 0 ≤ i) : GoodP (tl (outsT l)) := by
  unfold outsT
  by_cases c : l = []
  · rw [if_pos c]
    exact good_none
  · rw [if_neg c]
    exact good_joinI c h
theorem split_dumpS {s : Sd} (w : Wf s) : Txt.split (dumpS s) barS = [joinI s.R, joinI (s.L.drop 1), outsT (outN s.n s.O)] :=
  split_bar (good_joinI w.goods.1.1 w.goods.1.2) (good_joinI w.goods.2.1.1 w.goods.2.1.2) (good_outs w.goods.2.2)
theorem outN_inj {n : Nat} {O P : List Bool} (e : outN n O = outN n P) : ∀ v, 1 ≤ v → v ≤ n → gB O v = gB P v := by
  intro v h1 h2
  have key : ∀ (Z : List Bool), gB Z v = decide ((v : Int) ∈ outN n Z) := by
    intro Z
    cases c : gB Z v with
    | true =>
      refine (decide_eq_true ?_).symm
      unfold outN
      exact List.mem_map.mpr ⟨v, List.mem_filter.mpr ⟨List.mem_map.mpr ⟨v - 1, List.mem_range.mpr (by omega), by omega⟩, c⟩, rfl⟩
    | false =>
      refine (decide_eq_false fun z => ?_).symm
      have := (outN_bd z).2.2
      rw [Int.toNat_natCast, c] at this
      exact absurd this (by decide)
  rw [key O, key P, e]
theorem dump_inj {s t : Sd} (w : Wf s) (d : Snd s) (w' : Wf t) (d' : Snd t) (e : dumpS s = dumpS t) : s = t := by
  have e2 := congrArg (fun x => Txt.split x barS) e
  simp only [split_dumpS w, split_dumpS w', List.cons.injEq, and_true] at e2
  obtain ⟨a, b, c⟩ := e2
  have eR := joinI_inj w.goods.1.1 w'.goods.1.1 w.goods.1.2 w'.goods.1.2 a
  have eL := joinI_inj w.goods.2.1.1 w'.goods.2.1.1 w.goods.2.1.2 w'.goods.2.1.2 b
  have eO := outsT_inj w.goods.2.2 w'.goods.2.2 c
  have en : s.n = t.n := by
    have h1 := w.lR
    have h2 := w'.lR
    rw [eR] at h1
    omega
  obtain ⟨x, hx⟩ := d.l0
  obtain ⟨y, hy⟩ := d'.l0
  rw [hx, hy] at eL
  have eL2 : x = y := eL
  have eO2 : s.O = t.O := by
    refine List.ext_getElem? fun i => ?_
    have h1 := w.lO
    have h2 := w'.lO
    by_cases hi : i < s.n + 2
    · rw [gB_at (l := s.O) (by omega), gB_at (l := t.O) (by omega)]
      congr 1
      by_cases c0 : i = 0
      · rw [c0, d.o0, d'.o0]
      · by_cases c1 : i = s.n + 1
        · have := d'.o1
          rw [← en] at this
          rw [c1, d.o1, this]
        · rw [← en] at eO
          exact outN_inj eO i (by omega) (by omega)
    · rw [List.getElem?_eq_none (by omega), List.getElem?_eq_none (by omega)]
  obtain ⟨n, R, L, O⟩ := s
  obtain ⟨n', R', L', O'⟩ := t
  subst en eR eO2
  rw [show L = _ from hx, show L' = _ from hy, eL2]
end G
set_option Elab.async false
set_option linter.all false
set_option maxRecDepth 100000
set_option maxHeartbeats 4000000
/-! k02: promises. -/
set_option Elab.async false
set_option linter.all false
set_option maxRecDepth 100000
set_option maxHeartbeats 4000000
/-! k04: mathematics. -/
namespace G
open PySem PySem.Spec PyProof.Rows L2 TL
/-! ### walks -/
/-! ### sound, whole -/
def chk (R L : List Int) : Int → List Int → Bool
  | _, [] => true
  | a, x :: xs => (decide (gI R a.toNat = x) && decide (gI L x.toNat = a)) && chk R L x xs
def inN (n : Nat) (O : List Bool) : List Int := (((List.range (n + 1)).map fun (v : Nat) => v + 1).filter fun v => !gB O v).map fun (v : Nat) => (v : Int)
def sndB (n : Nat) (R L : List Int) (O : List Bool) : Bool := chk R L 0 (inN n O)
theorem chk_zip {R L : List Int} : ∀ (a : Int) (xs : List Int), ((List.range xs.length).map fun j => decide (gI R (gI (a :: xs) j).toNat = gI xs j) && decide (gI L (gI xs j).toNat = gI (a :: xs) j)).all id = chk R L a xs
  | a, [] => rfl
  | a, x :: xs => by
    rw [List.length_cons, List.range_succ_eq_map, List.map_cons, List.all_cons, List.map_map]
    have ih := chk_zip (R := R) (L := L) x xs
    have e : ((fun j => decide (gI R (gI (a :: x :: xs) j).toNat = gI (x :: xs) j) && decide (gI L (gI (x :: xs) j).toNat = gI (a :: x :: xs) j)) ∘ Nat.succ) = fun j => decide (gI R (gI (x :: xs) j).toNat = gI xs j) && decide (gI L (gI xs j).toNat = gI (x :: xs) j) := rfl
    rw [e, ih]
    rfl
theorem inN_bd {n : Nat} {O : List Bool} {x : Int} (h : x ∈ inN n O) : 1 ≤ x ∧ x ≤ (n : Int) + 1 := by
  unfold inN at h
  obtain ⟨v, hv, rfl⟩ := List.mem_map.mp h
  obtain ⟨u, hu, rfl⟩ := List.mem_map.mp (List.mem_filter.mp hv).1
  have := List.mem_range.mp hu
  omega
theorem inN_len (n : Nat) (O : List Bool) : (inN n O).length ≤ n + 1 := by
  unfold inN
  rw [List.length_map]
  refine Nat.le_trans (List.length_filter_le _ _) ?_
  rw [List.length_map, List.length_range]
  exact Nat.le_refl _
/-! ### the mirror -/
theorem sd_ext {s t : Sd} (w : Wf s) (w' : Wf t) (d : Snd s) (d' : Snd t) (hn : s.n = t.n) (hR : ∀ v, v ≤ s.n → gI s.R v = gI t.R v) (hL : ∀ v, 1 ≤ v → v ≤ s.n + 1 → gI s.L v = gI t.L v) (hO : ∀ v, v ≤ s.n + 1 → gB s.O v = gB t.O v) : s = t := by
  have l1 := w.lR
  have l2 := w.lL
  have l3 := w.lO
  have m1 := w'.lR
  have m2 := w'.lL
  have m3 := w'.lO
  obtain ⟨x, hx⟩ := d.l0
  obtain ⟨y, hy⟩ := d'.l0
  have e1 : s.R = t.R := List.ext_getElem? fun i => by
    by_cases hi : i < s.n + 1
    · rw [gI_at (l := s.R) (by omega), gI_at (l := t.R) (by omega), hR i (by omega)]
    · rw [List.getElem?_eq_none (by omega), List.getElem?_eq_none (by omega)]
  have e2 : s.L = t.L := List.ext_getElem? fun i => by
    by_cases hi : i < s.n + 2
    · cases i with
      | zero => rw [hx, hy] <;> rfl
      | succ i => rw [gI_at (l := s.L) (by omega), gI_at (l := t.L) (by omega), hL (i + 1) (by omega) (by omega)]
    · rw [List.getElem?_eq_none (by omega), List.getElem?_eq_none (by omega)]
  have e3 : s.O = t.O := List.ext_getElem? fun i => by
    by_cases hi : i < s.n + 2
    · rw [gB_at (l := s.O) (by omega), gB_at (l := t.O) (by omega), hO i (by omega)]
    · rw [List.getElem?_eq_none (by omega), List.getElem?_eq_none (by omega)]
  obtain ⟨n, R, L, O⟩ := s
  obtain ⟨n', R', L', O'⟩ := t
  cases hn; cases e1; cases e2; cases e3
  rfl
theorem step_gB {s : Sd} (w : Wf s) {op : Int} (h : IsOp s.n op) (v : Nat) : gB (stepS s op).O v = if v = op.natAbs then decide (op < 0) else gB s.O v := by
  show gB (s.O.set op.natAbs (decide (op < 0))) v = _
  have := w.lO
  have := h.2
  rw [gB_set (by omega)]
theorem step_gI {s : Sd} (w : Wf s) {op : Int} (h : IsOp s.n op) (v : Nat) : gI (stepS s op).R v = (if v = (gI s.L op.natAbs).toNat then (if op < 0 then gI s.R op.natAbs else (op.natAbs : Int)) else gI s.R v) ∧ gI (stepS s op).L v = (if v = (gI s.R op.natAbs).toNat then (if op < 0 then gI s.L op.natAbs else (op.natAbs : Int)) else gI s.L v) := by
  have h1 := h.1
  have h2 := h.2
  have rb := w.rb op.natAbs h2
  have lb := w.lb op.natAbs h1 (by omega)
  have l1 := w.lR
  have l2 := w.lL
  refine ⟨?_, ?_⟩
  · show gI (s.R.set _ _) v = _
    rw [gI_set (by omega)]
  · show gI (s.L.set _ _) v = _
    rw [gI_set (by omega)]
end G
set_option Elab.async false
set_option linter.all false
set_option maxRecDepth 100000
set_option maxHeartbeats 4000000
/-! k16: due nodes, debts, finishing by relinks: mathematics. -/
namespace G
open PySem PySem.Spec PyProof.Rows L2
theorem mem_outs {s : Sd} {i : Int} : i ∈ outN s.n s.O ↔ 1 ≤ i ∧ i ≤ s.n ∧ gB s.O i.toNat = true := by
  unfold outN
  constructor
  · intro h
    obtain ⟨v, hv, rfl⟩ := List.mem_map.mp h
    obtain ⟨h1, h2⟩ := List.mem_filter.mp hv
    obtain ⟨u, hu, rfl⟩ := List.mem_map.mp h1
    have := List.mem_range.mp hu
    rw [Int.toNat_natCast]
    exact ⟨by omega, by omega, h2⟩
  · rintro ⟨h1, h2, h3⟩
    exact List.mem_map.mpr ⟨i.toNat, List.mem_filter.mpr ⟨List.mem_map.mpr ⟨i.toNat - 1, List.mem_range.mpr (by omega), by omega⟩, h3⟩, by omega⟩
/-! ### finishing by relinks alone -/
def FinP (s : Sd) : Prop := lostL s = [] ∧ ∀ v ∈ aloneL s, gB s.O v.toNat = true
def WhP (s : Sd) : Prop := ∀ g, g ≤ s.n → gI s.R g = (g : Int) + 1 ∧ gI s.L (g + 1) = (g : Int) ∧ gB s.O g = false
theorem lost_nil {s : Sd} : lostL s = [] ↔ ∀ g, g ≤ s.n → stT s g ≠ "lost" := by
  unfold lostL
  rw [List.filter_eq_nil_iff]
  constructor
  · intro h g hg z
    exact h g (List.mem_range.mpr (by omega)) (decide_eq_true z)
  · intro h g hg z
    exact h g (by have := List.mem_range.mp hg; omega) (of_decide_eq_true z)
theorem sole_iff {s : Sd} {v : Nat} : soleB s v = true ↔ stT s v = "left" ∨ stT s (v - 1) = "right" := by
  unfold soleB
  rw [Bool.or_eq_true, decide_eq_true_iff, decide_eq_true_iff]
theorem fin_iff {s : Sd} : FinP s ↔ (∀ g, g ≤ s.n → stT s g ≠ "lost") ∧ ∀ v : Nat, 1 ≤ v → v ≤ s.n → soleB s v = true → gB s.O v = true := by
  unfold FinP
  rw [lost_nil]
  constructor
  · rintro ⟨h1, h2⟩
    refine ⟨h1, fun v a b c => ?_⟩
    have := h2 (v : Int) (mem_alone.mpr ⟨by omega, by omega, by rw [Int.toNat_natCast]; exact c⟩)
    rwa [Int.toNat_natCast] at this
  · rintro ⟨h1, h2⟩
    refine ⟨h1, fun i hi => ?_⟩
    obtain ⟨a, b, c⟩ := mem_alone.mp hi
    exact h2 i.toNat (by omega) (by omega) c
theorem ne_w4 : ("joined" : Str) ≠ "lost" ∧ ("joined" : Str) ≠ "left" ∧ ("joined" : Str) ≠ "right" ∧ ("left" : Str) ≠ "right" ∧ ("left" : Str) ≠ "lost" ∧ ("right" : Str) ≠ "lost" ∧ True := ⟨by decide +kernel, by decide +kernel, by decide +kernel, by decide +kernel, by decide +kernel, by decide +kernel, trivial⟩
theorem st_four4 (s : Sd) (g : Nat) : stT s g = "joined" ∨ stT s g = "left" ∨ stT s g = "right" ∨ stT s g = "lost" := by
  unfold stT
  split <;> split <;> simp
/-- the whole standing -/
theorem wh_fin {s : Sd} (h : WhP s) : FinP s := by
  refine fin_iff.mpr ⟨fun g hg z => ?_, fun v h1 h2 h3 => ?_⟩
  · exact (stT_lost2.mp z).1 (h g hg).1
  · rcases sole_iff.mp h3 with c | c
    · exact absurd (h v h2).2.1 (stT_left.mp c).2
    · exact absurd (h (v - 1) (by omega)).1 (stT_right.mp c).1
theorem fin_wh {s : Sd} (w : Wf s) (d : Snd s) (h : FinP s) (ho : ∀ v : Nat, 1 ≤ v → v ≤ s.n → gB s.O v = false) : WhP s := by
  obtain ⟨h1, h2⟩ := fin_iff.mp h
  intro g hg
  have og : gB s.O g = false := by
    by_cases c : g = 0
    · rw [c]; exact d.o0
    · exact ho g (by omega) hg
  have j : stT s g = "joined" := by
    rcases st_four4 s g with e | e | e | e
    · exact e
    · exfalso
      have g0 : g ≠ 0 := fun z => not_left0 w (by rw [← z]; exact e)
      have := h2 g (by omega) hg (sole_iff.mpr (.inl e))
      rw [og] at this
      cases this
    · exfalso
      have gn : g ≠ s.n := fun z => not_rightn w (by rw [← z]; exact e)
      have := h2 (g + 1) (by omega) (by omega) (sole_iff.mpr (.inr e))
      rw [ho (g + 1) (by omega) (by omega)] at this
      cases this
    · exact absurd e (h1 g hg)
  obtain ⟨a, b⟩ := stT_joined.mp j
  exact ⟨a, b, og⟩
/-- relinking v, where both its links are true -/
theorem rel_R {s : Sd} (w : Wf s) {v : Nat} (h1 : 1 ≤ v) (h2 : v ≤ s.n) (u : Nat) : gI (stepS s (v : Int)).R u = if u = (gI s.L v).toNat then (v : Int) else gI s.R u := by
  have := (step_gI w (op := (v : Int)) ⟨by omega, by rw [Int.natAbs_natCast]; exact h2⟩ u).1
  rw [Int.natAbs_natCast, if_neg (show ¬ (v : Int) < 0 by omega)] at this
  exact this
theorem rel_L {s : Sd} (w : Wf s) {v : Nat} (h1 : 1 ≤ v) (h2 : v ≤ s.n) (u : Nat) : gI (stepS s (v : Int)).L u = if u = (gI s.R v).toNat then (v : Int) else gI s.L u := by
  have := (step_gI w (op := (v : Int)) ⟨by omega, by rw [Int.natAbs_natCast]; exact h2⟩ u).2
  rw [Int.natAbs_natCast, if_neg (show ¬ (v : Int) < 0 by omega)] at this
  exact this
theorem rel_O {s : Sd} (w : Wf s) {v : Nat} (h1 : 1 ≤ v) (h2 : v ≤ s.n) (u : Nat) : gB (stepS s (v : Int)).O u = if u = v then false else gB s.O u := by
  rw [step_gB w (op := (v : Int)) ⟨by omega, by rw [Int.natAbs_natCast]; exact h2⟩, Int.natAbs_natCast, decide_eq_false (show ¬ (v : Int) < 0 by omega)]
/-- what cannot be mended by relinks stays so -/
theorem bad_step {s : Sd} (w : Wf s) {v : Nat} (h1 : 1 ≤ v) (h2 : v ≤ s.n) (ho : gB s.O v = true) (h : FinP (stepS s (v : Int))) : FinP s := by
  obtain ⟨f1, f2⟩ := fin_iff.mp h
  have en : (stepS s (v : Int)).n = s.n := rfl
  rw [en] at f1 f2
  have RR := rel_R w h1 h2
  have LL := rel_L w h1 h2
  have OO := rel_O w h1 h2
  have lv := w.lb v h1 (by omega)
  have rv := w.rb v h2
  have nolost : ∀ g, g ≤ s.n → stT s g ≠ "lost" := fun g hg z => by
    obtain ⟨a, b⟩ := stT_lost2.mp z
    refine f1 g hg (stT_lost2.mpr ⟨?_, ?_⟩)
    · rw [RR]
      by_cases c : g = (gI s.L v).toNat
      · rw [if_pos c]
        intro e
        have ev : v = g + 1 := by omega
        rw [← ev] at b
        omega
      · rw [if_neg c]
        exact a
    · rw [LL]
      by_cases c : g + 1 = (gI s.R v).toNat
      · rw [if_pos c]
        intro e
        have ev : v = g := by omega
        rw [← ev] at a
        omega
      · rw [if_neg c]
        exact b
  refine fin_iff.mpr ⟨nolost, fun u u1 u2 hu => Classical.byContradiction fun nu => ?_⟩
  have ne : u ≠ v := fun z => nu (by rw [z]; exact ho)
  have nu' : gB (stepS s (v : Int)).O u ≠ true := by rw [OO, if_neg ne]; exact nu
  rcases sole_iff.mp hu with c | c
  · obtain ⟨a, b⟩ := stT_left.mp c
    have b' : gI (stepS s (v : Int)).L (u + 1) ≠ (u : Int) := by
      rw [LL]
      split
      · omega
      · exact b
    by_cases c2 : gI (stepS s (v : Int)).R u = (u : Int) + 1
    · exact nu' (f2 u u1 u2 (sole_iff.mpr (.inl (stT_left.mpr ⟨c2, b'⟩))))
    · exact f1 u u2 (stT_lost2.mpr ⟨c2, b'⟩)
  · obtain ⟨a, b⟩ := stT_right.mp c
    have a' : gI (stepS s (v : Int)).R (u - 1) ≠ ((u - 1 : Nat) : Int) + 1 := by
      rw [RR]
      split
      · omega
      · exact a
    by_cases c2 : gI (stepS s (v : Int)).L (u - 1 + 1) = ((u - 1 : Nat) : Int)
    · exact nu' (f2 u u1 u2 (sole_iff.mpr (.inr (stT_right.mpr ⟨a', c2⟩))))
    · exact f1 (u - 1) (by omega) (stT_lost2.mpr ⟨a', c2⟩)
/-! ### rows -/
end G
set_option Elab.async false
set_option linter.all false
set_option maxRecDepth 100000
set_option maxHeartbeats 4000000
/-! k16: promises. -/
namespace G
open PySem PySem.Spec PyProof.Rows L2
def finB (s : Sd) : Bool := (lostL s).isEmpty && (aloneL s).all fun v => gB s.O v.toNat
theorem finB_iff {s : Sd} : finB s = true ↔ FinP s := by
  unfold finB FinP
  rw [Bool.and_eq_true, List.isEmpty_iff, List.all_eq_true]
/-- the rows on the heap, none of them anything of z -/
def RowAt (H : Hp) (z w : Addr) (t : Sd) : Prop := ∃ l r o, Bk5 H w l r o t ∧ Snd t ∧ w ≠ z ∧ l ≠ z ∧ r ≠ z ∧ o ≠ z
theorem RowAt.kz {H H' : Hp} {z w : Addr} {t : Sd} (h : RowAt H z w t) (k : Kp [z] H H') : RowAt H' z w t := by
  obtain ⟨l, r, o, b, d, h1, h2, h3, h4⟩ := h
  exact ⟨l, r, o, b.kp k (by simpa using h1) (by simpa using h2) (by simpa using h3) (by simpa using h4), d, h1, h2, h3, h4⟩
def RowsAt (H : Hp) (z : Addr) (ws : List Addr) (ts : List Sd) : Prop := ws.length = ts.length ∧ ∀ (i : Nat) (w : Addr) (t : Sd), ws[i]? = some w → ts[i]? = some t → RowAt H z w t
theorem RowsAt.kz {H H' : Hp} {z : Addr} {ws : List Addr} {ts : List Sd} (h : RowsAt H z ws ts) (k : Kp [z] H H') : RowsAt H' z ws ts := ⟨h.1, fun i w t a b => (h.2 i w t a b).kz k⟩
theorem RowsAt.k0 {H H' : Hp} {z : Addr} {ws : List Addr} {ts : List Sd} (h : RowsAt H z ws ts) (k : Kp [] H H') : RowsAt H' z ws ts := h.kz k.all
theorem RowsAt.nil (H : Hp) (z : Addr) : RowsAt H z [] [] := ⟨rfl, fun i w t a _ => by simp at a⟩
def NotRep (K : PySem.W.Frag) (s : Sd) (E : XK) (H : Hp) : Prop := ∀ (g : Nat) (gs : List Nat), lostL s = g :: gs → ∀ H', Kp [] H H' → Ex K "NotRepairable" [("gap", .int (g : Int))] E H'
theorem NotRep.k0 {K : PySem.W.Frag} {s : Sd} {E : XK} {H H1 : Hp} (h : NotRep K s E H) (k : Kp [] H H1) : NotRep K s E H1 := fun g gs e H' k' => h g gs e H' (k.trans k')
section
def sp16__law_lost (K : PySem.W.Frag) : Sp := fun vs H Q E => ∃ (w l r o : Addr) (s : Sd), vs = [.ref w] ∧ Bk5 H w l r o s ∧ NewL H (((lostL s).map fun (v : Nat) => (v : Int)).map V.int) Q
end
end G
set_option Elab.async false
set_option linter.all false
set_option maxRecDepth 100000
set_option maxHeartbeats 4000000
/-! k05: the mathematics of squeezed logs. -/
set_option Elab.async false
set_option linter.all false
set_option maxRecDepth 100000
set_option maxHeartbeats 4000000
/-! k17: first repairs: mathematics. -/
namespace G
open PySem PySem.Spec PyProof.Rows L2
/-! ### lowering operations -/
abbrev gA (s : Sd) (g : Nat) : Prop := gI s.R g = (g : Int) + 1
abbrev gBk (s : Sd) (g : Nat) : Prop := gI s.L (g + 1) = (g : Int)
/-- where a node's links stand -/
theorem low_at {s : Sd} (w : Wf s) {v : Nat} (hv : v + 1 ≤ s.n) : ∃ l h : Nat, gI s.L (v + 1) = (l : Int) ∧ gI s.R (v + 1) = (h : Int) + 1 ∧ l ≤ v ∧ v < h ∧ h ≤ s.n := by
  obtain ⟨a, b⟩ := w.lb (v + 1) (by omega) (by omega)
  obtain ⟨c, d⟩ := w.rb (v + 1) hv
  exact ⟨(gI s.L (v + 1)).toNat, (gI s.R (v + 1)).toNat - 1, by omega, by omega, by omega, by omega, by omega⟩
/-! ### the first repair -/
end G
set_option Elab.async false
set_option linter.all false
set_option maxRecDepth 100000
set_option maxHeartbeats 4000000
/-! k17: promises. -/
namespace G
open PySem PySem.Spec PyProof.Rows L2
def ltI (v : Nat) (g : Int) : Int := if g < (v : Int) then g + 1 else g
def Dj (A B : List Addr) : Prop := ∀ x ∈ A, x ∉ B
theorem Dj.hd {A B : List Addr} {b : Addr} (d : Dj A (b :: B)) : Dj A [b] := fun x hx z => d x hx (by rw [List.mem_singleton.mp z]; exact List.mem_cons_self ..)
theorem Dj.tl {A B : List Addr} {p : Addr} (d : Dj (p :: A) B) : Dj B A := fun x hx z => d x (List.mem_cons_of_mem _ z) hx
section
def sp17_left_to (K : PySem.W.Frag) : Sp := fun vs H Q E => ∃ op g : Int, vs = [.int op, .int g] ∧ Q (.int (ltI op.natAbs g)) H
end
end G
set_option Elab.async false
set_option linter.all false
set_option maxRecDepth 100000
set_option maxHeartbeats 4000000
/-! k22: once-only logs, late writes. -/
namespace G
open PySem PySem.Spec PyProof.Rows L2
def OnceA (log : List Int) : Prop := ∀ (i : Nat) (op : Int), log[i]? = some op → op < 0 → op ∉ log.take i
theorem OnceA.take {log : List Int} (h : OnceA log) (k : Nat) : OnceA (log.take k) := by
  intro i op hi ho
  have hk : i < (log.take k).length := (List.getElem?_eq_some_iff.mp hi).1
  rw [List.length_take] at hk
  rw [List.getElem?_take_of_lt (by omega)] at hi
  rw [List.take_take, Nat.min_eq_left (by omega)]
  exact h i op hi ho
/-- 0: has not acted, 1: out, 2: back -/
def stgF (log : List Int) (v : Nat) : Nat := match log.reverse.find? (fun x => decide (x.natAbs = v)) with
  | some x => if x < 0 then 1 else 2
  | none => 0
/-! ### late writes -/
def lateL (s : Sd) (earlier : List Int) (x : Nat) : List Int :=
  (if gI s.L x ≠ (x : Int) - 1 ∧ gI s.L x + 1 ∈ earlier then [gI s.L x] else []) ++ (if gI s.R x ≠ (x : Int) + 1 ∧ gI s.R x - 1 ∈ earlier then [gI s.R x - 1] else [])
/-! ### faults -/
/-- the first second unlink -/
def TwiceAt (log : List Int) (i : Nat) : Prop := ∃ op, log[i]? = some op ∧ op < 0 ∧ op ∈ log.take i ∧ OnceA (log.take i)
structure OnE (K : PySem.W.Frag) (H : Hp) (size : Int) (log : List Int) (E : XK) : Prop where
  re : RepE K H size log E
  tw : SizeOk size → Leg (wholeS size.toNat) log → ∀ i, TwiceAt log i → ∀ H', Kp [] H H' → Ex K "NotOnce" [("index", .int (i : Int))] E H'
theorem OnE.kp {K : PySem.W.Frag} {H H1 : Hp} {size : Int} {log : List Int} {E : XK} (r : OnE K H size log E) (k : Kp [] H H1) : OnE K H1 size log E := ⟨r.re.kp k, fun a b i t H' k' => r.tw a b i t H' (k.trans k')⟩
/-! ### the law's things -/
/-- the law's book: left links, right links, stages -/
structure LB (H : Hp) (w l r g : Addr) (n : Nat) (log : List Int) : Prop where
  ob : H w = some (.lst [.ref l, .ref r, .ref g])
  hl : ∃ L' : List Int, H l = some (.lst (L'.map V.int)) ∧ L'.length = n + 2 ∧ ∀ v, 1 ≤ v → v ≤ n + 1 → gI L' v = gI (runS (wholeS n) log).L v
  hr : ∃ R' : List Int, H r = some (.lst (R'.map V.int)) ∧ R'.length = n + 2 ∧ ∀ v, v ≤ n → gI R' v = gI (runS (wholeS n) log).R v
  hg : ∃ G' : List Int, H g = some (.lst (G'.map V.int)) ∧ G'.length = n + 2 ∧ (∀ v, 1 ≤ v → v ≤ n → gI G' v = (stgF log v : Int)) ∧ gI G' 0 = 0 ∧ gI G' (n + 1) = 0
  ne : l ≠ r ∧ l ≠ g ∧ r ≠ g ∧ w ≠ l ∧ w ≠ r ∧ w ≠ g
  le : Leg (wholeS n) log
  oo : OnceA log
  n60 : n ≤ 60
theorem LB.kp {H H' : Hp} {w l r g : Addr} {n : Nat} {log : List Int} {S : List Addr} (a : LB H w l r g n log) (k : Kp S H H') (h1 : w ∉ S) (h2 : l ∉ S) (h3 : r ∉ S) (h4 : g ∉ S) : LB H' w l r g n log := by
  obtain ⟨L', e1, e2⟩ := a.hl
  obtain ⟨R', f1, f2⟩ := a.hr
  obtain ⟨G', g1, g2⟩ := a.hg
  exact ⟨k _ _ h1 a.ob, ⟨L', k _ _ h2 e1, e2⟩, ⟨R', k _ _ h3 f1, f2⟩, ⟨G', k _ _ h4 g1, g2⟩, a.ne, a.le, a.oo, a.n60⟩
theorem LB.k0 {H H' : Hp} {w l r g : Addr} {n : Nat} {log : List Int} (a : LB H w l r g n log) (k : Kp [] H H') : LB H' w l r g n log := a.kp k (by simp) (by simp) (by simp) (by simp)
/-- the law's box of draws -/
structure BoxI (H : Hp) (b c : Addr) : Prop where
  ob : ∃ x y z : Int, H b = some (.lst [.int x, .int y, .int z, .ref c])
  hc : ∃ ns : List Int, H c = some (.lst (ns.map V.int)) ∧ ns.length ≤ 63
theorem BoxI.ne {H : Hp} {b c : Addr} (h : BoxI H b c) : b ≠ c := by
  obtain ⟨x, y, z, h1⟩ := h.ob
  obtain ⟨ns, h2, _⟩ := h.hc
  rintro rfl
  rw [h1] at h2
  injection h2 with h2
  injection h2 with h2
  match ns, h2 with
  | [_, _, _, d], h2 =>
    simp at h2
theorem BoxI.kp {H H' : Hp} {b c : Addr} {S : List Addr} (a : BoxI H b c) (k : Kp S H H') (h1 : b ∉ S) (h2 : c ∉ S) : BoxI H' b c := by
  obtain ⟨x, y, z, e1⟩ := a.ob
  obtain ⟨ns, e2, e3⟩ := a.hc
  exact ⟨⟨x, y, z, k _ _ h1 e1⟩, ⟨ns, k _ _ h2 e2, e3⟩⟩
theorem BoxI.k0 {H H' : Hp} {b c : Addr} (a : BoxI H b c) (k : Kp [] H H') : BoxI H' b c := a.kp k (by simp) (by simp)
theorem BoxI.fr {H : Hp} {b c x : Addr} (a : BoxI H b c) (n : H x = none) : x ≠ b ∧ x ≠ c := by
  obtain ⟨_, _, _, e1⟩ := a.ob
  obtain ⟨_, e2, _⟩ := a.hc
  exact ⟨(ne_of_none e1 n).symm, (ne_of_none e2 n).symm⟩
/-- pairs of numbers -/
def PPs (H : Hp) (xs : List V) (es : List (Int × Int)) : Prop := xs.length = es.length ∧ ∀ (i : Nat) (e : Int × Int), es[i]? = some e → ∃ a, xs[i]? = some (.ref a) ∧ H a = some (.tup [.int e.1, .int e.2])
theorem PPs.kp {S : List Addr} {H H' : Hp} {xs : List V} {es : List (Int × Int)} (h : PPs H xs es) (k : Kp S H H') (hS : ∀ b ∈ S, ∀ ys, H b ≠ some (.tup ys)) : PPs H' xs es := by
  refine ⟨h.1, fun i t e => ?_⟩
  obtain ⟨a, h1, h2⟩ := h.2 i t e
  exact ⟨a, h1, k _ _ (fun z => hS a z _ h2) h2⟩
theorem PPs.k0 {H H' : Hp} {xs : List V} {es : List (Int × Int)} (h : PPs H xs es) (k : Kp [] H H') : PPs H' xs es := h.kp k (by simp)
theorem PPs.one {H : Hp} {a : Addr} {t : Int × Int} (ha : H a = some (.tup [.int t.1, .int t.2])) : PPs H [.ref a] [t] := by
  refine ⟨rfl, fun i u e => ?_⟩
  match i, e with
  | 0, e =>
    have eu : t = u := by simpa using e
    subst eu
    exact ⟨a, rfl, ha⟩
  | i + 1, e => simp at e
theorem PPs.nil {H : Hp} : PPs H [] [] := ⟨rfl, fun i t e => by simp at e⟩
/-! ### promises -/
section
/-- a log that is legal and once-only -/
structure LgO (n : Nat) (ds : List Int) : Prop where
  ops : ∀ x ∈ ds, IsOp n x
  alt : Alt ds
  one : OnceA ds
  len : ds.length ≤ 120
end
end G
set_option Elab.async false
set_option linter.all false
set_option maxRecDepth 100000
set_option maxHeartbeats 4000000
/-! k23: the main fact about once-only logs: mathematics. -/
namespace G
open PySem PySem.Spec PyProof.Rows L2
def LateG (n : Nat) (log : List Int) (g : Nat) : Prop := ∃ i op, log[i]? = some op ∧ (g : Int) ∈ lateL (runS (wholeS n) (log.take i)) (log.take i) op.natAbs
theorem whole_links {n u : Nat} (h : u ≤ n) : gI (wholeS n).R u = (u : Int) + 1 ∧ gI (wholeS n).L (u + 1) = (u : Int) := by
  constructor
  · show gI (rgI 1 (n + 1)) u = _
    rw [gI_range (by omega)]
    omega
  · show gI (rgI 0 (n + 1)) u = _
    rw [gI_range (by omega)]
    omega
/-! ### what follows -/
end G
set_option Elab.async false
set_option linter.all false
set_option maxRecDepth 100000
set_option maxHeartbeats 4000000
/-! k23: promises. -/
namespace G
open PySem PySem.Spec PyProof.Rows L2
/-- no late write in the log at all; all that act are back -/
def Calm (n : Nat) (log : List Int) : Prop := ∀ g, g ≤ n → ¬ LateG n log g
section
def sp23_Links___eq__ (K : PySem.W.Frag) : Sp := fun vs H Q E => ∃ (p r l o p2 r2 l2 o2 : Addr) (s t : Sd), vs = [.ref p, .ref p2] ∧ LinksAt K H p r l o s ∧ LinksAt K H p2 r2 l2 o2 t ∧ Q (.bl (decide (s.R = t.R) && (decide (s.L = t.L) && decide (s.O = t.O)))) H
def sp23_Links_is_whole (K : PySem.W.Frag) : Sp := fun vs H Q E => ∃ (p r l o : Addr) (s : Sd), vs = [.ref p] ∧ LinksAt K H p r l o s ∧ Any H (.bl (decide (s.R = (wholeS s.n).R) && (decide (s.L = (wholeS s.n).L) && decide (s.O = (wholeS s.n).O)))) Q
end
end G
set_option Elab.async false
set_option linter.all false
set_option maxRecDepth 100000
set_option maxHeartbeats 4000000
/-! k23: whole lists, late writes as pairs, debts. -/
namespace G
open PySem PySem.Spec PyProof.Rows L2
def wholeB (s : Sd) : Bool := decide (s.R = (wholeS s.n).R) && (decide (s.L = (wholeS s.n).L) && decide (s.O = (wholeS s.n).O))
theorem gB_rep (m v : Nat) : gB (List.replicate m false) v = false := by
  unfold gB
  rw [List.getD_eq_getElem?_getD]
  by_cases h : v < m
  · rw [List.getElem?_replicate_of_lt h] <;> rfl
  · rw [List.getElem?_eq_none (by rw [List.length_replicate]; omega)] <;> rfl
theorem whB_joined {s : Sd} (h : wholeB s = true) {g : Nat} (hg : g ≤ s.n) : stT s g = "joined" := by
  unfold wholeB at h
  rw [Bool.and_eq_true, Bool.and_eq_true, decide_eq_true_iff, decide_eq_true_iff, decide_eq_true_iff] at h
  obtain ⟨a, b, _⟩ := h
  rw [stT_joined, a, b]
  exact whole_links hg
theorem joined_whB {s : Sd} (w : Wf s) (d : Snd s) (hj : ∀ g, g ≤ s.n → stT s g = "joined") (ho : ∀ v, gB s.O v = false) : wholeB s = true := by
  have e : s = wholeS s.n := by
    refine sd_ext w (Wf.whole w.n60) d (wholeS_snd _) rfl (fun v hv => ?_) (fun v h1 h2 => ?_) fun v hv => ?_
    · rw [(stT_joined.mp (hj v hv)).1, (whole_links hv).1]
    · obtain ⟨u, rfl⟩ : ∃ u, v = u + 1 := ⟨v - 1, by omega⟩
      rw [(stT_joined.mp (hj u (by omega))).2, (whole_links (show u ≤ s.n by omega)).2]
    · rw [ho v]
      exact (gB_rep _ _).symm
  have e1 := congrArg Sd.R e
  have e2 := congrArg Sd.L e
  have e3 := congrArg Sd.O e
  unfold wholeB
  rw [decide_eq_true e1, decide_eq_true e2, decide_eq_true e3] <;> rfl
theorem LgO.take {n : Nat} {log : List Int} (L : LgO n log) (k : Nat) : LgO n (log.take k) := by
  refine ⟨fun x hx => L.ops x (List.mem_of_mem_take hx), fun i op hi => ?_, L.one.take k, by rw [List.length_take]; have := L.len; omega⟩
  have hk : i < (log.take k).length := (List.getElem?_eq_some_iff.mp hi).1
  rw [List.length_take] at hk
  rw [List.getElem?_take_of_lt (by omega)] at hi
  rw [List.take_take, Nat.min_eq_left (by omega)]
  exact L.alt i op hi
theorem Calm.take {n : Nat} {log : List Int} (c : Calm n log) (k : Nat) : Calm n (log.take k) := by
  rintro g hg ⟨i, op, hi, h⟩
  have hk : i < (log.take k).length := (List.getElem?_eq_some_iff.mp hi).1
  rw [List.length_take] at hk
  rw [List.getElem?_take_of_lt (by omega)] at hi
  rw [List.take_take, Nat.min_eq_left (by omega)] at h
  exact c g hg ⟨i, op, hi, h⟩
end G
set_option Elab.async false
set_option linter.all false
set_option maxRecDepth 100000
set_option maxHeartbeats 4000000
/-! k48: an operation lowers the debt exactly if it spoils nothing. -/
set_option Elab.async false
set_option linter.all false
set_option maxRecDepth 100000
set_option maxHeartbeats 4000000
/-! k48: the law's things; promises. -/
namespace G
open PySem PySem.Spec PyProof.Rows L2
/-- the law's state of a list: right links, left links, who is out -/
structure St3 (H : Hp) (w r l o : Addr) (s : Sd) : Prop where
  ob : H w = some (.lst [.ref r, .ref l, .ref o])
  hr : H r = some (.lst (s.R.map V.int))
  hl : H l = some (.lst (((-1 : Int) :: s.L.tail).map V.int))
  ho : H o = some (.lst (s.O.map V.bl))
  ne : r ≠ l ∧ r ≠ o ∧ l ≠ o ∧ w ≠ r ∧ w ≠ l ∧ w ≠ o
  wf : Wf s
  sn : Snd s
theorem St3.kp {H H' : Hp} {w r l o : Addr} {s : Sd} {S : List Addr} (a : St3 H w r l o s) (k : Kp S H H') (h1 : w ∉ S) (h2 : r ∉ S) (h3 : l ∉ S) (h4 : o ∉ S) : St3 H' w r l o s :=
  ⟨k _ _ h1 a.ob, k _ _ h2 a.hr, k _ _ h3 a.hl, k _ _ h4 a.ho, a.ne, a.wf, a.sn⟩
theorem St3.k0 {H H' : Hp} {w r l o : Addr} {s : Sd} (a : St3 H w r l o s) (k : Kp [] H H') : St3 H' w r l o s := a.kp k (by simp) (by simp) (by simp) (by simp)
theorem St3.fr {H : Hp} {w r l o x : Addr} {s : Sd} (a : St3 H w r l o s) (n : H x = none) : w ≠ x ∧ r ≠ x ∧ l ≠ x ∧ o ≠ x := ⟨ne_of_none a.ob n, ne_of_none a.hr n, ne_of_none a.hl n, ne_of_none a.ho n⟩
/-- the law's box of draws: a list of great cells, three counters -/
structure Bx8 (N : Nat) (H : Hp) (b c : Addr) : Prop where
  ob : ∃ (x y z : Int) (ns : List Int), H b = some (.lst [.ref c, .int x, .int y, .int z]) ∧ H c = some (.lst (ns.map V.int)) ∧ ns.length ≤ 63 ∧ 0 ≤ z ∧ z ≤ N
theorem Bx8.mono {N M : Nat} {H : Hp} {b c : Addr} (a : Bx8 N H b c) (h : N ≤ M) : Bx8 M H b c := by
  obtain ⟨x, y, z, ns, h1, h2, h3, h4, h5⟩ := a.ob
  exact ⟨x, y, z, ns, h1, h2, h3, h4, by omega⟩
theorem Bx8.kp {N : Nat} {H H' : Hp} {b c : Addr} {S : List Addr} (a : Bx8 N H b c) (k : Kp S H H') (h1 : b ∉ S) (h2 : c ∉ S) : Bx8 N H' b c := by
  obtain ⟨x, y, z, ns, e1, e2, e3⟩ := a.ob
  exact ⟨x, y, z, ns, k _ _ h1 e1, k _ _ h2 e2, e3⟩
theorem Bx8.k0 {N : Nat} {H H' : Hp} {b c : Addr} (a : Bx8 N H b c) (k : Kp [] H H') : Bx8 N H' b c := a.kp k (by simp) (by simp)
theorem Bx8.fr {N : Nat} {H : Hp} {b c x : Addr} (a : Bx8 N H b c) (n : H x = none) : x ≠ b ∧ x ≠ c := by
  obtain ⟨_, _, _, ns, h1, h2, _⟩ := a.ob
  exact ⟨(ne_of_none h1 n).symm, (ne_of_none h2 n).symm⟩
theorem Bx8.ne {N : Nat} {H : Hp} {b c : Addr} (a : Bx8 N H b c) : b ≠ c := by
  obtain ⟨_, _, _, ns, h1, h2, _⟩ := a.ob
  rintro rfl
  rw [h1] at h2
  injection h2 with h2
  injection h2 with h2
  match ns, h2 with
  | u :: _, h2 => injection h2 with h2; cases h2
/-- the list of great cells behind draws: the old one or a new one -/
def Nx8 (H : Hp) (c c' : Addr) : Prop := c' = c ∨ H c' = none
theorem Nx8.trans {N : Nat} {H H' : Hp} {b c c' c'' : Addr} (x : Nx8 H c c') (y : Nx8 H' c' c'') (k : Kp [b] H H') (bx : Bx8 N H' b c') : Nx8 H c c'' := by
  rcases y with rfl | y
  · exact x
  · refine .inr ?_
    by_cases e : c'' = b
    · obtain ⟨_, _, _, _, h1, _⟩ := bx.ob
      rw [e, h1] at y
      cases y
    · exact k.free (by simpa using e) y
/-- alike data, to a depth -/
def Atom : V → Prop
  | .non => True
  | .bl _ => True
  | .int _ => True
  | .str _ => True
  | _ => False
def SamV : Nat → Hp → V → V → Prop
  | 0, _, _, _ => False
  | n + 1, H, x, y => (x = y ∧ Atom x) ∨ ∃ (a b : Addr) (xs ys : List V), x = .ref a ∧ y = .ref b ∧ ((H a = some (.lst xs) ∧ H b = some (.lst ys)) ∨ (H a = some (.tup xs) ∧ H b = some (.tup ys))) ∧ xs.length = ys.length ∧ ys.length ≤ 1000 ∧
      ∀ (i : Nat) u v, xs[i]? = some u → ys[i]? = some v → SamV n H u v
theorem SamV.tup {n : Nat} {H : Hp} {a b : Addr} {xs ys : List V} (h1 : H a = some (.tup xs)) (h2 : H b = some (.tup ys)) (hl : xs.length = ys.length) (hm : ys.length ≤ 1000) (h : ∀ (i : Nat) u v, xs[i]? = some u → ys[i]? = some v → SamV n H u v) : SamV (n + 1) H (.ref a) (.ref b) :=
  .inr ⟨a, b, xs, ys, rfl, rfl, .inr ⟨h1, h2⟩, hl, hm, h⟩
end G
set_option Elab.async false
set_option linter.all false
set_option maxRecDepth 100000
set_option maxHeartbeats 4000000
/-! k48: what is lost stays lost; logs that lead to the whole list; == of nested rows. -/
set_option Elab.async false
set_option linter.all false
set_option maxRecDepth 100000
set_option maxHeartbeats 4000000
/-! k48: the book of a log, gap by gap. -/
set_option Elab.async false
set_option linter.all false
set_option maxRecDepth 100000
set_option maxHeartbeats 4000000
/-! k48: the losses in time are the certificates of loss; the least of them. -/
set_option Elab.async false
set_option linter.all false
set_option maxRecDepth 100000
set_option maxHeartbeats 4000000
/-! k48: the ends. -/
set_option Elab.async false
set_option linter.all false
set_option maxRecDepth 100000
set_option maxHeartbeats 4000000
/-! The modes: what an operation does to gaps that are another's; runs that keep every sole holder out. -/
namespace G
open PySem PySem.Spec PyProof.Rows L2
/-- an operation, gap by gap -/
structure AbS (s : Sd) (op : Int) (m l h : Nat) : Prop where
  x : op.natAbs = m + 1
  el : gI s.L (m + 1) = (l : Int)
  er : gI s.R (m + 1) = (h : Int) + 1
  lm : l ≤ m
  mh : m < h
  hn : h ≤ s.n
  a : ∀ g, gA (stepS s op) g ↔ (g = l ∧ 0 < op ∧ l = m) ∨ (g ≠ l ∧ gA s g)
  b : ∀ g, gBk (stepS s op) g ↔ (g = h ∧ 0 < op ∧ m + 1 = h) ∨ (g ≠ h ∧ gBk s g)
  o : ∀ u, gB (stepS s op).O u = if u = m + 1 then decide (op < 0) else gB s.O u
theorem ab_step {s : Sd} (w : Wf s) {op : Int} (io : IsOp s.n op) : ∃ m l h : Nat, AbS s op m l h := by
  obtain ⟨m, hm⟩ : ∃ m, op.natAbs = m + 1 := ⟨op.natAbs - 1, by have := io.1; omega⟩
  obtain ⟨l, h, e1, e2, e3, e4, e5⟩ := low_at w (v := m) (by have := io.2; omega)
  refine ⟨m, l, h, hm, e1, e2, e3, e4, e5, fun g => ?_, fun g => ?_, fun u => ?_⟩
  · unfold gA
    rw [(step_gI w io g).1, hm, e1, e2, Int.toNat_natCast]
    by_cases c : g = l
    · rw [if_pos c]
      by_cases o : op < 0
      · rw [if_pos o]; omega
      · rw [if_neg o]; omega
    · rw [if_neg c]; omega
  · unfold gBk
    rw [(step_gI w io (g + 1)).2, hm, e1, e2, show ((h : Int) + 1).toNat = h + 1 by omega]
    by_cases c : g = h
    · rw [if_pos (by omega)]
      by_cases o : op < 0
      · rw [if_pos o]; omega
      · rw [if_neg o]; omega
    · rw [if_neg (by omega)]; omega
  · rw [step_gB w io u, hm]
def svB (s : Sd) (x : Nat) : Bool := (forW s x).any fun g => !decide (stT s g.toNat = "joined")
def gdB (s : Sd) (x : Nat) : Bool := (forW s x).any fun g => !gB s.O (ltI x g).toNat
def fitB (s : Sd) (op : Int) : Bool := !(gB s.O (gI s.L op.natAbs).toNat || gB s.O (gI s.R op.natAbs).toNat) &&
  (if op < 0 then decide (gI s.R (gI s.L op.natAbs).toNat = (op.natAbs : Int)) && decide (gI s.L (gI s.R op.natAbs).toNat = (op.natAbs : Int))
  else decide (gI s.R (gI s.L op.natAbs).toNat = gI s.R op.natAbs) && decide (gI s.L (gI s.R op.natAbs).toNat = gI s.L op.natAbs))
theorem for_ab {s : Sd} {op : Int} {m l h : Nat} (t : AbS s op m l h) : forW s op.natAbs = (if l ≠ m ∧ gA s l then [(l : Int)] else []) ++ (if h ≠ m + 1 ∧ gBk s h then [(h : Int)] else []) := by
  unfold forW
  rw [t.x, t.el, t.er, Int.toNat_natCast, show ((h : Int) + 1).toNat = h + 1 by omega, show (h : Int) + 1 - 1 = (h : Int) by omega]
  congr 1
  · by_cases c : l ≠ m ∧ gA s l
    · rw [if_pos c, if_pos ⟨by have := c.1; omega, c.2⟩]
    · rw [if_neg c, if_neg (fun z => c ⟨by have := z.1; omega, z.2⟩)]
  · by_cases c : h ≠ m + 1 ∧ gBk s h
    · rw [if_pos c, if_pos ⟨by have := c.1; omega, c.2⟩]
    · rw [if_neg c, if_neg (fun z => c ⟨by have := z.1; omega, z.2⟩)]
theorem any_two {P Q : Prop} [Decidable P] [Decidable Q] {a b : Int} {f : Int → Bool} : (((if P then [a] else []) ++ (if Q then [b] else [])).any f = true) ↔ (P ∧ f a = true) ∨ (Q ∧ f b = true) := by
  by_cases c : P <;> by_cases d : Q <;> simp [c, d]
theorem sv_ab {s : Sd} {op : Int} {m l h : Nat} (t : AbS s op m l h) : svB s op.natAbs = true ↔ (l ≠ m ∧ gA s l ∧ ¬ gBk s l) ∨ (h ≠ m + 1 ∧ gBk s h ∧ ¬ gA s h) := by
  unfold svB
  rw [for_ab t, any_two, Int.toNat_natCast, Int.toNat_natCast, Bool.not_eq_true', Bool.not_eq_true', decide_eq_false_iff_not, decide_eq_false_iff_not, stT_joined, stT_joined]
  constructor
  · rintro (⟨⟨a, b⟩, c⟩ | ⟨⟨a, b⟩, c⟩)
    · exact .inl ⟨a, b, fun z => c ⟨b, z⟩⟩
    · exact .inr ⟨a, b, fun z => c ⟨z, b⟩⟩
  · rintro (⟨a, b, c⟩ | ⟨a, b, c⟩)
    · exact .inl ⟨⟨a, b⟩, fun z => c z.2⟩
    · exact .inr ⟨⟨a, b⟩, fun z => c z.1⟩
theorem gd_ab {s : Sd} {op : Int} {m l h : Nat} (t : AbS s op m l h) : gdB s op.natAbs = true ↔ (l ≠ m ∧ gA s l ∧ gB s.O (l + 1) = false) ∨ (h ≠ m + 1 ∧ gBk s h ∧ gB s.O h = false) := by
  unfold gdB
  have e1 : l ≠ m → ltI op.natAbs (l : Int) = ((l + 1 : Nat) : Int) := fun z => by
    have := t.lm
    unfold ltI
    rw [t.x, if_pos (by omega)]
    omega
  have e2 : ltI op.natAbs (h : Int) = (h : Int) := by
    have := t.mh
    unfold ltI
    rw [t.x, if_neg (by omega)]
  rw [for_ab t, any_two, e2, Int.toNat_natCast, Bool.not_eq_true', Bool.not_eq_true']
  constructor
  · rintro (⟨⟨a, b⟩, c⟩ | ⟨⟨a, b⟩, c⟩)
    · rw [e1 a, Int.toNat_natCast] at c
      exact .inl ⟨a, b, c⟩
    · exact .inr ⟨a, b, c⟩
  · rintro (⟨a, b, c⟩ | ⟨a, b, c⟩)
    · exact .inl ⟨⟨a, b⟩, by rw [e1 a, Int.toNat_natCast]; exact c⟩
    · exact .inr ⟨⟨a, b⟩, c⟩
/-- newly lost exactly if it takes a gap from its only holder -/
theorem sv_new {s : Sd} (w : Wf s) {op : Int} (io : IsOp s.n op) : (∃ g, g ≤ s.n ∧ stT s g ≠ "lost" ∧ stT (stepS s op) g = "lost") ↔ svB s op.natAbs = true := by
  obtain ⟨m, l, h, t⟩ := ab_step w io
  rw [sv_ab t]
  have tl := t.lm
  have th := t.mh
  have tn := t.hn
  have L : ∀ g, stT s g = "lost" ↔ ¬ gA s g ∧ ¬ gBk s g := fun g => stT_lost2
  have L' : ∀ g, stT (stepS s op) g = "lost" ↔ ¬ gA (stepS s op) g ∧ ¬ gBk (stepS s op) g := fun g => stT_lost2
  have om : gBk s m ↔ l = m := by unfold gBk; rw [t.el]; omega
  have oh : gA s (m + 1) ↔ h = m + 1 := by unfold gA; rw [t.er]; omega
  constructor
  · rintro ⟨g, hg, h1, h2⟩
    rw [ne_eq, L] at h1
    rw [L', t.a, t.b] at h2
    by_cases c1 : g = l
    · by_cases c2 : l = m
      · subst c2
        subst c1
        exfalso
        by_cases c3 : g = h
        · omega
        · exact h2.2 (.inr ⟨c3, om.mpr rfl⟩)
      · refine .inl ⟨c2, ?_⟩
        subst c1
        have : ¬ gBk s g := fun z => h2.2 (.inr ⟨by omega, z⟩)
        exact ⟨Classical.byContradiction fun z => h1 ⟨z, this⟩, this⟩
    · have na : ¬ gA s g := fun z => h2.1 (.inr ⟨c1, z⟩)
      by_cases c3 : g = h
      · subst c3
        have nb : gBk s g := Classical.byContradiction fun z => h1 ⟨na, z⟩
        exact .inr ⟨fun z => na (by rw [z]; exact oh.mpr z), nb, na⟩
      · exact absurd ⟨na, fun z => h2.2 (.inr ⟨c3, z⟩)⟩ h1
  · rintro (⟨a, b, c⟩ | ⟨a, b, c⟩)
    · refine ⟨l, by omega, fun z => ((L l).mp z).1 b, (L' l).mpr ⟨?_, ?_⟩⟩
      · rw [t.a]
        rintro (⟨_, _, z⟩ | ⟨z, _⟩)
        · exact a z
        · exact z rfl
      · rw [t.b]
        rintro (⟨z, _⟩ | ⟨_, z⟩)
        · omega
        · exact c z
    · refine ⟨h, by omega, fun z => ((L h).mp z).2 b, (L' h).mpr ⟨?_, ?_⟩⟩
      · rw [t.a]
        rintro (⟨z, _⟩ | ⟨_, z⟩)
        · omega
        · exact c z
      · rw [t.b]
        rintro (⟨_, _, z⟩ | ⟨z, _⟩)
        · omega
        · exact z rfl
theorem fin_ab {s : Sd} : FinP s ↔ (∀ g, g ≤ s.n → gA s g ∨ gBk s g) ∧ ∀ u, u < s.n → ((gA s (u + 1) ∧ ¬ gBk s (u + 1)) ∨ (¬ gA s u ∧ gBk s u)) → gB s.O (u + 1) = true := by
  rw [fin_iff]
  refine and_congr ⟨fun h g hg => ?_, fun h g hg z => ?_⟩ ⟨fun h u hu z => ?_, fun h v h1 h2 z => ?_⟩
  · apply Classical.byContradiction
    intro z
    exact h g hg (stT_lost2.mpr ⟨fun y => z (.inl y), fun y => z (.inr y)⟩)
  · have := stT_lost2.mp z
    rcases h g hg with y | y
    · exact this.1 y
    · exact this.2 y
  · refine h (u + 1) (by omega) (by omega) (sole_iff.mpr ?_)
    rcases z with z | z
    · exact .inl (stT_left.mpr z)
    · exact .inr (stT_right.mpr z)
  · obtain ⟨u, rfl⟩ : ∃ u, v = u + 1 := ⟨v - 1, by omega⟩
    refine h u (by omega) ?_
    rcases sole_iff.mp z with y | y
    · exact .inl (stT_left.mp y)
    · exact .inr (stT_right.mp y)
theorem abs_keep {A B A' B' O O' : Nat → Prop} {m l h n : Nat} {pos : Prop} (lm : l ≤ m) (mh : m < h)
    (a : ∀ g, A' g ↔ (g = l ∧ pos ∧ l = m) ∨ (g ≠ l ∧ A g)) (b : ∀ g, B' g ↔ (g = h ∧ pos ∧ m + 1 = h) ∨ (g ≠ h ∧ B g)) (o : ∀ u, O' (u + 1) ↔ (u = m ∧ ¬ pos) ∨ (u ≠ m ∧ O (u + 1)))
    (om : B m ↔ l = m) (oh : A (m + 1) ↔ h = m + 1) (hn : h ≤ n)
    (f1 : ∀ g, g ≤ n → A g ∨ B g) (f2 : ∀ u, u < n → ((A (u + 1) ∧ ¬ B (u + 1)) ∨ (¬ A u ∧ B u)) → O (u + 1))
    (n1 : ¬ ((l ≠ m ∧ A l ∧ ¬ B l) ∨ (h ≠ m + 1 ∧ B h ∧ ¬ A h))) (n2 : ¬ ((l ≠ m ∧ A l ∧ ¬ O (l + 1)) ∨ (h ≠ m + 1 ∧ B h ∧ ¬ O h))) :
    (∀ g, g ≤ n → A' g ∨ B' g) ∧ ∀ u, u < n → ((A' (u + 1) ∧ ¬ B' (u + 1)) ∨ (¬ A' u ∧ B' u)) → O' (u + 1) := by
  constructor
  · intro g hg
    have a1 := a g
    have b1 := b g
    have f := f1 g hg
    clear a b o f1 f2
    by_cases c : g = l
    · subst c
      by_cases d : g = m
      · subst d; grind
      · grind
    · by_cases d : g = h
      · subst d; grind
      · grind
  · intro u hu z
    have a1 := a u
    have a2 := a (u + 1)
    have b1 := b u
    have b2 := b (u + 1)
    have o1 := o u
    have f := f2 u hu
    clear a b o f1 f2
    by_cases c : u = m
    · subst c; grind
    · by_cases c1 : u + 1 = l
      · subst c1; grind
      · by_cases c2 : u + 1 = h
        · subst c2; grind
        · by_cases c3 : u = l
          · subst c3; grind
          · by_cases c4 : u = h
            · subst c4; grind
            · grind
theorem abs_bad {A B A' B' O O' : Nat → Prop} {m l h n : Nat} {pos : Prop} (lm : l ≤ m) (mh : m < h)
    (a : ∀ g, A' g ↔ (g = l ∧ pos ∧ l = m) ∨ (g ≠ l ∧ A g)) (b : ∀ g, B' g ↔ (g = h ∧ pos ∧ m + 1 = h) ∨ (g ≠ h ∧ B g)) (o : ∀ u, O' (u + 1) ↔ (u = m ∧ ¬ pos) ∨ (u ≠ m ∧ O (u + 1)))
    (hn : h ≤ n) (n1 : ¬ ((l ≠ m ∧ A l ∧ ¬ B l) ∨ (h ≠ m + 1 ∧ B h ∧ ¬ A h))) (n2 : (l ≠ m ∧ A l ∧ ¬ O (l + 1)) ∨ (h ≠ m + 1 ∧ B h ∧ ¬ O h)) :
    ∃ u, u < n ∧ ((A' (u + 1) ∧ ¬ B' (u + 1)) ∨ (¬ A' u ∧ B' u)) ∧ ¬ O' (u + 1) := by
  rcases n2 with ⟨c1, c2, c3⟩ | ⟨c1, c2, c3⟩
  · refine ⟨l, by omega, .inr ?_, ?_⟩
    · rw [a, b]; grind
    · rw [o]; grind
  · obtain ⟨u, rfl⟩ : ∃ u, h = u + 1 := ⟨h - 1, by omega⟩
    refine ⟨u, by omega, .inl ?_, ?_⟩
    · rw [a, b]; grind
    · rw [o]; grind
/-- what the guarded mode admits keeps every sole holder out -/
theorem fin_keep {s : Sd} (w : Wf s) {op : Int} (io : OkOp s op) (f : FinP s) (h1 : svB s op.natAbs = false) (h2 : gdB s op.natAbs = false) : FinP (stepS s op) := by
  obtain ⟨m, l, h, t⟩ := ab_step w io.1
  have io2 := io.2
  rw [t.x] at io2
  have n1 := (not_congr (sv_ab t)).mp (by rw [h1]; exact Bool.false_ne_true)
  have n2 := (not_congr (gd_ab t)).mp (by rw [h2]; exact Bool.false_ne_true)
  have tl := t.lm
  have th := t.mh
  have tn := t.hn
  have om : gBk s m ↔ l = m := by unfold gBk; rw [t.el]; omega
  have oh : gA s (m + 1) ↔ h = m + 1 := by unfold gA; rw [t.er]; omega
  obtain ⟨f1, f2⟩ := fin_ab.mp f
  have o1 : (0 < op) ↔ gB s.O (m + 1) = true := by rw [io2, decide_eq_true_iff]
  have o2 : ∀ u, gB (stepS s op).O (u + 1) = true ↔ (u = m ∧ ¬ 0 < op) ∨ (u ≠ m ∧ gB s.O (u + 1) = true) := fun u => by
    rw [t.o]
    by_cases c : u = m
    · rw [if_pos (by omega), decide_eq_true_iff]
      have : op ≠ 0 := by have := t.x; omega
      omega
    · rw [if_neg (by omega)]
      exact ⟨fun z => .inr ⟨c, z⟩, fun z => z.elim (fun y => absurd y.1 c) fun y => y.2⟩
  have fo : ∀ u, gB s.O u = false ↔ ¬ gB s.O u = true := fun u => by cases gB s.O u <;> simp
  rw [fo, fo] at n2
  exact fin_ab.mpr (abs_keep (A := gA s) (B := gBk s) (A' := gA (stepS s op)) (B' := gBk (stepS s op)) (O := fun u => gB s.O u = true) (O' := fun u => gB (stepS s op).O u = true) (pos := 0 < op) t.lm t.mh t.a t.b o2 om oh t.hn f1 f2 n1 n2)
/-- what it refuses leaves a gap to no one, or to a holder that is in -/
theorem fin_lost {s : Sd} (w : Wf s) {op : Int} (io : IsOp s.n op) (h1 : svB s op.natAbs = true) : lostL (stepS s op) ≠ [] := by
  obtain ⟨g, hg, _, h3⟩ := (sv_new w io).mpr h1
  exact fun z => lost_nil.mp z g hg h3
theorem fin_bad {s : Sd} (w : Wf s) {op : Int} (io : OkOp s op) (h1 : svB s op.natAbs = false) (h2 : gdB s op.natAbs = true) : ∃ v, 1 ≤ v ∧ v ≤ s.n ∧ soleB (stepS s op) v = true ∧ gB (stepS s op).O v = false := by
  obtain ⟨m, l, h, t⟩ := ab_step w io.1
  have n1 := (not_congr (sv_ab t)).mp (by rw [h1]; exact Bool.false_ne_true)
  have n2 := (gd_ab t).mp h2
  have fo : ∀ u, gB s.O u = false ↔ ¬ gB s.O u = true := fun u => by cases gB s.O u <;> simp
  rw [fo, fo] at n2
  have o2 : ∀ u, gB (stepS s op).O (u + 1) = true ↔ (u = m ∧ ¬ 0 < op) ∨ (u ≠ m ∧ gB s.O (u + 1) = true) := fun u => by
    rw [t.o]
    by_cases c : u = m
    · rw [if_pos (by omega), decide_eq_true_iff]
      have : op ≠ 0 := by have := t.x; omega
      omega
    · rw [if_neg (by omega)]
      exact ⟨fun z => .inr ⟨c, z⟩, fun z => z.elim (fun y => absurd y.1 c) fun y => y.2⟩
  obtain ⟨u, u1, u2, u3⟩ := abs_bad (A := gA s) (B := gBk s) (A' := gA (stepS s op)) (B' := gBk (stepS s op)) (O := fun u => gB s.O u = true) (O' := fun u => gB (stepS s op).O u = true) (pos := 0 < op) t.lm t.mh t.a t.b o2 t.hn n1 n2
  refine ⟨u + 1, by omega, by omega, sole_iff.mpr ?_, by simpa using u3⟩
  rcases u2 with z | z
  · exact .inl (stT_left.mpr z)
  · exact .inr (stT_right.mpr z)
theorem fin_not {s : Sd} (w : Wf s) {op : Int} (io : OkOp s op) (h : svB s op.natAbs = true ∨ gdB s op.natAbs = true) : ¬ FinP (stepS s op) := by
  intro f
  cases e : svB s op.natAbs with
  | true => exact fin_lost w io.1 e f.1
  | false =>
    rcases h with z | z
    · rw [e] at z; cases z
    · obtain ⟨v, v1, v2, v3, v4⟩ := fin_bad w io e z
      have := (fin_iff.mp f).2 v v1 v2 v3
      rw [v4] at this
      cases this
/-! ### the debt -/
end G
set_option Elab.async false
set_option linter.all false
set_option maxRecDepth 100000
set_option maxHeartbeats 4000000
/-! The modes: what they refuse; promises of the program's defs. -/
namespace G
open PySem PySem.Spec PyProof.Rows L2
/-- the name of the weakest mode up to the level c that refuses -/
def refS (c : Nat) (s : Sd) (op : Int) : Str := if 1 ≤ c ∧ svB s op.natAbs = true then "saving" else if 2 ≤ c ∧ gdB s op.natAbs = true then "guarded" else if 3 ≤ c ∧ fitB s op = false then "checked" else ""
def mdN : Nat → Str
  | 0 => "free"
  | 1 => "saving"
  | 2 => "guarded"
  | _ => "checked"
def mdC (K : PySem.W.Frag) : Nat → Addr
  | 0 => He.ga K "FreeMode"
  | 1 => He.ga K "SavingMode"
  | 2 => He.ga K "GuardedMode"
  | _ => He.ga K "CheckedMode"
structure MdAt (K : PySem.W.Frag) (H : Hp) (x : Addr) (c : Nat) : Prop where
  ob : ∃ dx, H x = some (.ins (mdC K c) dx [])
  c3 : c ≤ 3
theorem MdAt.kp {K : PySem.W.Frag} {H H' : Hp} {x : Addr} {c : Nat} {S : List Addr} (a : MdAt K H x c) (k : Kp S H H') (h : x ∉ S) : MdAt K H' x c := by
  obtain ⟨dx, e⟩ := a.ob
  exact ⟨⟨dx, k _ _ h e⟩, a.c3⟩
theorem MdAt.k0 {K : PySem.W.Frag} {H H' : Hp} {x : Addr} {c : Nat} (a : MdAt K H x c) (k : Kp [] H H') : MdAt K H' x c := a.kp k (by simp)
theorem MdAt.fr {K : PySem.W.Frag} {H : Hp} {x y : Addr} {c : Nat} (a : MdAt K H x c) (n : H y = none) : x ≠ y := by
  obtain ⟨dx, e⟩ := a.ob
  exact ne_of_none e n
theorem ne_md : ("saving" : Str) ≠ "" ∧ ("guarded" : Str) ≠ "" ∧ ("checked" : Str) ≠ "" := ⟨by decide +kernel, by decide +kernel, by decide +kernel⟩
theorem mdN_inj {c d : Nat} (hc : c ≤ 3) (hd : d ≤ 3) (h : mdN c = mdN d) : c = d := by
  have d01 : ("free" : Str) ≠ "saving" := by decide +kernel
  have d02 : ("free" : Str) ≠ "guarded" := by decide +kernel
  have d03 : ("free" : Str) ≠ "checked" := by decide +kernel
  have d12 : ("saving" : Str) ≠ "guarded" := by decide +kernel
  have d13 : ("saving" : Str) ≠ "checked" := by decide +kernel
  have d23 : ("guarded" : Str) ≠ "checked" := by decide +kernel
  match c, d, hc, hd with
  | 0, 0, _, _ => rfl
  | 1, 1, _, _ => rfl
  | 2, 2, _, _ => rfl
  | 3, 3, _, _ => rfl
  | 0, 1, _, _ => exact absurd h d01
  | 0, 2, _, _ => exact absurd h d02
  | 0, 3, _, _ => exact absurd h d03
  | 1, 2, _, _ => exact absurd h d12
  | 1, 3, _, _ => exact absurd h d13
  | 2, 3, _, _ => exact absurd h d23
  | 1, 0, _, _ => exact absurd h d01.symm
  | 2, 0, _, _ => exact absurd h d02.symm
  | 3, 0, _, _ => exact absurd h d03.symm
  | 2, 1, _, _ => exact absurd h d12.symm
  | 3, 1, _, _ => exact absurd h d13.symm
  | 3, 2, _, _ => exact absurd h d23.symm
theorem refS_0 (s : Sd) (op : Int) : refS 0 s op = "" := by
  unfold refS
  rw [if_neg (by omega), if_neg (by omega), if_neg (by omega)]
theorem refS_1 (s : Sd) (op : Int) : refS 1 s op = if svB s op.natAbs = true then ("saving" : Str) else "" := by
  unfold refS
  by_cases c : svB s op.natAbs = true
  · rw [if_pos ⟨by omega, c⟩, if_pos c]
  · rw [if_neg (fun z => c z.2), if_neg (by omega), if_neg (by omega), if_neg c]
theorem refS_2 (s : Sd) (op : Int) : refS 2 s op = if refS 1 s op = "" ∧ gdB s op.natAbs = true then ("guarded" : Str) else refS 1 s op := by
  rw [refS_1]
  unfold refS
  by_cases c : svB s op.natAbs = true
  · rw [if_pos ⟨by omega, c⟩, if_pos c, if_neg (fun z => ne_md.1 z.1)]
  · rw [if_neg (fun z => c z.2), if_neg c]
    by_cases d : gdB s op.natAbs = true
    · rw [if_pos ⟨by omega, d⟩, if_pos ⟨rfl, d⟩]
    · rw [if_neg (fun z => d z.2), if_neg (by omega), if_neg (fun z => d z.2)]
theorem refS_3 (s : Sd) (op : Int) : refS 3 s op = if refS 2 s op = "" ∧ fitB s op = false then ("checked" : Str) else refS 2 s op := by
  rw [refS_2, refS_1]
  unfold refS
  by_cases c : svB s op.natAbs = true
  · rw [if_pos ⟨by omega, c⟩, if_pos c, if_neg (show ¬ (("saving" : Str) = "" ∧ gdB s op.natAbs = true) from fun z => ne_md.1 z.1), if_neg (fun z => ne_md.1 z.1)]
  · rw [if_neg (fun z => c z.2), if_neg c]
    by_cases d : gdB s op.natAbs = true
    · rw [if_pos ⟨by omega, d⟩, if_pos (show ("" : Str) = "" ∧ gdB s op.natAbs = true from ⟨rfl, d⟩), if_neg (fun z => ne_md.2.1 z.1)]
    · rw [if_neg (fun z => d z.2), if_neg (show ¬ (("" : Str) = "" ∧ gdB s op.natAbs = true) from fun z => d z.2)]
      by_cases e : fitB s op = false
      · rw [if_pos ⟨by omega, e⟩, if_pos ⟨rfl, e⟩]
      · rw [if_neg (fun z => e z.2), if_neg (fun z => e z.2)]
theorem ref2_nil {s : Sd} {op : Int} : refS 2 s op = "" ↔ svB s op.natAbs = false ∧ gdB s op.natAbs = false := by
  rw [refS_2, refS_1]
  cases svB s op.natAbs <;> cases gdB s op.natAbs <;> simp [ne_md.1, ne_md.2.1]
theorem ref2_bad {s : Sd} {op : Int} : refS 2 s op ≠ "" ↔ svB s op.natAbs = true ∨ gdB s op.natAbs = true := by
  rw [ne_eq, ref2_nil]
  cases svB s op.natAbs <;> cases gdB s op.natAbs <;> simp
/-- every operation is legal and admitted in turn -/
def Adm (c : Nat) (s : Sd) (log : List Int) : Prop := ∀ i op, log[i]? = some op → OkOp (runS s (log.take i)) op ∧ refS c (runS s (log.take i)) op = ""
theorem Adm.take {c : Nat} {s : Sd} {log : List Int} (h : Adm c s log) (k : Nat) : Adm c s (log.take k) := by
  intro i op hp
  have hi : i < (log.take k).length := (List.getElem?_eq_some_iff.mp hp).1
  rw [List.length_take] at hi
  rw [List.getElem?_take_of_lt (by omega)] at hp
  rw [List.take_take, Nat.min_eq_left (by omega)]
  exact h i op hp
/-! ### promises -/
section
variable (K : PySem.W.Frag)
/-- a method refusal of the class of level d, called on an object of a level c -/
def spRf (d : Nat) : Sp := fun vs H Q E => ∃ (x p r l o : Addr) (s : Sd) (op : Int) (c : Nat), vs = [.ref x, .ref p, .int op] ∧ MdAt K H x c ∧ d ≤ c ∧ LinksAt K H p r l o s ∧ (OkOp s op → Any H (.str (refS d s op)) Q) ∧ (¬ OkOp s op → OpE K s.n op 0 E H)
def sp_FreeMode_refusal : Sp := spRf K 0
def sp_SavingMode_refusal : Sp := spRf K 1
def sp_GuardedMode_refusal : Sp := spRf K 2
def sp_CheckedMode_refusal : Sp := spRf K 3
def sp__loses_a_gap : Sp := fun vs H Q E => ∃ (p r l o : Addr) (s : Sd) (op : Int), vs = [.ref p, .int op] ∧ LinksAt K H p r l o s ∧ OkOp s op ∧ Any H (.bl (svB s op.natAbs)) Q
def sp__leaves_a_gap_to_a_holder_that_is_in : Sp := fun vs H Q E => ∃ (p r l o : Addr) (s : Sd) (op : Int), vs = [.ref p, .int op] ∧ LinksAt K H p r l o s ∧ OkOp s op ∧ Any H (.bl (gdB s op.natAbs)) Q
def sp__has_fitting_neighbours : Sp := fun vs H Q E => ∃ (p r l o : Addr) (s : Sd) (op : Int), vs = [.ref p, .int op] ∧ LinksAt K H p r l o s ∧ OkOp s op ∧ Any H (.bl (fitB s op)) Q
def sp_all_modes : Sp := fun vs H Q E => vs = [] ∧ ∀ (q x0 x1 x2 x3 : Addr) H', H q = none → H x0 = none → H x1 = none → H x2 = none → H x3 = none → Kp [] H H' → H' q = some (.lst [.ref x0, .ref x1, .ref x2, .ref x3]) → MdAt K H' x0 0 → MdAt K H' x1 1 → MdAt K H' x2 2 → MdAt K H' x3 3 → Q (.ref q) H'
/-- the text is no mode's name -/
def NoMd (m : Str) : Prop := ∀ c, c ≤ 3 → m ≠ mdN c
def BadM (m : Str) (E : XK) (H : Hp) : Prop := NoMd m → ∀ H', Kp [] H H' → Ex K "BadMode" [("name", .str m)] E H'
def sp_mode_named : Sp := fun vs H Q E => ∃ m : Str, vs = [.str m] ∧ (∀ c, c ≤ 3 → m = mdN c → ∀ x H', H x = none → Kp [] H H' → MdAt K H' x c → Q (.ref x) H') ∧ BadM K m E H
def sp_admits : Sp := fun vs H Q E => ∃ (p r l o : Addr) (s : Sd) (op : Int) (m : Str), vs = [.ref p, .int op, .str m] ∧ LinksAt K H p r l o s ∧
  (∀ c, c ≤ 3 → m = mdN c → (OkOp s op → Any H (.bl (decide (refS c s op = ""))) Q) ∧ (¬ OkOp s op → ∀ H', Kp [] H H' → OpE K s.n op 0 E H')) ∧ BadM K m E H
def admL (c : Nat) (s : Sd) : List Int := ((List.range s.n).map fun (v : Nat) => legO s (v + 1)).filter fun op => decide (refS c s op = "")
def sp_admitted : Sp := fun vs H Q E => ∃ (p r l o : Addr) (s : Sd) (m : Str), vs = [.ref p, .str m] ∧ LinksAt K H p r l o s ∧ (∀ c, c ≤ 3 → m = mdN c → NewL H ((admL c s).map V.int) Q) ∧ BadM K m E H
end
end G
set_option Elab.async false
set_option linter.all false
set_option maxRecDepth 100000
set_option maxHeartbeats 4000000
/-! k04: runs, outs, promises. -/
namespace G
open PySem PySem.Spec PyProof.Rows L2 TL
section
def sp04_Links_is_sound (K : PySem.W.Frag) : Sp := fun vs H Q E => ∃ (p r l o : Addr) (s : Sd), vs = [.ref p] ∧ LinksAt K H p r l o s ∧ Snd s ∧ Any H (.bl (sndB s.n s.R s.L s.O)) Q
end
end G
set_option Elab.async false
set_option linter.all false
set_option maxRecDepth 100000
set_option maxHeartbeats 4000000
/-! k13: what the modes keep: mathematics and promises. -/
namespace G
open PySem PySem.Spec PyProof.Rows L2
/-- two neighbours that are in -/
def Adj (s : Sd) (l h : Nat) : Prop := l < h ∧ h ≤ s.n + 1 ∧ gB s.O l = false ∧ gB s.O h = false ∧ ∀ u, l < u → u < h → gB s.O u = true
def SndP (s : Sd) : Prop := ∀ l h, Adj s l h → gI s.R l = (h : Int) ∧ gI s.L h = (l : Int)
/-- those that are in behind k -/
def presF (n : Nat) (O : List Bool) (k : Nat) : List Int := ((((List.range (n + 1)).drop k).map fun (v : Nat) => v + 1).filter fun v => !gB O v).map fun (v : Nat) => (v : Int)
theorem presF_0 (n : Nat) (O : List Bool) : presF n O 0 = inN n O := rfl
theorem presF_end (n : Nat) (O : List Bool) : presF n O (n + 1) = [] := by
  unfold presF
  rw [List.drop_of_length_le (by rw [List.length_range]; exact Nat.le_refl _)]
  rfl
theorem presF_step {n : Nat} {O : List Bool} {k : Nat} (h : k ≤ n) : presF n O k = (if gB O (k + 1) = true then [] else [((k + 1 : Nat) : Int)]) ++ presF n O (k + 1) := by
  unfold presF
  rw [List.drop_eq_getElem_cons (by rw [List.length_range]; omega), List.map_cons]
  have e : (List.range (n + 1))[k]'(by rw [List.length_range]; omega) = k := List.getElem_range _
  rw [e]
  by_cases c : gB O (k + 1) = true
  · rw [if_pos c, List.filter_cons_of_neg (by rw [c]; exact Bool.false_ne_true)] <;> rfl
  · rw [if_neg c, List.filter_cons_of_pos (by rw [Bool.not_eq_true _ |>.mp c]; rfl)] <;> rfl
theorem chk_adj {s : Sd} (d : Snd s) : ∀ (j k a : Nat), k + j = s.n + 1 → a ≤ k → gB s.O a = false → (∀ u, a < u → u ≤ k → gB s.O u = true) →
    (chk s.R s.L (a : Int) (presF s.n s.O k) = true ↔ ∀ l h, Adj s l h → a ≤ l → gI s.R l = (h : Int) ∧ gI s.L h = (l : Int))
  | 0, k, a, hj, ak, oa, hb => by
    obtain rfl : k = s.n + 1 := by omega
    rw [presF_end]
    refine ⟨fun _ l h ad al => ?_, fun _ => rfl⟩
    obtain ⟨h1, h2, h3, h4, _⟩ := ad
    have := hb h (by omega) (by omega)
    rw [h4] at this
    cases this
  | j + 1, k, a, hj, ak, oa, hb => by
    rw [presF_step (by omega)]
    cases c : gB s.O (k + 1) with
    | true =>
      rw [if_pos rfl, List.nil_append]
      exact chk_adj d j (k + 1) a (by omega) (by omega) oa fun u h1 h2 => by
        by_cases e : u = k + 1
        · rw [e]; exact c
        · exact hb u h1 (by omega)
    | false =>
      rw [if_neg Bool.false_ne_true]
      have ih := chk_adj d j (k + 1) (k + 1) (by omega) (Nat.le_refl _) c fun u h1 h2 => by omega
      show chk s.R s.L (a : Int) (((k + 1 : Nat) : Int) :: presF s.n s.O (k + 1)) = true ↔ _
      unfold chk
      rw [Bool.and_eq_true, Bool.and_eq_true, ih, decide_eq_true_iff, decide_eq_true_iff, Int.toNat_natCast, Int.toNat_natCast]
      have ada : Adj s a (k + 1) := ⟨by omega, by omega, oa, c, fun u h1 h2 => hb u h1 (by omega)⟩
      constructor
      · rintro ⟨⟨e1, e2⟩, e3⟩ l h ad al
        by_cases e : l = a
        · subst e
          obtain ⟨h1, h2, h3, h4, h5⟩ := ad
          have : h = k + 1 := by
            rcases Nat.lt_trichotomy h (k + 1) with z | z | z
            · have := hb h (by omega) (by omega)
              rw [h4] at this
              cases this
            · exact z
            · have := h5 (k + 1) (by omega) z
              rw [c] at this
              cases this
          subst this
          exact ⟨e1, e2⟩
        · refine e3 l h ad ?_
          apply Classical.byContradiction
          intro z
          have := hb l (by omega) (by omega)
          rw [ad.2.2.1] at this
          cases this
      · intro all
        exact ⟨all a (k + 1) ada (Nat.le_refl _), fun l h ad al => all l h ad (by omega)⟩
theorem snd_iff {s : Sd} (d : Snd s) : sndB s.n s.R s.L s.O = true ↔ SndP s := by
  unfold sndB
  rw [← presF_0]
  have := chk_adj d (s.n + 1) 0 0 (by omega) (Nat.le_refl _) d.o0 (fun u h1 h2 => by omega)
  rw [show ((0 : Nat) : Int) = 0 from rfl] at this
  rw [this]
  exact ⟨fun h l h' ad => h l h' ad (Nat.zero_le _), fun h l h' ad _ => h l h' ad⟩
theorem pred_ex {O : List Bool} (h0 : gB O 0 = false) : ∀ x : Nat, 0 < x → ∃ p, p < x ∧ gB O p = false ∧ ∀ u, p < u → u < x → gB O u = true
  | 1, _ => ⟨0, by omega, h0, fun u h1 h2 => by omega⟩
  | x + 2, _ => by
    cases c : gB O (x + 1) with
    | false => exact ⟨x + 1, by omega, c, fun u h1 h2 => by omega⟩
    | true =>
      obtain ⟨p, h1, h2, h3⟩ := pred_ex h0 (x + 1) (by omega)
      exact ⟨p, by omega, h2, fun u z1 z2 => by
        by_cases e : u = x + 1
        · rw [e]; exact c
        · exact h3 u z1 (by omega)⟩
theorem succ_ex {O : List Bool} {n : Nat} (h1 : gB O (n + 1) = false) : ∀ (j x : Nat), x + j = n → ∃ q, x < q ∧ q ≤ n + 1 ∧ gB O q = false ∧ ∀ u, x < u → u < q → gB O u = true
  | 0, x, hj => ⟨n + 1, by omega, Nat.le_refl _, h1, fun u z1 z2 => by omega⟩
  | j + 1, x, hj => by
    cases c : gB O (x + 1) with
    | false => exact ⟨x + 1, by omega, by omega, c, fun u z1 z2 => by omega⟩
    | true =>
      obtain ⟨q, a, b, c', e⟩ := succ_ex h1 j (x + 1) (by omega)
      exact ⟨q, by omega, b, c', fun u z1 z2 => by
        by_cases e' : u = x + 1
        · rw [e']; exact c
        · exact e u (by omega) z2⟩
theorem forW_nil {s : Sd} {x : Nat} (h1 : gI s.L x = (x : Int) - 1 ∨ gI s.R (gI s.L x).toNat ≠ gI s.L x + 1) (h2 : gI s.R x = (x : Int) + 1 ∨ gI s.L (gI s.R x).toNat ≠ gI s.R x - 1) : svB s x = false ∧ gdB s x = false := by
  have : forW s x = [] := by
    unfold forW
    rw [if_neg (fun z => by rcases h1 with y | y; exact z.1 y; exact y z.2), if_neg (fun z => by rcases h2 with y | y; exact z.1 y; exact y z.2)]
    rfl
  unfold svB gdB
  rw [this]
  exact ⟨rfl, rfl⟩
theorem ref3_nil {s : Sd} {op : Int} : refS 3 s op = "" ↔ svB s op.natAbs = false ∧ gdB s op.natAbs = false ∧ fitB s op = true := by
  rw [refS_3]
  by_cases c : refS 2 s op = ""
  · obtain ⟨a, b⟩ := ref2_nil.mp c
    rw [c, a, b]
    cases fitB s op <;> simp [ne_md.2.2]
  · rw [if_neg (fun z => c z.1)]
    constructor
    · intro z; exact absurd z c
    · rintro ⟨a, b, _⟩; exact ref2_nil.mpr ⟨a, b⟩
theorem snd_step {s : Sd} (w : Wf s) (d : Snd s) (so : SndP s) {op : Int} (ok : OkOp s op) : refS 3 s op = "" ↔ SndP (stepS s op) := by
  obtain ⟨io, io2⟩ := ok
  obtain ⟨x, hx⟩ : ∃ x : Nat, op.natAbs = x := ⟨_, rfl⟩
  have i1 := io.1
  have i2 := io.2
  rw [hx] at i1 i2 io2
  have st := fun v => step_gI w io v
  have ob := fun v => step_gB w io v
  rw [hx] at st ob
  obtain ⟨p, p1, p2, p3⟩ := pred_ex d.o0 x (by omega)
  obtain ⟨q, q1, q2, q3, q4⟩ := succ_ex d.o1 (s.n - x) x (by omega)
  have en : (stepS s op).n = s.n := rfl
  obtain ⟨rb1, rb2⟩ := w.rb x i2
  obtain ⟨lb1, lb2⟩ := w.lb x i1 (by omega)
  rw [ref3_nil, hx]
  unfold fitB
  rw [hx]
  by_cases un : op < 0
  · -- an unlink: x is in
    have ox : gB s.O x = false := by rw [io2, decide_eq_false (by omega)]
    obtain ⟨a1, a2⟩ := so p x ⟨p1, by omega, p2, ox, p3⟩
    obtain ⟨b1, b2⟩ := so x q ⟨q1, q2, ox, q3, q4⟩
    simp only [a2, b1, Int.toNat_natCast] at st
    obtain ⟨f1, f2⟩ := forW_nil (s := s) (x := x) (by rw [a2, Int.toNat_natCast, a1]; omega) (by rw [b1, Int.toNat_natCast, b2]; omega)
    refine ⟨fun _ => ?_, fun _ => ⟨f1, f2, ?_⟩⟩
    · intro l h ad
      obtain ⟨h1, h2, h3, h4, h5⟩ := ad
      rw [en] at h2
      rw [ob] at h3 h4
      have lx : l ≠ x := fun z => by rw [if_pos z, decide_eq_true un] at h3; cases h3
      have hx' : h ≠ x := fun z => by rw [if_pos z, decide_eq_true un] at h4; cases h4
      rw [if_neg lx] at h3
      rw [if_neg hx'] at h4
      rw [(st l).1, (st h).2]
      by_cases c : l < x ∧ x < h
      · have el : l = p := by
          rcases Nat.lt_trichotomy l p with z | z | z
          · have := h5 p z (by omega)
            rw [ob, if_neg (by omega), p2] at this
            cases this
          · exact z
          · have := p3 l z c.1
            rw [h3] at this
            cases this
        have eh : h = q := by
          rcases Nat.lt_trichotomy h q with z | z | z
          · have := q4 h c.2 z
            rw [h4] at this
            cases this
          · exact z
          · have := h5 q (by omega) z
            rw [ob, if_neg (by omega), q3] at this
            cases this
        rw [if_pos el, if_pos un, if_pos eh, if_pos un]
        omega
      · have ad' : Adj s l h := ⟨h1, h2, h3, h4, fun u u1 u2 => by
          have := h5 u u1 u2
          rw [ob] at this
          by_cases z : u = x
          · exfalso; omega
          · rwa [if_neg z] at this⟩
        obtain ⟨r1, r2⟩ := so l h ad'
        have lp : l ≠ p := fun z => by
          subst z
          rcases Nat.lt_trichotomy h x with y | y | y
          · have := p3 h h1 y
            rw [h4] at this
            cases this
          · exact hx' y
          · exact c ⟨p1, y⟩
        have hq : h ≠ q := fun z => by
          subst z
          rcases Nat.lt_trichotomy l x with y | y | y
          · exact c ⟨y, q1⟩
          · exact lx y
          · have := q4 l y h1
            rw [h3] at this
            cases this
        rw [if_neg lp, if_neg hq]
        exact ⟨r1, r2⟩
    · rw [if_pos un, a2, b1, Int.toNat_natCast, Int.toNat_natCast, p2, q3, a1, b2]
      simp
  · -- a relink: x is out
    have op0 : 0 < op := by omega
    have ox : gB s.O x = true := by rw [io2, decide_eq_true op0]
    have pq : Adj s p q := ⟨by omega, q2, p2, q3, fun u u1 u2 => by
      rcases Nat.lt_trichotomy u x with z | z | z
      · exact p3 u u1 z
      · rw [z]; exact ox
      · exact q4 u z u2⟩
    obtain ⟨c1, c2⟩ := so p q pq
    rw [if_neg un]
    have adj' : ∀ l h, Adj (stepS s op) l h → (l = p ∧ h = x) ∨ (l = x ∧ h = q) ∨ (l ≠ x ∧ h ≠ x ∧ Adj s l h ∧ l ≠ p ∧ h ≠ q) := by
      rintro l h ⟨h1, h2, h3, h4, h5⟩
      rw [en] at h2
      rw [ob] at h3 h4
      have outx : ∀ u, u ≠ x → gB (stepS s op).O u = gB s.O u := fun u hu => by rw [ob, if_neg hu]
      have inx : gB (stepS s op).O x = false := by rw [ob, if_pos rfl, decide_eq_false un]
      by_cases lx : l = x
      · subst lx
        refine .inr (.inl ⟨rfl, ?_⟩)
        rw [if_neg (by omega)] at h4
        rcases Nat.lt_trichotomy h q with z | z | z
        · have := q4 h h1 z
          rw [h4] at this
          cases this
        · exact z
        · have := h5 q q1 z
          rw [outx q (by omega), q3] at this
          cases this
      · rw [if_neg lx] at h3
        by_cases hx' : h = x
        · subst hx'
          refine .inl ⟨?_, rfl⟩
          rcases Nat.lt_trichotomy l p with z | z | z
          · have := h5 p z p1
            rw [outx p (by omega), p2] at this
            cases this
          · exact z
          · have := p3 l z h1
            rw [h3] at this
            cases this
        · rw [if_neg hx'] at h4
          have nx : ¬ (l < x ∧ x < h) := fun z => by
            have := h5 x z.1 z.2
            rw [inx] at this
            cases this
          refine .inr (.inr ⟨lx, hx', ⟨h1, h2, h3, h4, fun u u1 u2 => by
            have := h5 u u1 u2
            rwa [outx u (fun z => nx ⟨by omega, by omega⟩)] at this⟩, fun z => ?_, fun z => ?_⟩)
          · subst z
            rcases Nat.lt_trichotomy h x with y | y | y
            · have := p3 h h1 y
              rw [h4] at this
              cases this
            · exact hx' y
            · exact nx ⟨p1, y⟩
          · subst z
            rcases Nat.lt_trichotomy l x with y | y | y
            · exact nx ⟨y, q1⟩
            · exact lx y
            · have := q4 l y h1
              rw [h3] at this
              cases this
    constructor
    · rintro ⟨_, _, ft⟩
      rw [Bool.and_eq_true, Bool.and_eq_true, Bool.not_eq_true', Bool.or_eq_false_iff, decide_eq_true_iff, decide_eq_true_iff] at ft
      obtain ⟨⟨ol, _⟩, e1, e2⟩ := ft
      obtain ⟨l, el⟩ : ∃ l : Nat, gI s.L x = (l : Int) := ⟨(gI s.L x).toNat, by omega⟩
      obtain ⟨r, er⟩ : ∃ r : Nat, gI s.R x = (r : Int) := ⟨(gI s.R x).toNat, by omega⟩
      simp only [el, er, Int.toNat_natCast] at ol e1 e2 st
      have lp : l = p := by
        rcases Nat.lt_trichotomy l p with z | z | z
        · exfalso
          obtain ⟨q', y1, y2, y3, y4⟩ := succ_ex d.o1 (s.n - l) l (by omega)
          have y5 : q' ≤ p := Classical.byContradiction fun y => by
            have := y4 p z (by omega)
            rw [p2] at this
            cases this
          have := (so l q' ⟨y1, y2, ol, y3, y4⟩).1
          omega
        · exact z
        · have := p3 l z (by omega)
          rw [ol] at this
          cases this
      subst lp
      have rq : r = q := by omega
      subst rq
      intro l' h' ad
      have st1 := (st l').1
      have st2 := (st h').2
      rcases adj' l' h' ad with ⟨rfl, rfl⟩ | ⟨rfl, rfl⟩ | ⟨n1, n2, ad', n3, n4⟩
      · rw [st1, st2, if_pos rfl, if_neg un, if_neg (by omega)]
        exact ⟨rfl, el⟩
      · rw [st1, st2, if_neg (by omega), if_pos rfl, if_neg un]
        exact ⟨er, rfl⟩
      · rw [st1, st2, if_neg n3, if_neg n4]
        exact so _ _ ad'
    · intro so'
      have ix : gB (stepS s op).O x = false := by rw [ob, if_pos rfl, decide_eq_false un]
      have a1 := so' p x ⟨p1, by omega, by rw [ob, if_neg (by omega)]; exact p2, ix, fun u u1 u2 => by rw [ob, if_neg (by omega)]; exact p3 u u1 u2⟩
      have b1 := so' x q ⟨q1, q2, ix, by rw [ob, if_neg (by omega)]; exact q3, fun u u1 u2 => by rw [ob, if_neg (by omega)]; exact q4 u u1 u2⟩
      have sR := step_R w io
      have sL := step_L w io
      rw [hx] at sR sL
      rw [sL] at a1
      rw [sR] at b1
      have el := a1.2
      have er := b1.1
      obtain ⟨f1, f2⟩ := forW_nil (s := s) (x := x) (by rw [el, Int.toNat_natCast, c1]; omega) (by rw [er, Int.toNat_natCast, c2]; omega)
      refine ⟨f1, f2, ?_⟩
      rw [el, er, Int.toNat_natCast, Int.toNat_natCast, p2, q3, c1, c2]
      simp
/-! ### what each mode keeps -/
def RI : Nat → Sd → Prop
  | 0, _ => True
  | 1, s => lostL s = []
  | 2, s => FinP s
  | _, s => SndP s
def harmB : Nat → Sd → Bool
  | 0, _ => false
  | 1, s => !(lostL s).isEmpty
  | 2, s => !finB s
  | _, s => !sndB s.n s.R s.L s.O
theorem harm_ri {c : Nat} {s : Sd} (d : Snd s) : harmB c s = false ↔ RI c s := by
  match c with
  | 0 => exact ⟨fun _ => trivial, fun _ => rfl⟩
  | 1 =>
    show (!(lostL s).isEmpty) = false ↔ lostL s = []
    cases lostL s <;> simp
  | 2 =>
    show (!finB s) = false ↔ FinP s
    rw [← finB_iff]
    cases finB s <;> simp
  | c + 3 =>
    show (!sndB s.n s.R s.L s.O) = false ↔ SndP s
    rw [← snd_iff d]
    cases sndB s.n s.R s.L s.O <;> simp
theorem mode_step {c : Nat} (c3 : c ≤ 3) {s : Sd} (w : Wf s) (d : Snd s) (ri : RI c s) {op : Int} (ok : OkOp s op) : refS c s op = "" ↔ harmB c (stepS s op) = false := by
  rw [harm_ri (stepS_snd w d ok.1)]
  match c, c3, ri with
  | 0, _, _ => exact ⟨fun _ => trivial, fun _ => refS_0 _ _⟩
  | 1, _, ri =>
    have ri : lostL s = [] := ri
    show _ ↔ lostL (stepS s op) = []
    rw [refS_1]
    have sv := sv_new w ok.1
    cases e : svB s op.natAbs with
    | true =>
      rw [if_pos rfl]
      exact ⟨fun z => absurd z ne_md.1, fun z => absurd z (fin_lost w ok.1 e)⟩
    | false =>
      rw [if_neg Bool.false_ne_true]
      refine ⟨fun _ => lost_nil.mpr fun g hg z => ?_, fun _ => rfl⟩
      rw [e] at sv
      exact Bool.false_ne_true (sv.mp ⟨g, hg, lost_nil.mp ri g hg, z⟩)
  | 2, _, ri =>
    show _ ↔ FinP (stepS s op)
    constructor
    · intro z
      obtain ⟨a, b⟩ := ref2_nil.mp z
      exact fin_keep w ok ri a b
    · intro f
      apply Classical.byContradiction
      intro z
      exact fin_not w ok (ref2_bad.mp z) f
  | 3, _, ri => exact snd_step w d ri ok
theorem ri_whole {n : Nat} (hn : n ≤ 60) (c : Nat) : RI c (wholeS n) := by
  have f : FinP (wholeS n) := wh_fin fun g hg => by
    obtain ⟨a, b⟩ := whole_links (n := n) (u := g) hg
    exact ⟨a, b, gB_rep _ _⟩
  match c with
  | 0 => trivial
  | 1 => exact f.1
  | 2 => exact f
  | c + 3 =>
    intro l h ad
    obtain ⟨h1, h2, _, _, h5⟩ := ad
    have h2 : h ≤ n + 1 := h2
    have e : h = l + 1 := by
      apply Classical.byContradiction
      intro z
      have := h5 (l + 1) (by omega) (by omega)
      have x : gB (wholeS n).O (l + 1) = false := gB_rep _ _
      rw [x] at this
      cases this
    subst e
    obtain ⟨a, b⟩ := whole_links (n := n) (u := l) (by omega)
    rw [a, b]
    omega
theorem wholeB_fin {s : Sd} (h : wholeB s = true) : FinP s := by
  obtain ⟨_, j1, j2, _⟩ := ne_w4
  refine fin_iff.mpr ⟨fun g hg z => ?_, fun v h1 h2 z => ?_⟩
  · rw [whB_joined h hg] at z
    exact ne_w4.1 z
  · rcases sole_iff.mp z with y | y
    · rw [whB_joined h h2] at y
      exact absurd y j1
    · rw [whB_joined h (by omega)] at y
      exact absurd y j2
/-- relinks alone do not mend what relinks alone cannot finish -/
theorem nofin_rel {s : Sd} (w : Wf s) {v : Nat} (h1 : 1 ≤ v) (h2 : v ≤ s.n) (ho : gB s.O v = true) (nf : ¬ FinP s) : ¬ FinP (stepS s (v : Int)) := fun f => nf (bad_step w h1 h2 ho f)
theorem harm_nofin {c : Nat} {s : Sd} (c0 : c = 1 ∨ c = 2) (h : harmB c s = true) : ¬ FinP s := by
  rcases c0 with rfl | rfl
  · intro f
    have h : (!(lostL s).isEmpty) = true := h
    rw [f.1] at h
    cases h
  · intro f
    have h : (!finB s) = true := h
    rw [finB_iff.mpr f] at h
    cases h
theorem whole_outs {c : Nat} {s : Sd} (w : Wf s) (d : Snd s) (c2 : c = 2 ∨ c = 3) (ri : RI c s) : wholeB s = decide (outN s.n s.O = []) := by
  rw [Bool.eq_iff_iff, decide_eq_true_iff]
  constructor
  · intro h
    refine List.eq_nil_iff_forall_not_mem.mpr fun i hi => ?_
    obtain ⟨_, _, z⟩ := mem_outs.mp hi
    unfold wholeB at h
    rw [Bool.and_eq_true, Bool.and_eq_true, decide_eq_true_iff, decide_eq_true_iff, decide_eq_true_iff] at h
    rw [h.2.2] at z
    have : gB (wholeS s.n).O i.toNat = false := gB_rep _ _
    rw [this] at z
    cases z
  · intro h
    have al : ∀ v, 1 ≤ v → v ≤ s.n → gB s.O v = false := fun v h1 h2 => by
      cases c : gB s.O v with
      | false => rfl
      | true =>
        have : (v : Int) ∈ outN s.n s.O := mem_outs.mpr ⟨by omega, by omega, by rw [Int.toNat_natCast]; exact c⟩
        rw [h] at this
        cases this
    have all : ∀ v, gB s.O v = false := fun v => by
      by_cases a : v = 0
      · rw [a]; exact d.o0
      · by_cases b : v ≤ s.n
        · exact al v (by omega) b
        · by_cases e : v = s.n + 1
          · rw [e]; exact d.o1
          · unfold gB
            rw [List.getD_eq_getElem?_getD, List.getElem?_eq_none (by rw [w.lO]; omega)] <;> rfl
    refine joined_whB w d (fun g hg => ?_) all
    rcases c2 with rfl | rfl
    · obtain ⟨f1, f2⟩ := fin_iff.mp ri
      rcases st_four4 s g with y | y | y | y
      · exact y
      · exfalso
        by_cases g0 : g = 0
        · subst g0
          obtain ⟨y1, y2⟩ := stT_left.mp y
          have p := fin_wh w d ri al
          exact y2 (p 0 (by omega)).2.1
        · have := f2 g (by omega) hg (sole_iff.mpr (.inl y))
          rw [all] at this
          cases this
      · exfalso
        by_cases g0 : g = s.n
        · subst g0
          obtain ⟨y1, y2⟩ := stT_right.mp y
          have p := fin_wh w d ri al
          exact y1 (p s.n (by omega)).1
        · have := f2 (g + 1) (by omega) (by omega) (sole_iff.mpr (.inr y))
          rw [all] at this
          cases this
      · exact absurd y (f1 g hg)
    · have := ri g (g + 1) ⟨by omega, by omega, all _, all _, fun u h1 h2 => by omega⟩
      exact stT_joined.mpr ⟨this.1, this.2⟩
theorem dump_whole {s : Sd} (w : Wf s) (d : Snd s) : decide (dumpS s = dumpS (wholeS s.n)) = wholeB s := by
  rw [Bool.eq_iff_iff, decide_eq_true_iff]
  constructor
  · intro e
    have := dump_inj w d (Wf.whole w.n60) (wholeS_snd _) e
    unfold wholeB
    rw [Bool.and_eq_true, Bool.and_eq_true, decide_eq_true_iff, decide_eq_true_iff, decide_eq_true_iff]
    exact ⟨congrArg Sd.R this, congrArg Sd.L this, congrArg Sd.O this⟩
  · intro h
    unfold wholeB at h
    rw [Bool.and_eq_true, Bool.and_eq_true, decide_eq_true_iff, decide_eq_true_iff, decide_eq_true_iff] at h
    obtain ⟨h1, h2, h3⟩ := h
    unfold dumpS
    rw [h1, h2, h3]
    rfl
/-! ### promises -/
/-- the law's purse of draws -/
structure Pu (H : Hp) (b c : Addr) : Prop where
  ob : ∃ (x y z : Int) (ns : List Int), H b = some (.lst [.ref c, .int x, .int y, .int z]) ∧ H c = some (.lst (ns.map V.int)) ∧ ns.length ≤ 63
theorem Pu.kp {H H' : Hp} {b c : Addr} {S : List Addr} (a : Pu H b c) (k : Kp S H H') (h1 : b ∉ S) (h2 : c ∉ S) : Pu H' b c := by
  obtain ⟨x, y, z, ns, e1, e2, e3⟩ := a.ob
  exact ⟨x, y, z, ns, k _ _ h1 e1, k _ _ h2 e2, e3⟩
theorem Pu.k0 {H H' : Hp} {b c : Addr} (a : Pu H b c) (k : Kp [] H H') : Pu H' b c := a.kp k (by simp) (by simp)
theorem Pu.fr {H : Hp} {b c x : Addr} (a : Pu H b c) (n : H x = none) : x ≠ b ∧ x ≠ c := by
  obtain ⟨_, _, _, ns, h1, h2, _⟩ := a.ob
  exact ⟨(ne_of_none h1 n).symm, (ne_of_none h2 n).symm⟩
theorem Pu.ne {H : Hp} {b c : Addr} (a : Pu H b c) : b ≠ c := by
  obtain ⟨_, _, _, ns, h1, h2, _⟩ := a.ob
  rintro rfl
  rw [h1] at h2
  injection h2 with h2
  injection h2 with h2
  match ns, h2 with
  | u :: _, h2 => injection h2 with h2; cases h2
/-- a new book -/
def NewB (H : Hp) (s : Sd) (Q : VK) : Prop := ∀ w l r o H', H w = none → H l = none → H r = none → H o = none → Kp [] H H' → Bk5 H' w l r o s → Q (.ref w) H'
section
def sp13__law_purse (K : PySem.W.Frag) : Sp := fun vs H Q E => ∃ (a : Addr) (ns : List Int), vs = [.ref a] ∧ SqL K H a (ns.map V.int) ∧ ns.length ≤ 63 ∧ ∀ b c H', H b = none → H c = none → Kp [] H H' → Pu H' b c → Q (.ref b) H'
def sp13__law_take (K : PySem.W.Frag) : Sp := fun vs H Q E => ∃ (b c : Addr) (many : Int), vs = [.ref b, .int many] ∧ 0 < many ∧ many < 2 ^ 30 ∧ Pu H b c ∧ ∀ (d : Int) H', 0 ≤ d → d < many → Kp [b, c] H H' → Pu H' b c → Q (.int d) H'
def sp13__law_words (K : PySem.W.Frag) : Sp := fun vs H Q E => vs = [] ∧ NewL H [.str (mdN 0), .str (mdN 1), .str (mdN 2), .str (mdN 3)] Q
def sp13__law_is (K : PySem.W.Frag) : Sp := fun vs H Q E => ∃ i : Int, vs = [.int i, .int i] ∧ Q (.bl true) H
def sp13__law_ints (K : PySem.W.Frag) : Sp := fun vs H Q E => ∃ (a b : Addr) (xs : List Int), vs = [.ref a, .ref b] ∧ xs.length ≤ 1000 ∧ H a = some (.lst (xs.map V.int)) ∧ H b = some (.lst (xs.map V.int)) ∧ Q (.bl true) H
def sp13__law_truth (K : PySem.W.Frag) : Sp := fun vs H Q E => ∃ k : Bool, vs = [.bl k, .bl k] ∧ Q (.bl true) H
def sp13__law_whole (K : PySem.W.Frag) : Sp := fun vs H Q E => ∃ n : Nat, vs = [.int (n : Int)] ∧ n ≤ 60 ∧ NewB H (wholeS n) Q
def sp13__law_moved (K : PySem.W.Frag) : Sp := fun vs H Q E => ∃ (w l r o : Addr) (s : Sd) (v : Nat), vs = [.ref w, .int (v : Int)] ∧ Bk5 H w l r o s ∧ 1 ≤ v ∧ v ≤ s.n ∧ NewB H (stepS s (legO s v)) Q
def sp13__law_dump (K : PySem.W.Frag) : Sp := fun vs H Q E => ∃ (w l r o : Addr) (s : Sd), vs = [.ref w] ∧ Bk5 H w l r o s ∧ Any H (.str (dumpS s)) Q
def sp13__law_holders (K : PySem.W.Frag) : Sp := fun vs H Q E => ∃ (w l r o : Addr) (s : Sd), vs = [.ref w] ∧ Bk5 H w l r o s ∧ NewL H ((aloneL s).map V.int) Q
def sp13__law_sound (K : PySem.W.Frag) : Sp := fun vs H Q E => ∃ (w l r o : Addr) (s : Sd), vs = [.ref w] ∧ Bk5 H w l r o s ∧ Snd s ∧ Q (.bl (sndB s.n s.R s.L s.O)) H
def sp13__law_harmed (K : PySem.W.Frag) : Sp := fun vs H Q E => ∃ (w l r o : Addr) (s : Sd) (c : Nat), vs = [.ref w, .str (mdN c)] ∧ c ≤ 3 ∧ Bk5 H w l r o s ∧ Snd s ∧ Any H (.bl (harmB c s)) Q
def goodL (c : Nat) (s : Sd) (ns : List Int) : List Int := ns.filter fun v => !harmB c (stepS s (legO s v.toNat))
def sp13__law_good (K : PySem.W.Frag) : Sp := fun vs H Q E => ∃ (w l r o a : Addr) (s : Sd) (c : Nat) (ns : List Int), vs = [.ref w, .str (mdN c), .ref a] ∧ c ≤ 3 ∧ Bk5 H w l r o s ∧ Snd s ∧ H a = some (.lst (ns.map V.int)) ∧ ns.length ≤ 60 ∧ (∀ x ∈ ns, 1 ≤ x ∧ x ≤ s.n) ∧ NewL H ((goodL c s ns).map V.int) Q
def sp13__law_judged (K : PySem.W.Frag) : Sp := fun vs H Q E => ∃ (w l r o p pr pl po : Addr) (s : Sd), vs = [.ref w, .ref p] ∧ Bk5 H w l r o s ∧ LinksAt K H p pr pl po s ∧ Snd s ∧ Any H (.bl true) Q
def sp13__law_moment (K : PySem.W.Frag) : Sp := fun vs H Q E => ∃ (w l r o p pr pl po a : Addr) (s : Sd) (c : Nat) (ns : List Int), vs = [.ref w, .ref p, .str (mdN c), .ref a] ∧ c ≤ 3 ∧ Bk5 H w l r o s ∧ LinksAt K H p pr pl po s ∧ Snd s ∧ RI c s ∧ H a = some (.lst (ns.map V.int)) ∧ ns.length ≤ 60 ∧ (∀ x ∈ ns, 1 ≤ x ∧ x ≤ s.n) ∧
  (s.n ≤ 6 → ns = (List.range s.n).map fun (i : Nat) => ((i + 1 : Nat) : Int)) ∧ Any H (.bl true) Q
def sp13__law_worse (K : PySem.W.Frag) : Sp := fun vs H Q E => ∃ (b d w l r o p pr pl po : Addr) (s : Sd) (c v : Nat), vs = [.ref b, .ref w, .ref p, .int (v : Int), .str (mdN c)] ∧ c ≤ 3 ∧ Pu H b d ∧ Bk5 H w l r o s ∧ LinksAt K H p pr pl po s ∧ Snd s ∧ 1 ≤ v ∧ v ≤ s.n ∧ harmB c (stepS s (legO s v)) = true ∧
  Dj [w, l, r, o, p, pr, pl, po] [b, d] ∧ ∀ H', Kp [b, d] H H' → Pu H' b d → Q (.bl true) H'
def sp13__law_finish (K : PySem.W.Frag) : Sp := fun vs H Q E => ∃ (b d w l r o p pr pl po : Addr) (s : Sd) (c : Nat), vs = [.ref b, .ref w, .ref p, .str (mdN c)] ∧ (c = 2 ∨ c = 3) ∧ Pu H b d ∧ Bk5 H w l r o s ∧ LinksAt K H p pr pl po s ∧ Snd s ∧ RI c s ∧
  Dj [w, l, r, o] [b, d, p, pr, pl, po] ∧ Dj [p, pr, pl, po] [b, d] ∧ ∀ H', Kp [b, d, pr, pl, po] H H' → Pu H' b d → Q (.bl true) H'
def sp13__law_path (K : PySem.W.Frag) : Sp := fun vs H Q E => ∃ (b c : Addr) (m : Int), vs = [.ref b, .int m] ∧ Pu H b c ∧ ∀ (ps : List Int) q H', H q = none → Kp [b, c] H H' → Pu H' b c → H' q = some (.lst (ps.map V.int)) → ps.length ≤ 8 → Q (.ref q) H'
def sp13__law_run (K : PySem.W.Frag) : Sp := fun vs H Q E => ∃ (b d : Addr) (c : Nat), vs = [.ref b, .str (mdN c)] ∧ c ≤ 3 ∧ Pu H b d ∧ ∀ H', Kp [b, d] H H' → Pu H' b d → Q (.bl true) H'
end
end G
set_option Elab.async false
set_option linter.all false
set_option maxRecDepth 100000
set_option maxHeartbeats 4000000
namespace G
open PySem PySem.Spec PyProof.Rows L2
abbrev L_refusal (K : PySem.W.Frag) : List (Addr × Sp) := [(He.ga K "FreeMode", sp_FreeMode_refusal K), (He.ga K "SavingMode", sp_SavingMode_refusal K), (He.ga K "GuardedMode", sp_GuardedMode_refusal K), (He.ga K "CheckedMode", sp_CheckedMode_refusal K)]
def t__law_purse (K : PySem.W.Frag) (E : XK) : TS :=
  tSeq (tAsg (tLc (iList K (tSl (rSlL K) (tVar 0) (tNoPart) (tPart (tC (.int 63))))) (gName 3) (tTest (tOp rGeA (tCB rAbsA (tCons (tVar 3) (tNil))) (tOp rPowA (tC (.int 10)) (tC (.int 18))))) (tCB rAbsA (tCons (tVar 3) (tNil))) [3]) (gName 1)) (tSeq (tAsg (tC (.int 122)) (gName 2)) (tSeq (tFor (iList K (tSl (rSlL K) (tVar 0) (tNoPart) (tPart (tC (.int 63))))) (gName 3) (tAsg (tOp rModA (tCB rIntA (tCons (tOp rAddA (tOp rAddA (tOp rMulA (tVar 2) (tC (.int 8191))) (tOp rModA (tCB rIntA (tCons (tVar 3) (tNil))) (tC (.int 2147483629)))) (tC (.int 3))) (tNil))) (tC (.int 2147483647))) (gName 2))) (tRet (tLst (tCons (tVar 1) (tCons (tVar 2) (tCons (tC (.int 1)) (tCons (tC (.int 0)) (tNil)))))))))
def t_check_size (K : PySem.W.Frag) (E : XK) : TS :=
  tIfS (tNot (tTest (tChain rLeA rLeA (tC (.int 0)) (tVar 0) (tC (.int 60))))) (tRz (He.ga K "BadSize") ["size"] (fun cls d _ H => E cls d H) (tCons (tVar 0) (tNil))) (tNext)
def t_Links___init__ (K : PySem.W.Frag) (E : XK) : TS :=
  tSeq (tDrop (tCl (sp_check_size K) (fun _ => E) (tCons (tVar 1) (tNil)))) (tSeq (sFld K (tVar 0) (tVar 1) "size") (tSeq (sFld K (tVar 0) (tLstRg (tRg2 (tC (.int 1)) (tOp rAddA (tVar 1) (tC (.int 2))))) "_rights") (tSeq (sFld K (tVar 0) (tOp rAddA (tLst (tCons (tC (.int 0)) (tNil))) (tLstRg (tRg1 (tOp rAddA (tVar 1) (tC (.int 1)))))) "_lefts") (sFld K (tVar 0) (tOp rMulA (tLst (tCons (tC (.bl false)) (tNil))) (tOp rAddA (tVar 1) (tC (.int 2)))) "_out"))))
def t_Links_is_legal (K : PySem.W.Frag) (E : XK) : TS :=
  tRet (tOp (rEqA K) (tOp (rIx K) (tFld K (tVar 0) "_out") (tCB rAbsA (tCons (tVar 1) (tNil)))) (tOp rGtA (tVar 1) (tC (.int 0))))
def t_check_operation (K : PySem.W.Frag) (E : XK) : TS :=
  tIfS (tNot (tTest (tChain rLeA rLeA (tC (.int 1)) (tCB rAbsA (tCons (tVar 1) (tNil))) (tVar 0)))) (tRz (He.ga K "BadOperation") ["operation", "index"] (fun cls d _ H => E cls d H) (tCons (tVar 1) (tCons (tVar 2) (tNil)))) (tNext)
def t_Links_check (K : PySem.W.Frag) (E : XK) : TS :=
  tSeq (tDrop (tCl (sp_check_operation K) (fun _ => E) (tCons (tFld K (tVar 0) "size") (tCons (tVar 1) (tCons (tVar 2) (tNil)))))) (tIfS (tNot (tB (tMt (He.ga K "Links") "is_legal" (sp_Links_is_legal K) (fun _ => E) (tVar 0) (tCons (tVar 1) (tNil))))) (tRz (He.ga K "Illegal") ["operation", "index"] (fun cls d _ H => E cls d H) (tCons (tVar 1) (tCons (tVar 2) (tNil)))) (tNext))
def t_Links_apply_at (K : PySem.W.Frag) (E : XK) : TS :=
  tSeq (tDrop (tMt (He.ga K "Links") "check" (sp_Links_check K) (fun _ => E) (tVar 0) (tCons (tVar 1) (tCons (tVar 2) (tNil))))) (tSeq (tAsg (tCB rAbsA (tCons (tVar 1) (tNil))) (gName 3)) (tSeq (tAsg (tOp (rIx K) (tFld K (tVar 0) "_lefts") (tVar 3)) (gName 4)) (tSeq (tAsg (tOp (rIx K) (tFld K (tVar 0) "_rights") (tVar 3)) (gName 5)) (tSeq (tAsg (tOp rLtA (tVar 1) (tC (.int 0))) (gName 6)) (tSeq (tAsg (tIf (tB (tVar 6)) (tVar 5) (tVar 3)) (gSub (tFld K (tVar 0) "_rights") (tVar 4) rSetL)) (tSeq (tAsg (tIf (tB (tVar 6)) (tVar 4) (tVar 3)) (gSub (tFld K (tVar 0) "_lefts") (tVar 5) rSetL)) (tAsg (tVar 6) (gSub (tFld K (tVar 0) "_out") (tVar 3) rSetL))))))))
def t_Links_apply (K : PySem.W.Frag) (E : XK) : TS :=
  tDrop (tMt (He.ga K "Links") "apply_at" (sp_Links_apply_at K) (fun _ => E) (tVar 0) (tCons (tVar 1) (tCons (tC (.int 0)) (tNil))))
def t_Links___eq__ (K : PySem.W.Frag) (E : XK) : TS :=
  tRet (tAndV (tCB (rIsi K) (tCons (tVar 1) (tCons (tC (.ref (He.ga K "Links"))) (tNil)))) (tAndV (tOp (rEqA K) (tFld K (tVar 0) "_rights") (tFld K (tVar 1) "_rights")) (tAndV (tOp (rEqA K) (tFld K (tVar 0) "_lefts") (tFld K (tVar 1) "_lefts")) (tOp (rEqA K) (tFld K (tVar 0) "_out") (tFld K (tVar 1) "_out")))))
def t_Links_is_whole (K : PySem.W.Frag) (E : XK) : TS :=
  tRet (tOp (rEqO K (He.ga K "Links") (sp23_Links___eq__ K) E) (tVar 0) (tMk (He.ga K "Links") (sp_Links___init__ K) (fun _ => E) (tCons (tFld K (tVar 0) "size") (tNil))))
def t__law_holders (K : PySem.W.Frag) (E : XK) : TS :=
  tSeq (tAsg (tLst (tNil)) (gName 1)) (tSeq (tFor (iRng2 (tCons (tC (.int 1)) (tCons (tOp rAddA (tOp (rIx K) (tVar 0) (tC (.int 0))) (tC (.int 1))) (tNil)))) (gName 2) (tSeq (tAsg (tAndV (tOp (rEqA K) (tOp (rIx K) (tOp (rIx K) (tVar 0) (tC (.int 1))) (tVar 2)) (tOp rSubA (tVar 2) (tC (.int 1)))) (tOp (rNeA K) (tOp (rIx K) (tOp (rIx K) (tVar 0) (tC (.int 2))) (tOp rSubA (tVar 2) (tC (.int 1)))) (tVar 2))) (gName 3)) (tSeq (tAsg (tAndV (tOp (rEqA K) (tOp (rIx K) (tOp (rIx K) (tVar 0) (tC (.int 2))) (tVar 2)) (tOp rAddA (tVar 2) (tC (.int 1)))) (tOp (rNeA K) (tOp (rIx K) (tOp (rIx K) (tVar 0) (tC (.int 1))) (tOp rAddA (tVar 2) (tC (.int 1)))) (tVar 2))) (gName 4)) (tIfS (tOr (tB (tVar 3)) (tB (tVar 4))) (tDrop (tBM K "list" rAppend (tVar 1) (tCons (tVar 2) (tNil)))) (tNext))))) (tRet (tVar 1)))
def t__law_lost (K : PySem.W.Frag) (E : XK) : TS :=
  tRet (tLc (iRng1 (tCons (tOp rAddA (tOp (rIx K) (tVar 0) (tC (.int 0))) (tC (.int 1))) (tNil))) (gName 1) (tAnd (tTest (tOp (rNeA K) (tOp (rIx K) (tOp (rIx K) (tVar 0) (tC (.int 2))) (tVar 1)) (tOp rAddA (tVar 1) (tC (.int 1))))) (tTest (tOp (rNeA K) (tOp (rIx K) (tOp (rIx K) (tVar 0) (tC (.int 1))) (tOp rAddA (tVar 1) (tC (.int 1)))) (tVar 1)))) (tVar 1) [1])
def t__law_sound (K : PySem.W.Frag) (E : XK) : TS :=
  tSeq (tAsg (tC (.int 0)) (gName 1)) (tSeq (tFor (iRng2 (tCons (tC (.int 1)) (tCons (tOp rAddA (tOp (rIx K) (tVar 0) (tC (.int 0))) (tC (.int 2))) (tNil)))) (gName 2) (tIfS (tNot (tB (tOp (rIx K) (tOp (rIx K) (tVar 0) (tC (.int 3))) (tVar 2)))) (tSeq (tIfS (tOr (tTest (tOp (rNeA K) (tOp (rIx K) (tOp (rIx K) (tVar 0) (tC (.int 2))) (tVar 1)) (tVar 2))) (tTest (tOp (rNeA K) (tOp (rIx K) (tOp (rIx K) (tVar 0) (tC (.int 1))) (tVar 2)) (tVar 1)))) (tRet (tC (.bl false))) (tNext)) (tAsg (tVar 2) (gName 1))) (tNext))) (tRet (tC (.bl true))))
def t__law_harmed (K : PySem.W.Frag) (E : XK) : TS :=
  tSeq (tIfS (tTest (tOp (rEqA K) (tVar 1) (tC (.str "free")))) (tRet (tC (.bl false))) (tNext)) (tSeq (tIfS (tTest (tOp (rEqA K) (tVar 1) (tC (.str "checked")))) (tRet (tNotV (tCl (sp13__law_sound K) (fun _ => E) (tCons (tVar 0) (tNil))))) (tNext)) (tSeq (tIfS (tTr K (tCl (sp16__law_lost K) (fun _ => E) (tCons (tVar 0) (tNil)))) (tRet (tC (.bl true))) (tNext)) (tRet (tAndV (tOp (rEqA K) (tVar 1) (tC (.str "guarded"))) (tOp (rNeA K) (tLc (iList K (tCl (sp13__law_holders K) (fun _ => E) (tCons (tVar 0) (tNil)))) (gName 2) (tNot (tB (tOp (rIx K) (tOp (rIx K) (tVar 0) (tC (.int 3))) (tVar 2)))) (tVar 2) [2]) (tLst (tNil)))))))
def t__law_moved (K : PySem.W.Frag) (E : XK) : TS :=
  tSeq (tAsg (tCB (rListA K) (tCons (tOp (rIx K) (tVar 0) (tC (.int 1))) (tNil))) (gName 2)) (tSeq (tAsg (tCB (rListA K) (tCons (tOp (rIx K) (tVar 0) (tC (.int 2))) (tNil))) (gName 3)) (tSeq (tAsg (tCB (rListA K) (tCons (tOp (rIx K) (tVar 0) (tC (.int 3))) (tNil))) (gName 4)) (tSeq (tAsg (tOp (rIx K) (tVar 2) (tVar 1)) (gName 5)) (tSeq (tAsg (tOp (rIx K) (tVar 3) (tVar 1)) (gName 6)) (tSeq (tIfS (tB (tOp (rIx K) (tVar 4) (tVar 1))) (tSeq (tAsg (tVar 1) (gSub (tVar 3) (tVar 5) rSetL)) (tAsg (tVar 1) (gSub (tVar 2) (tVar 6) rSetL))) (tSeq (tAsg (tVar 6) (gSub (tVar 3) (tVar 5) rSetL)) (tAsg (tVar 5) (gSub (tVar 2) (tVar 6) rSetL)))) (tSeq (tAsg (tNotV (tOp (rIx K) (tVar 4) (tVar 1))) (gSub (tVar 4) (tVar 1) rSetL)) (tRet (tLst (tCons (tOp (rIx K) (tVar 0) (tC (.int 0))) (tCons (tVar 2) (tCons (tVar 3) (tCons (tVar 4) (tNil)))))))))))))
def t__law_good (K : PySem.W.Frag) (E : XK) : TS :=
  tRet (tLc (iList K (tVar 2)) (gName 3) (tNot (tB (tCl (sp13__law_harmed K) (fun _ => E0) (tCons (tCl (sp13__law_moved K) (fun _ => E0) (tCons (tVar 0) (tCons (tVar 3) (tNil)))) (tCons (tVar 1) (tNil)))))) (tVar 3) [3])
def t_Links_outs (K : PySem.W.Frag) (E : XK) : TS :=
  tRet (tLc (iRng2 (tCons (tC (.int 1)) (tCons (tOp rAddA (tFld K (tVar 0) "size") (tC (.int 1))) (tNil)))) (gName 1) (tB (tOp (rIx K) (tFld K (tVar 0) "_out") (tVar 1))) (tVar 1) [1])
def t__joined (K : PySem.W.Frag) (E : XK) : TS :=
  tRet (tM1 (rJoin K) (tC (.str " ")) (tLc (iList K (tVar 0)) (gName 1) (tYes) (tCB rStrA (tCons (tVar 1) (tNil))) [1]))
def t_dump_of (K : PySem.W.Frag) (E : XK) : TS :=
  tRet (tM1 (rJoin K) (tC (.str " | ")) (tLst (tCons (tCl (sp__joined K) (fun _ => E) (tCons (tVar 0) (tNil))) (tCons (tCl (sp__joined K) (fun _ => E) (tCons (tVar 1) (tNil))) (tCons (tIf (tTr K (tVar 2)) (tCl (sp__joined K) (fun _ => E) (tCons (tVar 2) (tNil))) (tC (.str "none"))) (tNil))))))
def t_Links_dump (K : PySem.W.Frag) (E : XK) : TS :=
  tRet (tCl (sp_dump_of K) (fun _ => E) (tCons (tFld K (tVar 0) "_rights") (tCons (tSl (rSlL K) (tFld K (tVar 0) "_lefts") (tPart (tC (.int 1))) (tNoPart)) (tCons (tMt (He.ga K "Links") "outs" (sp_Links_outs K) (fun _ => E) (tVar 0) tNil) (tNil)))))
def t_Links_is_sound (K : PySem.W.Frag) (E : XK) : TS :=
  tSeq (tAsg (tLc (iRng1 (tCons (tOp rAddA (tFld K (tVar 0) "size") (tC (.int 2))) (tNil))) (gName 2) (tNot (tB (tOp (rIx K) (tFld K (tVar 0) "_out") (tVar 2)))) (tVar 2) [2]) (gName 1)) (tRet (tCB (rAll K) (tCons (tLc (iZip K (tCons (tVar 1) (tCons (tSl (rSlL K) (tVar 1) (tPart (tC (.int 1))) (tNoPart)) (tNil)))) (gTup K 2 (gCons (gName 3) (gCons (gName 4) (gNil)))) (tYes) (tAndV (tOp (rEqA K) (tOp (rIx K) (tFld K (tVar 0) "_rights") (tVar 3)) (tVar 4)) (tOp (rEqA K) (tOp (rIx K) (tFld K (tVar 0) "_lefts") (tVar 4)) (tVar 3))) [3, 4]) (tNil))))
def t__law_dump (K : PySem.W.Frag) (E : XK) : TS :=
  tSeq (tAsg (tOp (rIx K) (tVar 0) (tC (.int 0))) (gName 1)) (tSeq (tAsg (tM1 (rJoin K) (tC (.str " ")) (tLc (iList K (tSl (rSlL K) (tOp (rIx K) (tVar 0) (tC (.int 2))) (tNoPart) (tPart (tOp rAddA (tVar 1) (tC (.int 1)))))) (gName 6) (tYes) (tCB rStrA (tCons (tVar 6) (tNil))) [6])) (gName 2)) (tSeq (tAsg (tM1 (rJoin K) (tC (.str " ")) (tLc (iList K (tSl (rSlL K) (tOp (rIx K) (tVar 0) (tC (.int 1))) (tPart (tC (.int 1))) (tNoPart))) (gName 6) (tYes) (tCB rStrA (tCons (tVar 6) (tNil))) [6])) (gName 3)) (tSeq (tAsg (tLc (iRng2 (tCons (tC (.int 1)) (tCons (tOp rAddA (tVar 1) (tC (.int 1))) (tNil)))) (gName 7) (tB (tOp (rIx K) (tOp (rIx K) (tVar 0) (tC (.int 3))) (tVar 7))) (tCB rStrA (tCons (tVar 7) (tNil))) [7]) (gName 4)) (tSeq (tAsg (tC (.str "none")) (gName 5)) (tSeq (tIfS (tTr K (tVar 4)) (tAsg (tM1 (rJoin K) (tC (.str " ")) (tVar 4)) (gName 5)) (tNext)) (tRet (tOp rAddA (tOp rAddA (tOp rAddA (tOp rAddA (tVar 2) (tC (.str " | "))) (tVar 3)) (tC (.str " | "))) (tVar 5))))))))
def t__law_is (K : PySem.W.Frag) (E : XK) : TS :=
  tRet (tAndV (tCB (rIsi K) (tCons (tVar 0) (tCons (tC (.ty "int")) (tNil)))) (tAndV (tNotV (tCB (rIsi K) (tCons (tVar 0) (tCons (tC (.ty "bool")) (tNil))))) (tOp (rEqA K) (tVar 0) (tVar 1))))
def t__law_ints (K : PySem.W.Frag) (E : XK) : TS :=
  tSeq (tIfS (tOr (tNot (tB (tCB (rIsi K) (tCons (tVar 0) (tCons (tC (.ty "list")) (tNil)))))) (tTest (tOp (rNeA K) (tCB (rLenA K) (tCons (tVar 0) (tNil))) (tCB (rLenA K) (tCons (tVar 1) (tNil)))))) (tRet (tC (.bl false))) (tNext)) (tSeq (tFor (iRng1 (tCons (tCB (rLenA K) (tCons (tVar 1) (tNil))) (tNil))) (gName 2) (tIfS (tNot (tB (tCl (sp13__law_is K) (fun _ => E) (tCons (tOp (rIx K) (tVar 0) (tVar 2)) (tCons (tOp (rIx K) (tVar 1) (tVar 2)) (tNil)))))) (tRet (tC (.bl false))) (tNext))) (tRet (tC (.bl true))))
def t__law_truth (K : PySem.W.Frag) (E : XK) : TS :=
  tSeq (tIfS (tB (tVar 1)) (tRet (tOp (rIsB false) (tVar 0) (tC (.bl true)))) (tNext)) (tRet (tOp (rIsB false) (tVar 0) (tC (.bl false))))
def t__law_whole (K : PySem.W.Frag) (E : XK) : TS :=
  tSeq (tAsg (tLc (iRng1 (tCons (tOp rAddA (tVar 0) (tC (.int 2))) (tNil))) (gName 3) (tYes) (tOp rSubA (tVar 3) (tC (.int 1))) [3]) (gName 1)) (tSeq (tAsg (tLc (iRng1 (tCons (tOp rAddA (tVar 0) (tC (.int 2))) (tNil))) (gName 3) (tYes) (tOp rAddA (tVar 3) (tC (.int 1))) [3]) (gName 2)) (tRet (tLst (tCons (tVar 0) (tCons (tVar 1) (tCons (tVar 2) (tCons (tLc (iRng1 (tCons (tOp rAddA (tVar 0) (tC (.int 2))) (tNil))) (gName 3) (tYes) (tC (.bl false)) [3]) (tNil))))))))
def t_Links_left (K : PySem.W.Frag) (E : XK) : TS :=
  tSeq (tIfS (tNot (tTest (tChain rLeA rLeA (tC (.int 1)) (tVar 1) (tOp rAddA (tFld K (tVar 0) "size") (tC (.int 1)))))) (tRz (He.ga K "BadNode") ["node"] (fun cls d _ H => E cls d H) (tCons (tVar 1) (tNil))) (tNext)) (tRet (tOp (rIx K) (tFld K (tVar 0) "_lefts") (tVar 1)))
def t_Links_right (K : PySem.W.Frag) (E : XK) : TS :=
  tSeq (tIfS (tNot (tTest (tChain rLeA rLeA (tC (.int 0)) (tVar 1) (tFld K (tVar 0) "size")))) (tRz (He.ga K "BadNode") ["node"] (fun cls d _ H => E cls d H) (tCons (tVar 1) (tNil))) (tNext)) (tRet (tOp (rIx K) (tFld K (tVar 0) "_rights") (tVar 1)))
def t_check_gap (K : PySem.W.Frag) (E : XK) : TS :=
  tIfS (tNot (tTest (tChain rLeA rLeA (tC (.int 0)) (tVar 1) (tVar 0)))) (tRz (He.ga K "BadGap") ["gap"] (fun cls d _ H => E cls d H) (tCons (tVar 1) (tNil))) (tNext)
def t_gap_state (K : PySem.W.Frag) (E : XK) : TS :=
  tSeq (tDrop (tCl (sp_check_gap K) (fun _ => E) (tCons (tFld K (tVar 0) "size") (tCons (tVar 1) (tNil))))) (tSeq (tAsg (tOp (rEqA K) (tMt (He.ga K "Links") "right" (sp_Links_right K) (fun _ => E) (tVar 0) (tCons (tVar 1) (tNil))) (tOp rAddA (tVar 1) (tC (.int 1)))) (gName 2)) (tSeq (tAsg (tOp (rEqA K) (tMt (He.ga K "Links") "left" (sp_Links_left K) (fun _ => E) (tVar 0) (tCons (tOp rAddA (tVar 1) (tC (.int 1))) (tNil))) (tVar 1)) (gName 3)) (tSeq (tIfS (tB (tVar 2)) (tRet (tIf (tB (tVar 3)) (tC (.str "joined")) (tC (.str "left")))) (tNext)) (tRet (tIf (tB (tVar 3)) (tC (.str "right")) (tC (.str "lost")))))))
def t_gap_states (K : PySem.W.Frag) (E : XK) : TS :=
  tRet (tLc (iRng1 (tCons (tOp rAddA (tFld K (tVar 0) "size") (tC (.int 1))) (tNil))) (gName 1) (tYes) (tCl (sp_gap_state K) (fun _ => E0) (tCons (tVar 0) (tCons (tVar 1) (tNil)))) [1])
def t_lost_gaps (K : PySem.W.Frag) (E : XK) : TS :=
  tRet (tLc (iEnum K (tCons (tCl (sp_gap_states K) (fun _ => E) (tCons (tVar 0) (tNil))) (tNil))) (gTup K 2 (gCons (gName 1) (gCons (gName 2) (gNil)))) (tTest (tOp (rEqA K) (tVar 2) (tC (.str "lost")))) (tVar 1) [1, 2])
def t_sole_holders (K : PySem.W.Frag) (w : World) (E : XK) : TS :=
  tSeq (tAsg (tCB (rSet0 w) tNil) (gName 1)) (tSeq (tFor (iEnum K (tCons (tCl (sp_gap_states K) (fun _ => E) (tCons (tVar 0) (tNil))) (tNil))) (gTup K 2 (gCons (gName 2) (gCons (gName 3) (gNil)))) (tIfS (tTest (tOp (rIn K false) (tVar 3) (tTup (tCons (tC (.str "left")) (tCons (tC (.str "right")) (tNil)))))) (tDrop (tSAdd w (tVar 1) (tCons (tIf (tTest (tOp (rEqA K) (tVar 3) (tC (.str "left")))) (tVar 2) (tOp rAddA (tVar 2) (tC (.int 1)))) (tNil)))) (tNext))) (tRet (tCB (rSortedSet w) (tCons (tVar 1) (tNil)))))
def t__law_judged (K : PySem.W.Frag) (E : XK) : TS :=
  tSeq (tIfS (tNot (tB (tCl (sp13__law_ints K) (fun _ => E) (tCons (tCl (sp_lost_gaps K) (fun _ => E) (tCons (tVar 1) (tNil))) (tCons (tCl (sp16__law_lost K) (fun _ => E) (tCons (tVar 0) (tNil))) (tNil)))))) (tRet (tC (.bl false))) (tNext)) (tSeq (tIfS (tNot (tB (tCl (sp13__law_ints K) (fun _ => E) (tCons (tCl (sp_sole_holders K) (fun _ => E) (tCons (tVar 1) (tNil))) (tCons (tCl (sp13__law_holders K) (fun _ => E) (tCons (tVar 0) (tNil))) (tNil)))))) (tRet (tC (.bl false))) (tNext)) (tSeq (tIfS (tNot (tB (tCl (sp13__law_truth K) (fun _ => E) (tCons (tMt (He.ga K "Links") "is_sound" (sp04_Links_is_sound K) (fun _ => E) (tVar 1) tNil) (tCons (tCl (sp13__law_sound K) (fun _ => E) (tCons (tVar 0) (tNil))) (tNil)))))) (tRet (tC (.bl false))) (tNext)) (tSeq (tAsg (tOp (rEqA K) (tCl (sp13__law_dump K) (fun _ => E) (tCons (tVar 0) (tNil))) (tCl (sp13__law_dump K) (fun _ => E) (tCons (tCl (sp13__law_whole K) (fun _ => E) (tCons (tOp (rIx K) (tVar 0) (tC (.int 0))) (tNil))) (tNil)))) (gName 2)) (tRet (tAndV (tCl (sp13__law_truth K) (fun _ => E) (tCons (tMt (He.ga K "Links") "is_whole" (sp23_Links_is_whole K) (fun _ => E) (tVar 1) tNil) (tCons (tVar 2) (tNil)))) (tOp (rEqA K) (tMt (He.ga K "Links") "dump" (sp_Links_dump K) (fun _ => E) (tVar 1) tNil) (tCl (sp13__law_dump K) (fun _ => E) (tCons (tVar 0) (tNil)))))))))
def t__law_take (K : PySem.W.Frag) (E : XK) : TS :=
  tSeq (tAsg (tOp rAddA (tOp (rIx K) (tVar 0) (tC (.int 3))) (tC (.int 1))) (gSub (tVar 0) (tC (.int 3)) rSetL)) (tSeq (tAsg (tOp (rIx K) (tVar 0) (tC (.int 0))) (gName 2)) (tSeq (tIfS (tTr K (tVar 2)) (tSeq (tAsg (tOp rModA (tCB rIntA (tCons (tOp (rIx K) (tVar 2) (tC (.int 0))) (tNil))) (tVar 1)) (gName 3)) (tSeq (tAsg (tOp rDivA (tOp (rIx K) (tVar 2) (tC (.int 0))) (tVar 1)) (gSub (tVar 2) (tC (.int 0)) rSetL)) (tSeq (tIfS (tTest (tOp (rEqA K) (tOp (rIx K) (tVar 2) (tC (.int 0))) (tC (.int 0)))) (tDrop (tBM K "list" rPopAt (tVar 2) (tCons (tC (.int 0)) (tNil)))) (tNext)) (tRet (tVar 3))))) (tNext)) (tSeq (tAsg (tOp rModA (tCB rIntA (tCons (tOp rAddA (tOp rAddA (tOp rMulA (tOp (rIx K) (tVar 0) (tC (.int 1))) (tC (.int 48271))) (tOp rMulA (tOp (rIx K) (tVar 0) (tC (.int 3))) (tC (.int 69621)))) (tC (.int 11))) (tNil))) (tC (.int 2147483647))) (gSub (tVar 0) (tC (.int 1)) rSetL)) (tSeq (tAsg (tOp rModA (tCB rIntA (tCons (tOp rAddA (tOp rAddA (tOp rMulA (tOp (rIx K) (tVar 0) (tC (.int 2))) (tC (.int 39373))) (tOp rDivA (tOp (rIx K) (tVar 0) (tC (.int 1))) (tC (.int 128)))) (tC (.int 5))) (tNil))) (tC (.int 2147483629))) (gSub (tVar 0) (tC (.int 2)) rSetL)) (tRet (tOp rModA (tCB rIntA (tCons (tOp rAddA (tOp rDivA (tOp (rIx K) (tVar 0) (tC (.int 1))) (tC (.int 7))) (tOp (rIx K) (tVar 0) (tC (.int 2)))) (tNil))) (tVar 1)))))))
def t_Links_is_out (K : PySem.W.Frag) (E : XK) : TS :=
  tSeq (tIfS (tNot (tTest (tChain rLeA rLeA (tC (.int 0)) (tVar 1) (tOp rAddA (tFld K (tVar 0) "size") (tC (.int 1)))))) (tRz (He.ga K "BadNode") ["node"] (fun cls d _ H => E cls d H) (tCons (tVar 1) (tNil))) (tNext)) (tRet (tOp (rIx K) (tFld K (tVar 0) "_out") (tVar 1)))
def t__has_fitting_neighbours (K : PySem.W.Frag) (E : XK) : TS :=
  tSeq (tAsg (tCB rAbsA (tCons (tVar 1) (tNil))) (gName 2)) (tSeq (tAsg (tMt (He.ga K "Links") "left" (sp_Links_left K) (fun _ => E) (tVar 0) (tCons (tVar 2) (tNil))) (gName 3)) (tSeq (tAsg (tMt (He.ga K "Links") "right" (sp_Links_right K) (fun _ => E) (tVar 0) (tCons (tVar 2) (tNil))) (gName 4)) (tSeq (tIfS (tOr (tB (tMt (He.ga K "Links") "is_out" (sp03_Links_is_out K) (fun _ => E) (tVar 0) (tCons (tVar 3) (tNil)))) (tB (tMt (He.ga K "Links") "is_out" (sp03_Links_is_out K) (fun _ => E) (tVar 0) (tCons (tVar 4) (tNil))))) (tRet (tC (.bl false))) (tNext)) (tSeq (tIfS (tTest (tOp rLtA (tVar 1) (tC (.int 0)))) (tRet (tAndV (tOp (rEqA K) (tMt (He.ga K "Links") "right" (sp_Links_right K) (fun _ => E) (tVar 0) (tCons (tVar 3) (tNil))) (tVar 2)) (tOp (rEqA K) (tMt (He.ga K "Links") "left" (sp_Links_left K) (fun _ => E) (tVar 0) (tCons (tVar 4) (tNil))) (tVar 2)))) (tNext)) (tRet (tAndV (tOp (rEqA K) (tMt (He.ga K "Links") "right" (sp_Links_right K) (fun _ => E) (tVar 0) (tCons (tVar 3) (tNil))) (tVar 4)) (tOp (rEqA K) (tMt (He.ga K "Links") "left" (sp_Links_left K) (fun _ => E) (tVar 0) (tCons (tVar 4) (tNil))) (tVar 3))))))))
def t_foreign_writes (K : PySem.W.Frag) (E : XK) : TS :=
  tSeq (tDrop (tMt (He.ga K "Links") "check" (sp_Links_check K) (fun _ => E) (tVar 0) (tCons (tVar 1) (tCons (tC (.int 0)) (tNil))))) (tSeq (tAsg (tCB rAbsA (tCons (tVar 1) (tNil))) (gName 2)) (tSeq (tAsg (tMt (He.ga K "Links") "left" (sp_Links_left K) (fun _ => E) (tVar 0) (tCons (tVar 2) (tNil))) (gName 3)) (tSeq (tAsg (tMt (He.ga K "Links") "right" (sp_Links_right K) (fun _ => E) (tVar 0) (tCons (tVar 2) (tNil))) (gName 4)) (tSeq (tAsg (tLst (tNil)) (gName 5)) (tSeq (tIfS (tAnd (tTest (tOp (rNeA K) (tVar 3) (tOp rSubA (tVar 2) (tC (.int 1))))) (tTest (tOp (rEqA K) (tMt (He.ga K "Links") "right" (sp_Links_right K) (fun _ => E) (tVar 0) (tCons (tVar 3) (tNil))) (tOp rAddA (tVar 3) (tC (.int 1)))))) (tDrop (tBM K "list" rAppend (tVar 5) (tCons (tVar 3) (tNil)))) (tNext)) (tSeq (tIfS (tAnd (tTest (tOp (rNeA K) (tVar 4) (tOp rAddA (tVar 2) (tC (.int 1))))) (tTest (tOp (rEqA K) (tMt (He.ga K "Links") "left" (sp_Links_left K) (fun _ => E) (tVar 0) (tCons (tVar 4) (tNil))) (tOp rSubA (tVar 4) (tC (.int 1)))))) (tDrop (tBM K "list" rAppend (tVar 5) (tCons (tOp rSubA (tVar 4) (tC (.int 1))) (tNil)))) (tNext)) (tRet (tVar 5))))))))
def t_left_to (K : PySem.W.Frag) (E : XK) : TS :=
  tRet (tIf (tTest (tOp rLtA (tVar 1) (tCB rAbsA (tCons (tVar 0) (tNil))))) (tOp rAddA (tVar 1) (tC (.int 1))) (tVar 1))
def t__leaves_a_gap_to_a_holder_that_is_in (K : PySem.W.Frag) (E : XK) : TS :=
  tRet (tCB (rAny K) (tCons (tLc (iList K (tCl (sp_foreign_writes K) (fun _ => E) (tCons (tVar 0) (tCons (tVar 1) (tNil))))) (gName 2) (tYes) (tNotV (tMt (He.ga K "Links") "is_out" (sp03_Links_is_out K) (fun _ => E0) (tVar 0) (tCons (tCl (sp17_left_to K) (fun _ => E0) (tCons (tVar 1) (tCons (tVar 2) (tNil)))) (tNil)))) [2]) (tNil)))
def t__loses_a_gap (K : PySem.W.Frag) (E : XK) : TS :=
  tRet (tCB (rAny K) (tCons (tLc (iList K (tCl (sp_foreign_writes K) (fun _ => E) (tCons (tVar 0) (tCons (tVar 1) (tNil))))) (gName 2) (tYes) (tOp (rNeA K) (tCl (sp_gap_state K) (fun _ => E0) (tCons (tVar 0) (tCons (tVar 2) (tNil)))) (tC (.str "joined"))) [2]) (tNil)))
def t_FreeMode_refusal (K : PySem.W.Frag) (E : XK) : TS :=
  tSeq (tDrop (tMt (He.ga K "Links") "check" (sp_Links_check K) (fun _ => E) (tVar 1) (tCons (tVar 2) (tCons (tC (.int 0)) (tNil))))) (tRet (tC (.str "")))
def t_SavingMode_refusal (K : PySem.W.Frag) (E : XK) : TS :=
  tSup K (He.ga K "SavingMode") "refusal" (He.fAd K ("FreeMode", some "refusal")) (sp_FreeMode_refusal K) E 4 (tCons (tVar 1) (tCons (tVar 2) (tNil))) (tSeq (tIfS (tAnd (tTest (tOp (rEqA K) (tVar 4) (tC (.str "")))) (tB (tCl (sp__loses_a_gap K) (fun _ => E) (tCons (tVar 1) (tCons (tVar 2) (tNil)))))) (tRet (tC (.str "saving"))) (tNext)) (tRet (tVar 4)))
def t_GuardedMode_refusal (K : PySem.W.Frag) (E : XK) : TS :=
  tSup K (He.ga K "GuardedMode") "refusal" (He.fAd K ("SavingMode", some "refusal")) (sp_SavingMode_refusal K) E 4 (tCons (tVar 1) (tCons (tVar 2) (tNil))) (tSeq (tIfS (tAnd (tTest (tOp (rEqA K) (tVar 4) (tC (.str "")))) (tB (tCl (sp__leaves_a_gap_to_a_holder_that_is_in K) (fun _ => E) (tCons (tVar 1) (tCons (tVar 2) (tNil)))))) (tRet (tC (.str "guarded"))) (tNext)) (tRet (tVar 4)))
def t_CheckedMode_refusal (K : PySem.W.Frag) (E : XK) : TS :=
  tSup K (He.ga K "CheckedMode") "refusal" (He.fAd K ("GuardedMode", some "refusal")) (sp_GuardedMode_refusal K) E 4 (tCons (tVar 1) (tCons (tVar 2) (tNil))) (tSeq (tIfS (tAnd (tTest (tOp (rEqA K) (tVar 4) (tC (.str "")))) (tNot (tB (tCl (sp__has_fitting_neighbours K) (fun _ => E) (tCons (tVar 1) (tCons (tVar 2) (tNil))))))) (tRet (tC (.str "checked"))) (tNext)) (tRet (tVar 4)))
def t_all_modes (K : PySem.W.Frag) (E : XK) : TS :=
  tRet (tLst (tCons (tMk0 (He.ga K "FreeMode")) (tCons (tMk0 (He.ga K "SavingMode")) (tCons (tMk0 (He.ga K "GuardedMode")) (tCons (tMk0 (He.ga K "CheckedMode")) (tNil))))))
def t_mode_named (K : PySem.W.Frag) (E : XK) : TS :=
  tSeq (tFor (iList K (tCl (sp_all_modes K) (fun _ => E) tNil)) (gName 1) (tIfS (tTest (tOp (rEqA K) (tCon K (tVar 1) "NAME") (tVar 0))) (tRet (tVar 1)) (tNext))) (tRz (He.ga K "BadMode") ["name"] (fun cls d _ H => E cls d H) (tCons (tVar 0) (tNil)))
def t_admits (K : PySem.W.Frag) (E : XK) : TS :=
  tRet (tOp (rEqA K) (tMtD (L_refusal K) "refusal" (fun _ => E) (tCl (sp_mode_named K) (fun _ => E) (tCons (tVar 2) (tNil))) (tCons (tVar 0) (tCons (tVar 1) (tNil)))) (tC (.str "")))
def t__law_finish (K : PySem.W.Frag) (E : XK) : TS :=
  tSeq (tFor (iRng1 (tCons (tOp (rIx K) (tVar 1) (tC (.int 0))) (tNil))) (gName 4) (tSeq (tAsg (tLc (iRng2 (tCons (tC (.int 1)) (tCons (tOp rAddA (tOp (rIx K) (tVar 1) (tC (.int 0))) (tC (.int 1))) (tNil)))) (gName 7) (tB (tOp (rIx K) (tOp (rIx K) (tVar 1) (tC (.int 3))) (tVar 7))) (tVar 7) [7]) (gName 5)) (tSeq (tAsg (tCl (sp13__law_good K) (fun _ => E) (tCons (tVar 1) (tCons (tVar 3) (tCons (tVar 5) (tNil))))) (gName 6)) (tIfS (tTr K (tVar 6)) (tSeq (tAsg (tOp (rIx K) (tVar 6) (tCl (sp13__law_take K) (fun _ => E) (tCons (tVar 0) (tCons (tCB (rLenA K) (tCons (tVar 6) (tNil))) (tNil))))) (gName 7)) (tSeq (tIfS (tTest (tOp (rIsB true) (tClK 2 (["mode"] : List Str).length (sp_admits K) (fun _ => E) (tCons (tVar 2) (tCons (tVar 7) (tNil))) (tCons (tVar 3) (tNil))) (tC (.bl true)))) (tRet (tC (.bl false))) (tNext)) (tSeq (tDrop (tMt (He.ga K "Links") "apply" (sp_Links_apply K) (fun _ => E) (tVar 2) (tCons (tVar 7) (tNil)))) (tAsg (tCl (sp13__law_moved K) (fun _ => E) (tCons (tVar 1) (tCons (tVar 7) (tNil)))) (gName 1))))) (tNext))))) (tSeq (tAsg (tLc (iRng2 (tCons (tC (.int 1)) (tCons (tOp rAddA (tOp (rIx K) (tVar 1) (tC (.int 0))) (tC (.int 1))) (tNil)))) (gName 7) (tB (tOp (rIx K) (tOp (rIx K) (tVar 1) (tC (.int 3))) (tVar 7))) (tVar 7) [7]) (gName 5)) (tRet (tAndV (tCl (sp13__law_truth K) (fun _ => E) (tCons (tMt (He.ga K "Links") "is_whole" (sp23_Links_is_whole K) (fun _ => E) (tVar 2) tNil) (tCons (tOp (rEqA K) (tVar 5) (tLst (tNil))) (tNil)))) (tCl (sp13__law_judged K) (fun _ => E) (tCons (tVar 1) (tCons (tVar 2) (tNil)))))))
def t__law_operation (K : PySem.W.Frag) (E : XK) : TS :=
  tSeq (tIfS (tB (tOp (rIx K) (tOp (rIx K) (tVar 0) (tC (.int 3))) (tVar 1))) (tRet (tVar 1)) (tNext)) (tRet (tUn rNegA (tVar 1)))
def t_admitted (K : PySem.W.Frag) (E : XK) : TS :=
  tSeq (tDrop (tCl (sp_mode_named K) (fun _ => E) (tCons (tVar 1) (tNil)))) (tSeq (tAsg (tLc (iRng2 (tCons (tC (.int 1)) (tCons (tOp rAddA (tFld K (tVar 0) "size") (tC (.int 1))) (tNil)))) (gName 3) (tYes) (tIf (tB (tMt (He.ga K "Links") "is_out" (sp03_Links_is_out K) (fun _ => E0) (tVar 0) (tCons (tVar 3) (tNil)))) (tVar 3) (tUn rNegA (tVar 3))) [3]) (gName 2)) (tRet (tLc (iList K (tVar 2)) (gName 4) (tB (tClK 2 (["mode"] : List Str).length (sp_admits K) (fun _ => E0) (tCons (tVar 0) (tCons (tVar 4) (tNil))) (tCons (tVar 1) (tNil)))) (tVar 4) [4])))
def t__law_moment (K : PySem.W.Frag) (E : XK) : TS :=
  tSeq (tAsg (tCl (sp13__law_good K) (fun _ => E) (tCons (tVar 0) (tCons (tVar 2) (tCons (tVar 3) (tNil))))) (gName 4)) (tSeq (tFor (iList K (tVar 3)) (gName 5) (tIfS (tNot (tB (tCl (sp13__law_truth K) (fun _ => E) (tCons (tClK 2 (["mode"] : List Str).length (sp_admits K) (fun _ => E) (tCons (tVar 1) (tCons (tCl (sp__law_operation K) (fun _ => E) (tCons (tVar 0) (tCons (tVar 5) (tNil)))) (tNil))) (tCons (tVar 2) (tNil))) (tCons (tOp (rIn K false) (tVar 5) (tVar 4)) (tNil)))))) (tRet (tC (.bl false))) (tNext))) (tSeq (tIfS (tTest (tOp rGtA (tOp (rIx K) (tVar 0) (tC (.int 0))) (tC (.int 6)))) (tRet (tC (.bl true))) (tNext)) (tRet (tCl (sp13__law_ints K) (fun _ => E) (tCons (tClK 1 (["mode"] : List Str).length (sp_admitted K) (fun _ => E) (tCons (tVar 1) (tNil)) (tCons (tVar 2) (tNil))) (tCons (tLc (iList K (tVar 4)) (gName 5) (tYes) (tCl (sp__law_operation K) (fun _ => E0) (tCons (tVar 0) (tCons (tVar 5) (tNil)))) [5]) (tNil)))))))
def t__law_path (K : PySem.W.Frag) (E : XK) : TS :=
  tSeq (tIfS (tOr (tTest (tOp rLtA (tVar 1) (tC (.int 4)))) (tTest (tOp (rEqA K) (tCl (sp13__law_take K) (fun _ => E) (tCons (tVar 0) (tCons (tC (.int 2)) (tNil)))) (tC (.int 0))))) (tRet (tLst (tNil))) (tNext)) (tSeq (tAsg (tLst (tCons (tLst (tCons (tC (.int 2)) (tCons (tC (.int 3)) (tCons (tC (.int 2)) (tCons (tC (.int 1)) (tCons (tC (.int 4)) (tNil))))))) (tCons (tLst (tCons (tC (.int 2)) (tCons (tC (.int 3)) (tCons (tC (.int 4)) (tCons (tC (.int 2)) (tCons (tC (.int 1)) (tCons (tC (.int 4)) (tNil)))))))) (tCons (tLst (tCons (tC (.int 2)) (tCons (tC (.int 3)) (tCons (tC (.int 2)) (tCons (tC (.int 1)) (tCons (tC (.int 2)) (tCons (tC (.int 1)) (tCons (tC (.int 4)) (tNil))))))))) (tCons (tLst (tCons (tC (.int 2)) (tCons (tC (.int 3)) (tCons (tC (.int 4)) (tCons (tC (.int 2)) (tCons (tC (.int 1)) (tCons (tC (.int 2)) (tCons (tC (.int 1)) (tCons (tC (.int 4)) (tNil)))))))))) (tNil)))))) (gName 2)) (tSeq (tAsg (tOp (rIx K) (tVar 2) (tCl (sp13__law_take K) (fun _ => E) (tCons (tVar 0) (tCons (tC (.int 4)) (tNil))))) (gName 3)) (tSeq (tIfS (tTest (tOp (rEqA K) (tCl (sp13__law_take K) (fun _ => E) (tCons (tVar 0) (tCons (tC (.int 2)) (tNil)))) (tC (.int 0)))) (tRet (tVar 3)) (tNext)) (tRet (tLc (iList K (tVar 3)) (gName 4) (tYes) (tOp rSubA (tOp rAddA (tVar 1) (tC (.int 1))) (tVar 4)) [4])))))
def t_Links_copy (K : PySem.W.Frag) (E : XK) : TS :=
  tSeq (tAsg (tMk (He.ga K "Links") (sp_Links___init__ K) (fun _ => E) (tCons (tFld K (tVar 0) "size") (tNil))) (gName 1)) (tSeq (sFld K (tVar 1) (tCB (rListA K) (tCons (tFld K (tVar 0) "_rights") (tNil))) "_rights") (tSeq (sFld K (tVar 1) (tCB (rListA K) (tCons (tFld K (tVar 0) "_lefts") (tNil))) "_lefts") (tSeq (sFld K (tVar 1) (tCB (rListA K) (tCons (tFld K (tVar 0) "_out") (tNil))) "_out") (tRet (tVar 1)))))
def t__law_worse (K : PySem.W.Frag) (E : XK) : TS :=
  tSeq (tAsg (tMt (He.ga K "Links") "copy" (sp_Links_copy K) (fun _ => E) (tVar 2) tNil) (gName 5)) (tSeq (tDrop (tMt (He.ga K "Links") "apply" (sp_Links_apply K) (fun _ => E) (tVar 5) (tCons (tCl (sp__law_operation K) (fun _ => E) (tCons (tVar 1) (tCons (tVar 3) (tNil)))) (tNil)))) (tSeq (tAsg (tCl (sp13__law_moved K) (fun _ => E) (tCons (tVar 1) (tCons (tVar 3) (tNil)))) (gName 6)) (tSeq (tIfS (tNot (tB (tCl (sp13__law_judged K) (fun _ => E) (tCons (tVar 6) (tCons (tVar 5) (tNil)))))) (tRet (tC (.bl false))) (tNext)) (tSeq (tIfS (tTest (tOp (rEqA K) (tVar 4) (tC (.str "checked")))) (tRet (tAndV (tOp (rIsB false) (tMt (He.ga K "Links") "is_sound" (sp04_Links_is_sound K) (fun _ => E) (tVar 5) tNil) (tC (.bl false))) (tOp (rEqA K) (tMt (He.ga K "Links") "dump" (sp_Links_dump K) (fun _ => E) (tVar 2) tNil) (tCl (sp13__law_dump K) (fun _ => E) (tCons (tVar 1) (tNil)))))) (tNext)) (tSeq (tAsg (tLc (iRng2 (tCons (tC (.int 1)) (tCons (tOp rAddA (tOp (rIx K) (tVar 1) (tC (.int 0))) (tC (.int 1))) (tNil)))) (gName 9) (tB (tOp (rIx K) (tOp (rIx K) (tVar 6) (tC (.int 3))) (tVar 9))) (tVar 9) [9]) (gName 7)) (tSeq (tFor (iRng1 (tCons (tCB (rLenA K) (tCons (tVar 7) (tNil))) (tNil))) (gName 8) (tDrop (tMt (He.ga K "Links") "apply" (sp_Links_apply K) (fun _ => E) (tVar 5) (tCons (tBM K "list" rPopAt (tVar 7) (tCons (tCl (sp13__law_take K) (fun _ => E) (tCons (tVar 0) (tCons (tCB (rLenA K) (tCons (tVar 7) (tNil))) (tNil)))) (tNil))) (tNil))))) (tRet (tAndV (tOp (rIsB false) (tMt (He.ga K "Links") "is_whole" (sp23_Links_is_whole K) (fun _ => E) (tVar 5) tNil) (tC (.bl false))) (tOp (rEqA K) (tMt (He.ga K "Links") "dump" (sp_Links_dump K) (fun _ => E) (tVar 2) tNil) (tCl (sp13__law_dump K) (fun _ => E) (tCons (tVar 1) (tNil))))))))))))
def t__law_run (K : PySem.W.Frag) (E : XK) : TS :=
  tSeq (tAsg (tOp (rEqA K) (tCl (sp13__law_take K) (fun _ => E) (tCons (tVar 0) (tCons (tC (.int 16)) (tNil)))) (tC (.int 0))) (gName 2)) (tSeq (tAsg (tOp (rIx K) (tLst (tCons (tC (.int 0)) (tCons (tC (.int 1)) (tCons (tC (.int 2)) (tCons (tC (.int 3)) (tCons (tC (.int 3)) (tCons (tC (.int 4)) (tCons (tC (.int 4)) (tCons (tC (.int 5)) (tCons (tC (.int 5)) (tCons (tC (.int 6)) (tNil)))))))))))) (tCl (sp13__law_take K) (fun _ => E) (tCons (tVar 0) (tCons (tC (.int 10)) (tNil))))) (gName 3)) (tSeq (tAsg (tOp rAddA (tC (.int 3)) (tCl (sp13__law_take K) (fun _ => E) (tCons (tVar 0) (tCons (tC (.int 10)) (tNil))))) (gName 4)) (tSeq (tIfS (tB (tVar 2)) (tSeq (tAsg (tOp rAddA (tC (.int 7)) (tCl (sp13__law_take K) (fun _ => E) (tCons (tVar 0) (tCons (tC (.int 54)) (tNil))))) (gName 3)) (tAsg (tOp rDivA (tVar 4) (tC (.int 2))) (gName 4))) (tNext)) (tSeq (tAsg (tCl (sp13__law_take K) (fun _ => E) (tCons (tVar 0) (tCons (tCB rMax2A (tCons (tC (.int 1)) (tCons (tOp rSubA (tVar 3) (tC (.int 5))) (tNil)))) (tNil)))) (gName 5)) (tSeq (tAsg (tLstRg (tRg2 (tOp rAddA (tC (.int 1)) (tVar 5)) (tOp rAddA (tOp rAddA (tC (.int 1)) (tVar 5)) (tCB rMin2A (tCons (tVar 3) (tCons (tC (.int 6)) (tNil))))))) (gName 6)) (tSeq (tAsg (tCl (sp13__law_path K) (fun _ => E) (tCons (tVar 0) (tCons (tCB (rLenA K) (tCons (tVar 6) (tNil))) (tNil)))) (gName 7)) (tSeq (tAsg (tMk (He.ga K "Links") (sp_Links___init__ K) (fun _ => E) (tCons (tVar 3) (tNil))) (gName 8)) (tSeq (tAsg (tCl (sp13__law_whole K) (fun _ => E) (tCons (tVar 3) (tNil))) (gName 9)) (tSeq (tFor (iRng1 (tCons (tCB rMax2A (tCons (tVar 4) (tCons (tCB (rLenA K) (tCons (tVar 7) (tNil))) (tNil)))) (tNil))) (gName 10) (tSeq (tIfS (tOr (tNot (tB (tCl (sp13__law_judged K) (fun _ => E) (tCons (tVar 9) (tCons (tVar 8) (tNil)))))) (tNot (tB (tCl (sp13__law_moment K) (fun _ => E) (tCons (tVar 9) (tCons (tVar 8) (tCons (tVar 1) (tCons (tVar 6) (tNil))))))))) (tRet (tC (.bl false))) (tNext)) (tSeq (tAsg (tCl (sp13__law_good K) (fun _ => E) (tCons (tVar 9) (tCons (tVar 1) (tCons (tVar 6) (tNil))))) (gName 11)) (tSeq (tAsg (tLc (iList K (tVar 6)) (gName 13) (tTest (tOp (rIn K true) (tVar 13) (tVar 11))) (tVar 13) [13]) (gName 12)) (tSeq (tIfS (tAnd (tTr K (tVar 12)) (tTest (tOp (rEqA K) (tCl (sp13__law_take K) (fun _ => E) (tCons (tVar 0) (tCons (tC (.int 2)) (tNil)))) (tC (.int 0))))) (tIfS (tNot (tB (tCl (sp13__law_worse K) (fun _ => E) (tCons (tVar 0) (tCons (tVar 9) (tCons (tVar 8) (tCons (tOp (rIx K) (tVar 12) (tCl (sp13__law_take K) (fun _ => E) (tCons (tVar 0) (tCons (tCB (rLenA K) (tCons (tVar 12) (tNil))) (tNil))))) (tCons (tVar 1) (tNil))))))))) (tRet (tC (.bl false))) (tNext)) (tNext)) (tIfS (tTr K (tVar 11)) (tSeq (tAsg (tOp (rIx K) (tVar 11) (tCl (sp13__law_take K) (fun _ => E) (tCons (tVar 0) (tCons (tCB (rLenA K) (tCons (tVar 11) (tNil))) (tNil))))) (gName 13)) (tSeq (tIfS (tAnd (tTest (tOp rLtA (tVar 10) (tCB (rLenA K) (tCons (tVar 7) (tNil))))) (tTest (tOp (rIn K false) (tOp rAddA (tVar 5) (tOp (rIx K) (tVar 7) (tVar 10))) (tVar 11)))) (tAsg (tOp rAddA (tVar 5) (tOp (rIx K) (tVar 7) (tVar 10))) (gName 13)) (tNext)) (tSeq (tDrop (tMt (He.ga K "Links") "apply" (sp_Links_apply K) (fun _ => E) (tVar 8) (tCons (tCl (sp__law_operation K) (fun _ => E) (tCons (tVar 9) (tCons (tVar 13) (tNil)))) (tNil)))) (tAsg (tCl (sp13__law_moved K) (fun _ => E) (tCons (tVar 9) (tCons (tVar 13) (tNil)))) (gName 9))))) (tNext))))))) (tSeq (tIfS (tOr (tNot (tB (tCl (sp13__law_judged K) (fun _ => E) (tCons (tVar 9) (tCons (tVar 8) (tNil)))))) (tNot (tB (tCl (sp13__law_moment K) (fun _ => E) (tCons (tVar 9) (tCons (tVar 8) (tCons (tVar 1) (tCons (tVar 6) (tNil))))))))) (tRet (tC (.bl false))) (tNext)) (tSeq (tIfS (tOr (tTest (tOp (rEqA K) (tVar 1) (tC (.str "guarded")))) (tTest (tOp (rEqA K) (tVar 1) (tC (.str "checked"))))) (tRet (tCl (sp13__law_finish K) (fun _ => E) (tCons (tVar 0) (tCons (tVar 9) (tCons (tVar 8) (tCons (tVar 1) (tNil))))))) (tNext)) (tRet (tC (.bl true))))))))))))))
def t__law_words (K : PySem.W.Frag) (E : XK) : TS :=
  tRet (tLst (tCons (tC (.str "free")) (tCons (tC (.str "saving")) (tCons (tC (.str "guarded")) (tCons (tC (.str "checked")) (tNil))))))
def t_law (K : PySem.W.Frag) (E : XK) : TS :=
  tSeq (tAsg (tCl (sp13__law_purse K) (fun _ => E) (tCons (tVar 0) (tNil))) (gName 1)) (tSeq (tFor (iList K (tCl (sp13__law_words K) (fun _ => E) tNil)) (gName 2) (tIfS (tNot (tB (tCl (sp13__law_run K) (fun _ => E) (tCons (tVar 1) (tCons (tVar 2) (tNil)))))) (tRet (tC (.bl false))) (tNext))) (tRet (tC (.bl true))))
end G
set_option Elab.async false
set_option linter.all false
set_option maxRecDepth 100000
set_option maxHeartbeats 1000000
namespace G
--#FAM KW
open PySem PySem.Spec PyProof.Rows L2
local macro_rules
  | `(tactic| walk_at "1") => `(tactic| first
    | with_reducible refine w_seq ?_
    | with_reducible refine w_asg ?_
    | with_reducible refine w_asgS ?_
    | with_reducible refine w_asf ?_
    | with_reducible refine w_drop ?_
    | with_reducible refine w_ret ?_
    | with_reducible refine w_if ?_
    | with_reducible refine w_not ?_
    | with_reducible refine w_and ?_
    | with_reducible refine w_or ?_
    | with_reducible refine w_test ?_
    | with_reducible refine w_tb ?_
    | with_reducible refine w_chain ?_
    | with_reducible refine w_op ?_
    | with_reducible refine w_un ?_
    | with_reducible refine w_andV ?_
    | with_reducible refine w_orV ?_
    | with_reducible refine w_notV ?_
    | with_reducible refine w_ifE ?_
    | with_reducible refine w_cons ?_
    | with_reducible refine w_nil ?_
    | with_reducible refine w_cb ?_
    | with_reducible refine w_cl ?_
    | with_reducible refine w_mt ?_
    | with_reducible refine w_fld ?_
    | with_reducible refine w_tupN ?_
    | with_reducible refine w_lstN ?_
    | with_reducible refine w_bm ?_
    | with_reducible refine w_bm0 ?_
    | with_reducible refine w_for ?_
    | with_reducible refine w_lc ?_
    | with_reducible refine w_iR1 ?_
    | with_reducible refine w_iR2 ?_
    | with_reducible refine w_iL ?_
    | with_reducible refine w_iT ?_
    | with_reducible refine w_iE ?_
    | with_reducible refine w_iZ ?_
    | with_reducible refine w_var (by with_unfolding_all rfl) ?_
    | with_reducible refine w_c ?_
    | with_reducible refine w_next ?_
    | with_reducible refine w_i0 ?_
    | with_reducible refine w_u1 ?_
    | with_reducible refine w_addI ?_
    | with_reducible refine w_eqI ?_
    | with_reducible refine w_eqS ?_
    | with_reducible refine w_eqB ?_
    | with_reducible refine w_neI ?_
    | with_reducible refine w_neS ?_
    | with_reducible refine w_neB ?_
    | with_reducible refine w_abs ?_
    | with_reducible refine w_intI ?_
    | with_reducible refine w_min2 ?_
    | with_reducible refine w_max2 ?_
    | with_reducible refine w_isN0 ?_
    | with_reducible refine w_isN1 ref_ne ?_
    | with_reducible refine w_isN1 int_ne ?_
    | with_reducible refine w_notN0 ?_
    | with_reducible refine w_notN1 ref_ne ?_
    | with_reducible refine w_notN1 int_ne ?_
    | with_reducible refine w_ex1 ?_
    | with_reducible refine w_n1 ?_
    | with_reducible refine w_n2 ?_
    | with_reducible refine w_tT ?_
    | with_reducible refine w_tF ?_
    | with_reducible refine w_nT ?_
    | with_reducible refine w_nF ?_
    | with_reducible refine w_rz ?_
    | with_reducible refine w_mkN ?_
    | with_reducible refine w_lrgN ?_
    | with_reducible refine w_rg1 ?_
    | with_reducible refine w_rg2 ?_
    | with_reducible refine w_sl ?_
    | with_reducible refine w_np ?_
    | with_reducible refine w_pt ?_
    | with_reducible refine w_tr ?_
    | with_reducible refine w_gn ?_
    | with_reducible refine w_yes ?_
    | with_reducible refine w_m1 ?_
    | with_reducible refine w_asu ?_
    | with_reducible refine w_exS ?_
    | with_reducible refine w_iS ?_
    | with_reducible refine w_g1 ?_
    | with_reducible refine w_gc ?_
    | with_reducible refine w_gt (SqT.of upd_same) rfl ?_)
local macro_rules
  | `(tactic| walk_at "g") => `(tactic| repeat walk_at "1")
local macro_rules
  | `(tactic| walk_at "j1") => `(tactic| first
    | with_reducible refine w_seqI ?_
    | walk_at "1")
local macro_rules
  | `(tactic| walk_at "j") => `(tactic| repeat walk_at "j1")
section
variable {K : PySem.W.Frag} {mg : Str → Option Value}
theorem len_Links_apply_at (K : PySem.W.Frag) : ∀ vs H Q E, sp_Links_apply_at K vs H Q E → vs.length = (["self", "operation", "index"] : List Str).length := by
  rintro vs H Q E ⟨_, _, _, _, _, _, _, rfl, _⟩
  rfl
theorem rd_Links_apply_at (T : Txt K mg) (vs : List V) (H : Hp) (Q : VK) (E : XK) (h : sp_Links_apply_at K vs H Q E) : t_Links_apply_at K E { nx := fun _ H' => Q .non H', rt := Q } (start ["self", "operation", "index", "node", "low", "high", "is_unlink"] vs) H := by
  obtain ⟨p, r, l, o, s, op, i, rfl, a, h1, h2⟩ := h
  unfold t_Links_apply_at
  walk_at "g"
  refine w_me a no_m ?_
  walk_at "g"
  refine ⟨p, r, l, o, s, op, i, rfl, a, fun ok => ?_, h2⟩
  have hi := ok.1
  obtain ⟨i1, i2⟩ := hi
  have w := a.wf
  obtain ⟨r1, r2⟩ := w.rb op.natAbs (by omega)
  obtain ⟨l1, l2⟩ := w.lb op.natAbs i1 (by omega)
  obtain ⟨pr, pl, po⟩ := a.pr
  walk_at "g"
  rw [natAbs_if]
  refine w_fL T.cl_Links T.na_Links__lefts a ?_
  walk_at "g"
  refine w_ixL (SqL.of a.hl) (at_I (by omega) (by rw [w.lL]; omega)) ?_
  walk_at "g"
  refine w_fR T.cl_Links T.na_Links__rights a ?_
  walk_at "g"
  refine w_ixL (SqL.of a.hr) (at_I (by omega) (by rw [w.lR]; omega)) ?_
  walk_at "g"
  have fin : ∀ x y : Int, x = (if op < 0 then gI s.R op.natAbs else (op.natAbs : Int)) → y = (if op < 0 then gI s.L op.natAbs else (op.natAbs : Int)) →
      Q .non (upd (upd (upd H r (.lst ((s.R.map V.int).set (gI s.L op.natAbs).toNat (.int x)))) l (.lst ((s.L.map V.int).set (gI s.R op.natAbs).toNat (.int y)))) o (.lst ((s.O.map V.bl).set op.natAbs (.bl (decide (op < 0)))))) := by
    intro x y ex ey
    refine h1 ok _ ((((Kp.refl _ H).trans (Kp.put (by simp))).trans (Kp.put (by simp))).trans (Kp.put (by simp))) ?_
    obtain ⟨dx, ob⟩ := a.ob
    rw [set_I, set_I, set_B]
    refine ⟨⟨dx, ?_⟩, ?_, ?_, ?_, a.rl, a.ro, a.lo, w.step ok.1⟩
    · rw [upd_ne po, upd_ne pl, upd_ne pr]
      exact ob
    · rw [upd_ne a.ro, upd_ne a.rl, upd_same, ex] <;> rfl
    · rw [upd_ne a.lo, upd_same, ey] <;> rfl
    · rw [upd_same] <;> rfl
  obtain ⟨dx, ob⟩ := a.ob
  have e1 : (op.natAbs : Int).toNat = op.natAbs := Int.toNat_natCast _
  have il : ixN (List.map V.int s.R).length (gI s.L op.natAbs) = some (gI s.L op.natAbs).toNat := ixN_pos (by omega) (by rw [List.length_map, w.lR]; omega)
  have ir : ixN (List.map V.int s.L).length (gI s.R op.natAbs) = some (gI s.R op.natAbs).toNat := ixN_pos (by omega) (by rw [List.length_map, w.lL]; omega)
  have io : ixN (List.map V.bl s.O).length (op.natAbs : Int) = some op.natAbs := by
    rw [ixN_pos (by omega) (by rw [List.length_map, w.lO]; omega), e1]
  rw [e1]
  refine w_iteD (fun c => ?_) (fun c => ?_)
  all_goals
    walk_at "g"
    refine w_oR T.cl_Links T.na_Links__rights ob ?_
    walk_at "g"
    refine w_setL a.hr il ?_
    walk_at "g"
    first
      | refine w_iteD (fun _ => ?_) (fun z => absurd c z)
      | refine w_iteD (fun z => absurd z c) (fun _ => ?_)
    walk_at "g"
    refine w_oL T.cl_Links T.na_Links__lefts (H := upd H r _) (by rw [upd_ne pr]; exact ob) ?_
    walk_at "g"
    refine w_setL (H := upd H r _) (by rw [upd_ne (Ne.symm a.rl)]; exact a.hl) ir ?_
    walk_at "g"
    refine w_oO T.cl_Links T.na_Links__out (H := upd (upd H r _) l _) (by rw [upd_ne pl, upd_ne pr]; exact ob) ?_
    walk_at "g"
    refine w_setL (H := upd (upd H r _) l _) (by rw [upd_ne (Ne.symm a.lo), upd_ne (Ne.symm a.ro)]; exact a.ho) io ?_
    walk_at "g"
  · exact fin _ _ (if_pos c).symm (if_pos c).symm
  · exact fin _ _ (if_neg c).symm (if_neg c).symm
theorem len_Links_apply (K : PySem.W.Frag) : ∀ vs H Q E, sp_Links_apply K vs H Q E → vs.length = (["self", "operation"] : List Str).length := by
  rintro vs H Q E ⟨_, _, _, _, _, _, rfl, _⟩
  rfl
theorem rd_Links_apply (T : Txt K mg) (vs : List V) (H : Hp) (Q : VK) (E : XK) (h : sp_Links_apply K vs H Q E) : t_Links_apply K E { nx := fun _ H' => Q .non H', rt := Q } (start ["self", "operation"] vs) H := by
  obtain ⟨p, r, l, o, s, op, rfl, a, h1, h2⟩ := h
  unfold t_Links_apply
  walk_at "g"
  refine w_me a no_m ?_
  walk_at "g"
  exact ⟨p, r, l, o, s, op, 0, rfl, a, h1, h2⟩
theorem len_Links_left (K : PySem.W.Frag) : ∀ vs H Q E, sp_Links_left K vs H Q E → vs.length = (["self", "node"] : List Str).length := by
  rintro vs H Q E ⟨_, _, _, _, _, _, rfl, _⟩
  rfl
theorem rd_Links_left (T : Txt K mg) (vs : List V) (H : Hp) (Q : VK) (E : XK) (h : sp_Links_left K vs H Q E) : t_Links_left K E { nx := fun _ H' => Q .non H', rt := Q } (start ["self", "node"] vs) H := by
  obtain ⟨p, r, l, o, s, v, rfl, a, h1, h2, h3⟩ := h
  unfold t_Links_left
  walk_at "g"
  refine w_iteD (fun c1 => ?_) (fun c1 => absurd (by omega) c1)
  walk_at "g"
  refine w_fS T.cl_Links T.na_Links_size a ?_
  walk_at "g"
  refine w_iteN (fun c1 => absurd (by omega) c1) (fun c1 => ?_)
  walk_at "g"
  refine w_fL T.cl_Links T.na_Links__lefts a ?_
  walk_at "g"
  refine w_ixL (SqL.of a.hl) (at_I (by omega) (by rw [a.wf.lL]; omega)) ?_
  exact h3
theorem len_Links_right (K : PySem.W.Frag) : ∀ vs H Q E, sp_Links_right K vs H Q E → vs.length = (["self", "node"] : List Str).length := by
  rintro vs H Q E ⟨_, _, _, _, _, _, rfl, _⟩
  rfl
theorem rd_Links_right (T : Txt K mg) (vs : List V) (H : Hp) (Q : VK) (E : XK) (h : sp_Links_right K vs H Q E) : t_Links_right K E { nx := fun _ H' => Q .non H', rt := Q } (start ["self", "node"] vs) H := by
  obtain ⟨p, r, l, o, s, v, rfl, a, h2, h3⟩ := h
  unfold t_Links_right
  walk_at "g"
  refine w_iteD (fun c1 => ?_) (fun c1 => absurd (by omega) c1)
  walk_at "g"
  refine w_fS T.cl_Links T.na_Links_size a ?_
  walk_at "g"
  refine w_iteN (fun c1 => absurd (by omega) c1) (fun c1 => ?_)
  walk_at "g"
  refine w_fR T.cl_Links T.na_Links__rights a ?_
  walk_at "g"
  refine w_ixL (SqL.of a.hr) (at_I (by omega) (by rw [a.wf.lR]; omega)) ?_
  exact h3
theorem len_gap_state (K : PySem.W.Frag) : ∀ vs H Q E, sp_gap_state K vs H Q E → vs.length = (["links", "gap"] : List Str).length := by
  rintro vs H Q E ⟨_, _, _, _, _, _, rfl, _⟩
  rfl
theorem rd_gap_state (T : Txt K mg) (vs : List V) (H : Hp) (Q : VK) (E : XK) (h : sp_gap_state K vs H Q E) : t_gap_state K E { nx := fun _ H' => Q .non H', rt := Q } (start ["links", "gap", "is_held_left", "is_held_right"] vs) H := by
  obtain ⟨p, r, l, o, s, g, rfl, a, h1, h2⟩ := h
  unfold t_gap_state
  walk_at "g"
  refine w_fS T.cl_Links T.na_Links_size a ?_
  walk_at "g"
  refine ⟨s.n, g, rfl, fun c => ?_, h2⟩
  obtain ⟨v, rfl⟩ : ∃ v : Nat, g = (v : Int) := ⟨g.toNat, by omega⟩
  walk_at "g"
  refine w_me a no_m ?_
  walk_at "g"
  refine ⟨p, r, l, o, s, v, rfl, a, by omega, ?_⟩
  walk_at "g"
  refine w_me a no_m ?_
  walk_at "g"
  refine ⟨p, r, l, o, s, v + 1, rfl, a, by omega, by omega, ?_⟩
  walk_at "g"
  have k := h1 c
  rw [Int.toNat_natCast] at k
  unfold stT at k
  refine w_iteD (fun c1 => ?_) (fun c1 => ?_)
  · rw [if_pos c1] at k
    walk_at "g"
    refine w_iteD (fun c2 => ?_) (fun c2 => ?_)
    · rw [if_pos c2] at k
      walk_at "g"
      exact k
    · rw [if_neg c2] at k
      walk_at "g"
      exact k
  · rw [if_neg c1] at k
    walk_at "g"
    refine w_iteD (fun c2 => ?_) (fun c2 => ?_)
    · rw [if_pos c2] at k
      walk_at "g"
      exact k
    · rw [if_neg c2] at k
      walk_at "g"
      exact k
theorem rg_nat (n : Nat) : rgV 0 (n : Int) = (rgI 0 n).map V.int := by
  unfold rgV rgI
  rw [show ((n : Int) - 0).toNat = n by omega, List.map_map] <;> rfl
theorem rg_one (n : Nat) : rgV 1 ((n : Int) + 1) = (rgI 1 n).map V.int := by
  unfold rgV rgI
  rw [show ((n : Int) + 1 - 1).toNat = n by omega, List.map_map] <;> rfl
theorem rg_one' (n : Nat) : rgV 1 ((n : Int) + 2) = (rgI 1 (n + 1)).map V.int := by
  rw [← rg_one (n + 1)]
  congr 1
theorem rg_nat' (n : Nat) : rgV 0 ((n : Int) + 1) = (rgI 0 (n + 1)).map V.int := by
  rw [← rg_nat (n + 1)] <;> rfl
theorem rep_flat {α : Type} (n : Nat) (x : α) : (List.replicate n [x]).flatten = List.replicate n x := by
  induction n with
  | zero => rfl
  | succ n ih => rw [List.replicate_succ, List.flatten_cons, ih, List.replicate_succ] <;> rfl
theorem rep_mapB (n : Nat) (x : Bool) : (List.replicate n x).map V.bl = List.replicate n (V.bl x) := by rw [List.map_replicate]
theorem putF_len (f : Str) (v : V) : ∀ fs : List (Str × V), (putF f v fs).length ≤ fs.length + 1
  | [] => Nat.le_refl _
  | (g, w) :: fs => by
    have ih := putF_len f v fs
    unfold putF
    split
    · exact Nat.le_succ _
    · exact Nat.succ_le_succ ih
theorem pl1 (a : Str) (x : V) : (putF a x []).length < 1000 := Nat.lt_of_le_of_lt (putF_len _ _ _) (Nat.le_of_ble_eq_true rfl)
theorem pl2 (a b : Str) (x y : V) : (putF b y (putF a x [])).length < 1000 := Nat.lt_of_le_of_lt (putF_len _ _ _) (by
  have := putF_len a x []
  show (putF a x []).length + 1 < 1000
  have e : ([] : List (Str × V)).length = 0 := rfl
  omega)
theorem pl3 (a b c : Str) (x y z : V) : (putF c z (putF b y (putF a x []))).length < 1000 := Nat.lt_of_le_of_lt (putF_len _ _ _) (by
  have h1 := putF_len b y (putF a x [])
  have h2 := putF_len a x []
  have e : ([] : List (Str × V)).length = 0 := rfl
  omega)
theorem len_Links___init__ (K : PySem.W.Frag) : ∀ vs H Q E, sp_Links___init__ K vs H Q E → vs.length = (["self", "size"] : List Str).length := by
  rintro vs H Q E ⟨_, _, _, rfl, _⟩
  rfl
theorem rd_Links___init__ (T : Txt K mg) (vs : List V) (H : Hp) (Q : VK) (E : XK) (h : sp_Links___init__ K vs H Q E) : t_Links___init__ K E { nx := fun _ H' => Q .non H', rt := Q } (start ["self", "size"] vs) H := by
  obtain ⟨p, dx, size, rfl, hp, h1, h2⟩ := h
  unfold t_Links___init__
  walk_at "g"
  refine ⟨size, rfl, fun ok => ?_, h2⟩
  have h1 := h1 ok
  obtain ⟨ok1, ok2⟩ := ok
  obtain ⟨n, rfl⟩ : ∃ n : Nat, size = (n : Int) := ⟨size.toNat, by omega⟩
  rw [Int.toNat_natCast] at h1
  walk_at "g"
  refine w_sT T.cl_Links T.na_Links_size hp (by decide) fun H1 k1 p1 => ?_
  walk_at "g"
  refine ⟨.of_le (by omega) (by omega) (by omega) (by omega), nw fun r H2 nr k2 hr => ?_⟩
  walk_at "g"
  have pr : p ≠ r := ne_of_none p1 nr
  refine w_sT T.cl_Links T.na_Links__rights (k2.at0 p1) (pl1 _ _) fun H3 k3 p3 => ?_
  have hr3 := k3.at1 (Ne.symm pr) hr
  walk_at "g"
  refine ⟨sz_ok (by show 1 ≤ 1000000; omega), nw fun z H4 nz k4 hz => ?_⟩
  walk_at "g"
  refine ⟨.of_le (by omega) (by omega) (by omega) (by omega), nw fun l0 H5 nl0 k5 hl0 => ?_⟩
  walk_at "g"
  refine w_addLN (k5.at0 hz) hl0 (by rw [rgV_length]; exact sz_ok (by show 1 + _ ≤ _; omega)) fun l H6 nl k6 hl => ?_
  have k46 := (k4.trans k5).trans k6
  walk_at "g"
  have pl : p ≠ l := ne_of_none (k5.at0 (k4.at0 p3)) nl
  have rl : r ≠ l := ne_of_none (k5.at0 (k4.at0 hr3)) nl
  refine w_sT T.cl_Links T.na_Links__lefts (k46.at0 p3) (pl2 _ _ _ _) fun H7 k7 p7 => ?_
  have hr7 := k7.at1 (Ne.symm pr) (k46.at0 hr3)
  have hl7 := k7.at1 (Ne.symm pl) hl
  walk_at "g"
  refine ⟨sz_ok (by show 1 ≤ 1000000; omega), nw fun z2 H8 nz2 k8 hz2 => ?_⟩
  walk_at "g"
  refine w_mulLN hz2 (by omega) (by omega) (sz_ok (by show 1 * _ ≤ _; omega)) fun o H9 no k9 ho => ?_
  walk_at "g"
  have po : p ≠ o := ne_of_none (k8.at0 p7) no
  have ro : r ≠ o := ne_of_none (k8.at0 hr7) no
  have lo : l ≠ o := ne_of_none (k8.at0 hl7) no
  have k89 := k8.trans k9
  refine w_sT T.cl_Links T.na_Links__out (k89.at0 p7) (pl3 _ _ _ _ _ _) fun Hx kx px => ?_
  have k03 : Kp [p] H H3 := k1.trans (k2.all.trans k3)
  have k07 : Kp [p] H H7 := k03.trans (k46.all.trans k7)
  have k0x : Kp [p] H Hx := k07.trans (k89.all.trans kx)
  have mp : ∀ b, H b = none → H3 b = none → True := fun _ _ _ => trivial
  refine h1 r l o Hx (k1.free (by simpa using Ne.symm pr) nr) ?_ ?_ k0x ⟨⟨dx, px⟩, ?_, ?_, ?_, rl, ro, lo, .whole (by omega)⟩
  · exact (k03.trans (k4.trans k5).all).free (by simpa using Ne.symm pl) nl
  · exact (k07.trans k8.all).free (by simpa using Ne.symm po) no
  · rw [kx.at1 (Ne.symm pr) (k89.at0 hr7), rg_one'] <;> rfl
  · rw [kx.at1 (Ne.symm pl) (k89.at0 hl7), rg_nat'] <;> rfl
  · rw [kx.at1 (Ne.symm po) ho, show ((n : Int) + 2).toNat = n + 2 by omega, rep_flat, ← rep_mapB] <;> rfl
theorem Kp.cut {S S' : List Addr} {H H' : Hp} (k : Kp S H H') (h : ∀ b ∈ S, b ∈ S' ∨ H b = none) : Kp S' H H' := fun b o n e => k b o (fun z => by
  rcases h b z with q | q
  · exact n q
  · rw [q] at e
    cases e) e
theorem Kp.cut1 {H H' : Hp} {p : Addr} (k : Kp [p] H H') (h : H p = none) : Kp [] H H' := k.cut (by simp [h])
theorem at_map {α : Type} {f : α → V} {l : List α} {i : Nat} {x : V} (h : (l.map f)[i]? = some x) : ∃ y, l[i]? = some y ∧ f y = x := by
  rw [List.getElem?_map] at h
  cases e : l[i]? with
  | none => rw [e] at h; cases h
  | some y => rw [e] at h; exact ⟨y, rfl, by injection h⟩
theorem take_snoc {α : Type} {l : List α} {i : Nat} {x : α} (h : l[i]? = some x) : l.take (i + 1) = l.take i ++ [x] := by
  rw [List.take_succ, h] <;> rfl
theorem len_gap_states (K : PySem.W.Frag) : ∀ vs H Q E, sp_gap_states K vs H Q E → vs.length = (["links"] : List Str).length := by
  rintro vs H Q E ⟨_, _, _, _, _, rfl, _⟩
  rfl
theorem rd_gap_states (T : Txt K mg) (vs : List V) (H : Hp) (Q : VK) (E : XK) (h : sp_gap_states K vs H Q E) : t_gap_states K E { nx := fun _ H' => Q .non H', rt := Q } (start ["links", "gap"] vs) H := by
  obtain ⟨p, r, l, o, s, rfl, a, g⟩ := h
  unfold t_gap_states
  walk_at "g"
  refine w_fS T.cl_Links T.na_Links_size a ?_
  walk_at "g"
  have n60 := a.wf.n60
  refine w_r1 (by omega) ?_
  rw [show ((s.n : Int) + 1).toNat = s.n + 1 by omega]
  refine cp_rng (fun i => (List.range i).map fun (v : Nat) => V.str (stT s v)) (fun i hi => sz_lt (by rw [List.length_map, List.length_range]; omega)) rfl ?_ (fun D H' n k h => g D H' n k h)
  intro i H' S N hi k y nn
  walk_at "g"
  refine ⟨rfl, ?_⟩
  walk_at "g"
  rw [Int.zero_add]
  refine ⟨p, r, l, o, s, (i : Int), rfl, a.k0 k, fun _ => ?_, fun bad => absurd ⟨by omega, by omega⟩ bad⟩
  refine y _ _ (Kp.refl _ _) ?_
  rw [List.range_succ, List.map_append, Int.toNat_natCast] <;> rfl
theorem len_lost_gaps (K : PySem.W.Frag) : ∀ vs H Q E, sp_lost_gaps K vs H Q E → vs.length = (["links"] : List Str).length := by
  rintro vs H Q E ⟨_, _, _, _, _, rfl, _⟩
  rfl
theorem rd_lost_gaps (T : Txt K mg) (vs : List V) (H : Hp) (Q : VK) (E : XK) (h : sp_lost_gaps K vs H Q E) : t_lost_gaps K E { nx := fun _ H' => Q .non H', rt := Q } (start ["links", "gap", "state"] vs) H := by
  obtain ⟨p, r, l, o, s, rfl, a, g⟩ := h
  unfold t_lost_gaps
  walk_at "g"
  refine ⟨p, r, l, o, s, rfl, a, fun q H1 nq k1 hq => ?_⟩
  walk_at "g"
  have n60 := a.wf.n60
  have lenq : ((List.range (s.n + 1)).map fun (v : Nat) => V.str (stT s v)).length = s.n + 1 := by rw [List.length_map, List.length_range]
  refine ⟨q, _, rfl, SqL.of hq, cp_enum (SqL.of hq) (fun i => ((List.range i).filter fun v => decide (stT s v = "lost")).map fun (v : Nat) => V.int (v : Int)) (fun i hi => ?_) rfl ?_ ?_⟩
  · rw [lenq] at hi
    refine sz_lt ?_
    rw [List.length_map]
    have := List.length_filter_le (fun v => decide (stT s v = "lost")) (List.range i)
    rw [List.length_range] at this
    omega
  · intro i x Tq H' S N hx k nT yes no
    obtain ⟨v, hv, rfl⟩ := at_map hx
    have hv' : i = v := by
      have := (List.getElem?_eq_some_iff.mp hv).2
      simpa using this
    subst hv'
    have kT : Kp [] H' (upd H' Tq (.tup [.int (i : Int), .str (stT s i)])) := Kp.new nT
    walk_at "g"
    refine ⟨rfl, ?_⟩
    walk_at "g"
    refine w_iteD (fun c => ?_) (fun c => ?_)
    · walk_at "g"
      refine yes _ _ kT ?_
      rw [List.range_succ, List.filter_append, List.map_append, List.filter_cons_of_pos (by rw [decide_eq_true c])] <;> rfl
    · refine no _ kT ?_
      rw [List.range_succ, List.filter_append, List.map_append, List.filter_cons_of_neg (by rw [decide_eq_false c]; exact Bool.false_ne_true), List.filter_nil, List.map_nil, List.append_nil]
  · intro D H' nD k hD
    rw [lenq] at hD
    exact g D H' (k1.free0 nD) (k1.trans k) hD
theorem w_sadd {w : World} {to : TE} {t : TA} {σ : L2.St} {H : Hp} {Q : VK} (g : to σ H fun x H1 => (∃ a S n, x = V.ref a ∧ H1 a = some (SetO w a S n)) ∧ t σ H1 fun xs H2 => rSAdd w x xs H2 Q) : tSAdd w to t σ H Q := g
theorem inS2 (x a b : Str) : inV (.str x) [.str a, .str b] = (decide (x = a) || decide (x = b)) := by
  show ((eqV (.str a) (.str x)) || ((eqV (.str b) (.str x)) || false)) = _
  have e : ∀ a b : Str, eqV (.str a) (.str b) = decide (b = a) := fun a b => by
    show (a == b) = _
    rw [Bool.eq_iff_iff, beq_iff_eq, decide_eq_true_iff]
    exact eq_comm
  rw [e, e, Bool.or_false]
theorem scan_ok {m : Nat} (h : m ≤ 100) : m + 1 < scanBound := Nat.lt_of_le_of_lt (Nat.succ_le_succ h) (by decide)
theorem len_sole_holders (K : PySem.W.Frag) : ∀ vs H Q E, sp_sole_holders K vs H Q E → vs.length = (["links"] : List Str).length := by
  rintro vs H Q E ⟨_, _, _, _, _, rfl, _⟩
  rfl
theorem rd_sole_holders (w : World) (T : Txt K mg) (vs : List V) (H : Hp) (Q : VK) (E : XK) (h : sp_sole_holders K vs H Q E) : t_sole_holders K w E { nx := fun _ H' => Q .non H', rt := Q } (start ["links", "holders", "gap", "state"] vs) H := by
  obtain ⟨p, r, l, o, s, rfl, a, g⟩ := h
  unfold t_sole_holders
  have wf := a.wf
  have n60 := wf.n60
  walk_at "g"
  refine ⟨rfl, fun q nq => ?_⟩
  have k1 : Kp [] H (upd H q (SetO w q (fun _ => false) 0)) := Kp.new nq
  have hq : (upd H q (SetO w q (fun _ => false) 0)) q = some (SetO w q (fun _ => false) 0) := upd_same
  generalize upd H q (SetO w q (fun _ => false) 0) = H1 at k1 hq ⊢
  walk_at "g"
  refine ⟨p, r, l, o, s, rfl, a.k0 k1, fun u H2 nu k2 hu => ?_⟩
  walk_at "g"
  have qu : q ≠ u := ne_of_none hq nu
  have lenu : ((List.range (s.n + 1)).map fun (v : Nat) => V.str (stT s v)).length = s.n + 1 := by rw [List.length_map, List.length_range]
  have S0 : holdB s 0 = fun _ => false := rfl
  rw [← S0] at hq
  refine ⟨u, _, rfl, SqL.of hu, lp_enum (xs := (List.range (s.n + 1)).map fun (v : Nat) => V.str (stT s v)) (fun i σ H' => (∃ x2 x3, σ = [some (.ref p), some (.ref q), x2, x3]) ∧ Kp [q] H2 H' ∧ ∃ m, H' q = some (SetO w q (holdB s i) m) ∧ m ≤ i) ⟨⟨_, _, rfl⟩, Kp.refl _ _, 0, k2.at0 hq, Nat.le_refl _⟩ ?_ ?_ ?_⟩
  · rintro i σ' H' hi ⟨_, k, _⟩
    exact SqL.of (k.at1 (Ne.symm qu) hu)
  · rintro i x T1 σ' H' hx ⟨⟨x2, x3, rfl⟩, k, m, hm, mi⟩ nT
    obtain ⟨v, hv, rfl⟩ := at_map hx
    have hv' : i = v := by
      have := (List.getElem?_eq_some_iff.mp hv).2
      simpa using this
    have hlt : i < s.n + 1 := by
      have := (List.getElem?_eq_some_iff.mp hv).1
      simpa using this
    subst hv'
    have kT : Kp [] H' (upd H' T1 (.tup [.int (i : Int), .str (stT s i)])) := Kp.new nT
    walk_at "g"
    refine ⟨sz_ok (by show 2 ≤ 1000000; omega), nw fun t H3 nt k3 ht => ?_⟩
    refine w_inT (SqT.of ht) rfl rfl ?_
    rw [if_neg Bool.false_ne_true, inS2]
    have hm3 : H3 q = some (SetO w q (holdB s i) m) := k3.at0 (kT.at0 hm)
    have kk : Kp [q] H2 H3 := k.trans (kT.trans k3).all
    have done : ∀ (z : Int) (H4 : Hp), H4 = upd H3 q (SetO w q (fun j => holdB s i j || decide (j = z)) (if holdB s i z = true then m else m + 1)) → (∀ j : Int, holdB s (i + 1) j = (holdB s i j || decide (j = z))) → Kp [q] H2 H4 ∧ ∃ m', H4 q = some (SetO w q (holdB s (i + 1)) m') ∧ m' ≤ i + 1 := by
      intro z H4 e4 eS
      subst e4
      refine ⟨kk.trans (Kp.put (by simp)), (if holdB s i z = true then m else m + 1), ?_, ?_⟩
      · rw [upd_same]
        congr 2
        funext j
        exact (eS j).symm
      · split <;> omega
    walk_at "g"
    rcases st_cases s i with ⟨y1, y2, y3⟩ | ⟨y1, y2, y3⟩ | ⟨y1, y2, y3⟩ | ⟨y1, y2, y3⟩
    · rw [y3]
      refine w_tF (A := _) ?_
      walk_at "g"
      refine ⟨⟨_, _, rfl⟩, kk, m, ?_, by omega⟩
      rw [hm3]
      congr 2
      funext j
      rw [holdB_snoc, y3]
      simp [ne_w]
    · rw [y3]
      refine w_tT (B := _) ?_
      walk_at "g"
      refine w_sadd ?_
      walk_at "g"
      refine ⟨⟨q, _, _, rfl, hm3⟩, ?_⟩
      walk_at "g"
      refine w_iteD (fun _ => ?_) (fun z => absurd rfl z)
      walk_at "g"
      refine ⟨q, (i : Int), _, m, rfl, rfl, hm3, scan_ok (by omega), ?_⟩
      obtain ⟨z1, z2⟩ := done i _ rfl fun j => by
        rw [holdB_snoc, y3]
        simp [ne_w]
      exact ⟨⟨_, _, rfl⟩, z1, z2⟩
    · rw [y3]
      refine w_tT (B := _) ?_
      walk_at "g"
      refine w_sadd ?_
      walk_at "g"
      refine ⟨⟨q, _, _, rfl, hm3⟩, ?_⟩
      walk_at "g"
      refine w_iteD (fun z => absurd z (by decide +kernel)) (fun _ => ?_)
      walk_at "g"
      refine ⟨q, (i : Int) + 1, _, m, rfl, rfl, hm3, scan_ok (by omega), ?_⟩
      obtain ⟨z1, z2⟩ := done ((i : Int) + 1) _ rfl fun j => by
        rw [holdB_snoc, y3]
        simp [ne_w]
      exact ⟨⟨_, _, rfl⟩, z1, z2⟩
    · rw [y3]
      refine w_tF (A := _) ?_
      walk_at "g"
      refine ⟨⟨_, _, rfl⟩, kk, m, ?_, by omega⟩
      rw [hm3]
      congr 2
      funext j
      rw [holdB_snoc, y3]
      simp [ne_w]
  · rintro σ' H' ⟨⟨x2, x3, rfl⟩, k, m, hm, mi⟩
    rw [lenu] at hm mi
    walk_at "g"
    refine ⟨q, _, m, rfl, hm, by omega, fun ns d so mem ln nd => ?_⟩
    have e : ns = aloneL s := sorted_ext so (alone_sorted s) fun x => by rw [mem, holdB_all wf]
    subst e
    have kH : Kp [] H H' := ((k1.trans k2).all.trans k).cut1 nq
    exact g d _ (kH.free0 nd) (kH.trans (Kp.new nd)) upd_same
theorem len_Links_outs (K : PySem.W.Frag) : ∀ vs H Q E, sp_Links_outs K vs H Q E → vs.length = (["self"] : List Str).length := by
  rintro vs H Q E ⟨_, _, _, _, _, rfl, _⟩
  rfl
theorem rd_Links_outs (T : Txt K mg) (vs : List V) (H : Hp) (Q : VK) (E : XK) (h : sp_Links_outs K vs H Q E) : t_Links_outs K E { nx := fun _ H' => Q .non H', rt := Q } (start ["self", "node"] vs) H := by
  obtain ⟨p, r, l, o, s, rfl, a, g⟩ := h
  unfold t_Links_outs
  have n60 := a.wf.n60
  walk_at "g"
  refine w_fS T.cl_Links T.na_Links_size a ?_
  walk_at "g"
  refine w_r2 (by omega) ?_
  rw [show ((s.n : Int) + 1 - 1).toNat = s.n by omega]
  refine cp_rng (fun i => (outN i s.O).map V.int) (fun i hi => sz_lt (by
    rw [List.length_map]
    have := outN_len i s.O
    omega)) rfl (fun i H' S N hi k y no => ?_) (fun D H' nD k hD => g D H' nD k hD)
  walk_at "g"
  refine ⟨rfl, ?_⟩
  walk_at "g"
  refine w_fO T.cl_Links T.na_Links__out (a.k0 k) ?_
  walk_at "g"
  refine w_ixL (SqL.of (k.at0 a.ho)) (at_B (by omega) (by rw [a.wf.lO]; omega)) ?_
  walk_at "g"
  rw [show ((1 : Int) + (i : Int)).toNat = i + 1 by omega]
  refine w_iteB (fun c1 => ?_) (fun c1 => ?_)
  · walk_at "g"
    refine y _ _ (Kp.refl _ _) ?_
    unfold outN
    rw [List.range_succ, List.map_append, List.filter_append, List.map_append, List.map_append]
    congr 1
    show (([i + 1].filter fun v => gB s.O v).map _).map _ = _
    rw [List.filter_cons_of_pos c1]
    show [V.int ((i + 1 : Nat) : Int)] = [V.int (1 + (i : Int))]
    rw [Int.add_comm] <;> rfl
  · refine no _ (Kp.refl _ _) ?_
    unfold outN
    rw [List.range_succ, List.map_append, List.filter_append, List.map_append, List.map_append]
    show _ ++ (([i + 1].filter fun v => gB s.O v).map _).map _ = _
    rw [List.filter_cons_of_neg (by rw [c1]; exact Bool.false_ne_true)]
    exact List.append_nil _
theorem num9_of {l : List Int} (h : ∀ v, v < l.length → 0 ≤ gI l v ∧ gI l v ≤ 100) : Num9 l := by
  intro i hi
  obtain ⟨j, hj⟩ := List.getElem?_of_mem hi
  have := h j (List.getElem?_eq_some_iff.mp hj).1
  rw [gI_of hj] at this
  omega
theorem outN_9 {n : Nat} (h : n ≤ 60) (O : List Bool) : Num9 (outN n O) := fun i hi => by
  have := outN_bd hi
  omega
theorem log_ok {i : Int} (h : 0 ≤ i) (h2 : i < 1000000000) : i.natAbs.log2 < 1920 := by
  by_cases z : i.natAbs = 0
  · rw [z]
    decide
  · rw [Nat.log2_lt z]
    exact Nat.lt_of_lt_of_le (show i.natAbs < 2 ^ 30 by omega) (Nat.pow_le_pow_right (by decide) (by decide))
theorem len__joined (K : PySem.W.Frag) : ∀ vs H Q E, sp__joined K vs H Q E → vs.length = (["numbers"] : List Str).length := by
  rintro vs H Q E ⟨_, _, rfl, _⟩
  rfl
theorem rd__joined (T : Txt K mg) (vs : List V) (H : Hp) (Q : VK) (E : XK) (h : sp__joined K vs H Q E) : t__joined K E { nx := fun _ H' => Q .non H', rt := Q } (start ["numbers", "number"] vs) H := by
  obtain ⟨a, l, rfl, ha, h9, hl, g⟩ := h
  unfold t__joined
  walk_at "g"
  refine w_l1 ha ?_
  refine cp_lst ha (fun j => (l.take j).map fun i => V.str (numI i)) (fun j hj => sz_lt (by rw [List.length_map, List.length_take]; omega)) rfl (fun j x H' S N hx k y _ => ?_) (fun D H1 nD k1 hD => ?_)
  · obtain ⟨v, hv, rfl⟩ := at_map hx
    have b := h9 v (List.mem_of_getElem? hv)
    walk_at "g"
    refine ⟨rfl, ?_⟩
    walk_at "g"
    refine w_str (log_ok b.1 b.2) ?_
    exact y _ _ (Kp.refl _ _) (map_snoc (f := fun i => V.str (numI i)) hv)
  · rw [List.length_map, List.take_length] at hD
    have e : (l.map fun i => V.str (numI i)) = (l.map numI).map V.str := by rw [List.map_map] <;> rfl
    rw [e] at hD
    exact w_joinL (SqL.of hD) (join_cost h9 (by omega)) (g H1 k1)
theorem outsT_len {l : List Int} (h : Num9 l) : (outsT l).length ≤ 10 * l.length + 4 := by
  unfold outsT
  split
  · have : noneS.length = 4 := by decide +kernel
    omega
  · have := joinI_len h
    omega
theorem len_dump_of (K : PySem.W.Frag) : ∀ vs H Q E, sp_dump_of K vs H Q E → vs.length = (["rights", "lefts", "outs"] : List Str).length := by
  rintro vs H Q E ⟨_, _, _, _, _, _, rfl, _⟩
  rfl
theorem rd_dump_of (T : Txt K mg) (vs : List V) (H : Hp) (Q : VK) (E : XK) (h : sp_dump_of K vs H Q E) : t_dump_of K E { nx := fun _ H' => Q .non H', rt := Q } (start ["rights", "lefts", "outs"] vs) H := by
  obtain ⟨r, l, o, R, L, O, rfl, hr, hl, ho, ⟨R9, Rl⟩, ⟨L9, Ll⟩, ⟨O9, Ol⟩, g⟩ := h
  unfold t_dump_of
  walk_at "g"
  refine ⟨r, R, rfl, hr, R9, Rl, fun H1 k1 => ?_⟩
  walk_at "g"
  refine ⟨l, L, rfl, k1.sql (by simp) hl, L9, Ll, fun H2 k2 => ?_⟩
  walk_at "g"
  have ho2 := (k1.trans k2).sql (by simp) ho
  refine w_truL ho2 ?_
  have R10 := joinI_len R9
  have L10 := joinI_len L9
  have O10 := outsT_len O9
  have cost : ([joinI R, joinI L, outsT O].map (·.length)).sum + [joinI R, joinI L, outsT O].length * (" | " : Str).length ≤ 16777216 := by
    have e : (" | " : Str).length = 3 := by decide +kernel
    rw [e]
    show (joinI R).length + ((joinI L).length + ((outsT O).length + 0)) + 3 * 3 ≤ _
    omega
  cases O with
  | nil =>
    have eo : outsT [] = ("none" : Str) := if_pos rfl
    refine w_tF (A := _) ?_
    walk_at "g"
    refine ⟨sz_ok (by show 3 ≤ 1000000; omega), nw fun q H4 nq k4 hq => ?_⟩
    rw [eo] at g cost
    exact w_joinL (ss := [joinI R, joinI L, ("none" : Str)]) (SqL.of hq) cost (g H4 ((k1.trans k2).trans k4))
  | cons a t =>
    have eo : outsT (a :: t) = joinI (a :: t) := if_neg (by simp)
    refine w_tT (B := _) ?_
    walk_at "g"
    refine ⟨o, a :: t, rfl, ho2, O9, Ol, fun H3 k3 => ?_⟩
    walk_at "g"
    refine ⟨sz_ok (by show 3 ≤ 1000000; omega), nw fun q H4 nq k4 hq => ?_⟩
    rw [eo] at g cost
    exact w_joinL (ss := [joinI R, joinI L, joinI (a :: t)]) (SqL.of hq) cost (g H4 (((k1.trans k2).trans k3).trans k4))
theorem Wf.R9 {s : Sd} (w : Wf s) : Num9 s.R ∧ s.R.length ≤ 100 := by
  have n60 := w.n60
  have lR := w.lR
  refine ⟨num9_of fun v hv => ?_, by omega⟩
  have := w.rb v (by omega)
  omega
theorem Wf.L9 {s : Sd} (w : Wf s) : Num9 (s.L.drop 1) ∧ (s.L.drop 1).length ≤ 100 := by
  have n60 := w.n60
  have lL := w.lL
  have ll : (s.L.drop 1).length = s.n + 1 := by rw [List.length_drop]; omega
  refine ⟨num9_of fun v hv => ?_, by omega⟩
  have e : gI (s.L.drop 1) v = gI s.L (v + 1) := by
    unfold gI
    rw [List.getD_eq_getElem?_getD, List.getD_eq_getElem?_getD, List.getElem?_drop, Nat.add_comm]
  have := w.lb (v + 1) (by omega) (by omega)
  rw [e]
  omega
theorem len_Links_dump (K : PySem.W.Frag) : ∀ vs H Q E, sp_Links_dump K vs H Q E → vs.length = (["self"] : List Str).length := by
  rintro vs H Q E ⟨_, _, _, _, _, rfl, _⟩
  rfl
theorem rd_Links_dump (T : Txt K mg) (vs : List V) (H : Hp) (Q : VK) (E : XK) (h : sp_Links_dump K vs H Q E) : t_Links_dump K E { nx := fun _ H' => Q .non H', rt := Q } (start ["self"] vs) H := by
  obtain ⟨p, r, l, o, s, rfl, a, g⟩ := h
  unfold t_Links_dump
  have n60 := a.wf.n60
  have lL := a.wf.lL
  walk_at "g"
  refine w_fR T.cl_Links T.na_Links__rights a ?_
  walk_at "g"
  refine w_fL T.cl_Links T.na_Links__lefts a ?_
  walk_at "g"
  refine w_slL (SqL.of a.hl) fun q H1 nq k1 hq => ?_
  have e1 : cutV (s.L.map V.int) (some 1) none = (s.L.map V.int).drop 1 := cut_drop _ 1 (by rw [List.length_map]; omega)
  rw [e1, ← List.map_drop] at hq
  walk_at "g"
  have a1 := a.k0 k1
  refine w_me a1 no_m ?_
  walk_at "g"
  refine ⟨p, r, l, o, s, rfl, a1, fun u H2 nu k2 hu => ?_⟩
  walk_at "g"
  exact ⟨r, q, u, s.R, _, _, rfl, SqL.of (k2.at0 a1.hr), SqL.of (k2.at0 hq), SqL.of hu, a.wf.R9, a.wf.L9, ⟨outN_9 n60 s.O, by have := outN_len s.n s.O; omega⟩, fun H3 k3 => g H3 ((k1.trans k2).trans k3)⟩
theorem dpI {H : Hp} : ∀ xs : List Int, DpAll K H (xs.map V.int) (xs.map PyData.int)
  | [] => .nil
  | x :: xs => .cons (.int x) (dpI xs)
theorem layI : ∀ xs : List Int, PyData.canLayAll0 (xs.map PyData.int) = true
  | [] => by simp [PyData.canLayAll0]
  | x :: xs => by
    show PyData.canLayAll0 (PyData.int x :: xs.map PyData.int) = true
    rw [PyData.canLayAll0, layI xs]
    simp [PyData.canLay0]
theorem depI : ∀ xs : List Int, PyData.depthAll (xs.map PyData.int) ≤ 1
  | [] => by simp [PyData.depthAll]
  | x :: xs => by
    have := depI xs
    show PyData.depthAll (PyData.int x :: xs.map PyData.int) ≤ 1
    rw [PyData.depthAll]
    simp [PyData.depth]
    omega
theorem shI (xs : List Int) : SeqAt.shaped (.list (xs.map PyData.int)) = true := by
  unfold SeqAt.shaped
  rw [PyData.canLay0, layI, PyData.depth]
  have := depI xs
  simp
  omega
theorem sh0 : SeqAt.shaped (.list []) = true := by simp [SeqAt.shaped, PyData.canLay0, PyData.canLayAll0, PyData.depth, PyData.depthAll]
theorem w_isiI {H : Hp} {Q : VK} {i : Int} {t : String} {r : Bool} (h : kitB "int" t = some r) (g : Q (.bl r) H) : rIsi K [.int i, .ty t] H Q := ⟨_, _, _, _, r, rfl, .ty t, .base (.int i), kit_ty h, g⟩
theorem w_isiL {H : Hp} {Q : VK} {a : Addr} {xs : List V} {t : String} {r : Bool} (e : H a = some (.lst xs)) (h : kitB "list" t = some r) (g : Q (.bl r) H) : rIsi K [.ref a, .ty t] H Q := ⟨_, _, _, _, r, rfl, .ty t, .base (.lst e), kit_ty h, g⟩
theorem len_Links_is_out (K : PySem.W.Frag) : ∀ vs H Q E, sp03_Links_is_out K vs H Q E → vs.length = (["self", "node"] : List Str).length := by
  rintro vs H Q E ⟨_, _, _, _, _, _, rfl, _⟩
  rfl
theorem rd_Links_is_out (T : Txt K mg) (vs : List V) (H : Hp) (Q : VK) (E : XK) (h : sp03_Links_is_out K vs H Q E) : t_Links_is_out K E { nx := fun _ H' => Q .non H', rt := Q } (start ["self", "node"] vs) H := by
  obtain ⟨p, r, l, o, s, v, rfl, a, h2, h3⟩ := h
  unfold t_Links_is_out
  walk_at "g"
  refine w_iteD (fun c1 => ?_) (fun c1 => absurd (by omega) c1)
  walk_at "g"
  refine w_fS T.cl_Links T.na_Links_size a ?_
  walk_at "g"
  refine w_iteN (fun c1 => absurd (by omega) c1) (fun c1 => ?_)
  walk_at "g"
  refine w_fO T.cl_Links T.na_Links__out a ?_
  walk_at "g"
  refine w_ixL (SqL.of a.ho) (at_B (by omega) (by rw [a.wf.lO]; omega)) ?_
  exact h3
theorem len_foreign_writes (K : PySem.W.Frag) : ∀ vs H Q E, sp_foreign_writes K vs H Q E → vs.length = (["links", "operation"] : List Str).length := by
  rintro vs H Q E ⟨_, _, _, _, _, _, rfl, _⟩
  rfl
theorem rd_foreign_writes (T : Txt K mg) (vs : List V) (H : Hp) (Q : VK) (E : XK) (h : sp_foreign_writes K vs H Q E) : t_foreign_writes K E { nx := fun _ H' => Q .non H', rt := Q } (start ["links", "operation", "node", "low", "high", "written"] vs) H := by
  obtain ⟨p, r, l, o, s, op, rfl, a, g, bad⟩ := h
  unfold t_foreign_writes
  walk_at "g"
  refine w_me a no_m ?_
  walk_at "g"
  refine ⟨p, r, l, o, s, op, 0, rfl, a, fun ok => ?_, bad⟩
  have g := g ok
  have wf := a.wf
  have n60 := wf.n60
  obtain ⟨v1, v2⟩ := ok.1
  generalize ev : op.natAbs = v at v1 v2 g
  obtain ⟨r1, r2⟩ := wf.rb v (by omega)
  obtain ⟨l1, l2⟩ := wf.lb v (by omega) (by omega)
  obtain ⟨lo, elo⟩ : ∃ lo : Nat, gI s.L v = (lo : Int) := ⟨(gI s.L v).toNat, by omega⟩
  obtain ⟨hi, ehi⟩ : ∃ hi : Nat, gI s.R v = (hi : Int) := ⟨(gI s.R v).toNat, by omega⟩
  walk_at "g"
  rw [natAbs_if, ev]
  refine w_me a no_m ?_
  walk_at "g"
  refine ⟨p, r, l, o, s, v, rfl, a, v1, by omega, ?_⟩
  walk_at "g"
  rw [elo]
  refine w_me a no_m ?_
  walk_at "g"
  refine ⟨p, r, l, o, s, v, rfl, a, v2, ?_⟩
  rw [ehi]
  walk_at "j"
  refine ⟨sz_ok (Nat.zero_le _), nw fun q H1 nq k1 hq => ?_⟩
  walk_at "j"
  unfold forW at g
  rw [elo, ehi, Int.toNat_natCast, Int.toNat_natCast] at g
  generalize e1 : (if (lo : Int) ≠ (v : Int) - 1 ∧ gI s.R lo = (lo : Int) + 1 then [(lo : Int)] else []) = g1 at g
  generalize e2 : (if (hi : Int) ≠ (v : Int) + 1 ∧ gI s.L hi = (hi : Int) - 1 then [(hi : Int) - 1] else []) = g2 at g
  have l1' : g1.length ≤ 1 := by rw [← e1]; split <;> simp
  have fin : ∀ H', Kp [q] H1 H' → H' q = some (.lst ((g1 ++ g2).map V.int)) → Q (.ref q) H' := fun H' k h => g q H' nq (k1.all.trans k |>.cut1 nq) h
  have pq : p ≠ q := by
    obtain ⟨dx, ob⟩ := a.ob
    exact ne_of_none ob nq
  have a1 := a.k0 k1
  refine w_ifK (fun H' => Kp [q] H1 H' ∧ H' q = some (.lst (g1.map V.int))) (fun N hN => ?_) (fun H2 ⟨k2, hq2⟩ => ?_)
  · walk_at "g"
    refine w_iteN (fun c1 => ?_) (fun c1 => ?_)
    · walk_at "g"
      refine w_me a1 no_m ?_
      walk_at "g"
      refine ⟨p, r, l, o, s, lo, rfl, a1, by omega, ?_⟩
      walk_at "g"
      refine w_iteD (fun c2 => ?_) (fun c2 => ?_)
      · walk_at "g"
        refine ⟨w_ty (SqL.of hq), ?_⟩
        walk_at "g"
        refine w_apT hq (sz_lt (by show 0 < 1000000; omega)) fun H2 k2 hq2 => ?_
        refine hN _ ⟨k2, ?_⟩
        rw [if_pos ⟨c1, c2⟩] at e1
        rw [hq2, ← e1] <;> rfl
      · walk_at "g"
        refine hN _ ⟨Kp.refl _ _, ?_⟩
        rw [if_neg (fun z => c2 z.2)] at e1
        rw [hq, ← e1] <;> rfl
    · walk_at "g"
      refine hN _ ⟨Kp.refl _ _, ?_⟩
      rw [if_neg (fun z => z.1 c1)] at e1
      rw [hq, ← e1] <;> rfl
  walk_at "j"
  have a2 : LinksAt K H2 p r l o s := a1.kp k2 (by simpa using pq) (by simpa using ne_of_none a.hr nq) (by simpa using ne_of_none a.hl nq) (by simpa using ne_of_none a.ho nq)
  refine w_ifK (fun H' => Kp [q] H1 H' ∧ H' q = some (.lst ((g1 ++ g2).map V.int))) (fun N hN => ?_) (fun H3 ⟨k3, hq3⟩ => ?_)
  · walk_at "g"
    refine w_iteN (fun c1 => ?_) (fun c1 => ?_)
    · walk_at "g"
      refine w_me a2 no_m ?_
      walk_at "g"
      refine ⟨p, r, l, o, s, hi, rfl, a2, by omega, by omega, ?_⟩
      walk_at "g"
      refine w_iteD (fun c2 => ?_) (fun c2 => ?_)
      · walk_at "g"
        refine ⟨w_ty (SqL.of hq2), ?_⟩
        walk_at "g"
        refine w_apT hq2 (sz_lt (by rw [List.length_map]; omega)) fun H3 k3 hq3 => ?_
        refine hN _ ⟨k2.trans k3, ?_⟩
        rw [if_pos ⟨c1, c2⟩] at e2
        rw [hq3, ← e2, List.map_append] <;> rfl
      · walk_at "g"
        refine hN _ ⟨k2, ?_⟩
        rw [if_neg (fun z => c2 z.2)] at e2
        rw [hq2, ← e2, List.append_nil]
    · walk_at "g"
      refine hN _ ⟨k2, ?_⟩
      rw [if_neg (fun z => z.1 c1)] at e2
      rw [hq2, ← e2, List.append_nil]
  walk_at "g"
  exact fin H3 k3 hq3
theorem PrsAt.kp {S : List Addr} {H H' : Hp} {xs : List V} {es : List (Nat × Str)} (h : PrsAt H xs es) (k : Kp S H H') (hS : ∀ b ∈ S, ∀ ys, H b ≠ some (.tup ys)) : PrsAt H' xs es := by
  refine ⟨h.1, fun i t e => ?_⟩
  obtain ⟨a, h1, h2⟩ := h.2 i t e
  exact ⟨a, h1, k _ _ (fun z => hS a z _ h2) h2⟩
theorem PrsAt.k0 {H H' : Hp} {xs : List V} {es : List (Nat × Str)} (h : PrsAt H xs es) (k : Kp [] H H') : PrsAt H' xs es := h.kp k (by simp)
theorem PrsAt.nil {H : Hp} : PrsAt H [] [] := ⟨rfl, fun i t e => by simp at e⟩
theorem len_Links_copy (K : PySem.W.Frag) : ∀ vs H Q E, sp_Links_copy K vs H Q E → vs.length = (["self"] : List Str).length := by
  rintro vs H Q E ⟨_, _, _, _, _, rfl, _⟩
  rfl
theorem rd_Links_copy (T : Txt K mg) (vs : List V) (H : Hp) (Q : VK) (E : XK) (h : sp_Links_copy K vs H Q E) : t_Links_copy K E { nx := fun _ H' => Q .non H', rt := Q } (start ["self", "twin"] vs) H := by
  obtain ⟨p, r, l, o, s, rfl, a, g⟩ := h
  unfold t_Links_copy
  walk_at "g"
  refine w_fS T.cl_Links T.na_Links_size a ?_
  walk_at "g"
  refine mk fun q dx H1 nq hq k1 => ?_
  refine ⟨q, dx, s.n, rfl, hq, fun ok r1 l1 o1 H2 nr1 nl1 no1 k2 b => ⟨rfl, ?_⟩, fun z => absurd ⟨by omega, by have := a.wf.n60; omega⟩ z⟩
  have a1 := a.k0 k1
  obtain ⟨dx1, ob1⟩ := a1.ob
  have qp : p ≠ q := by
    obtain ⟨dx0, ob⟩ := a.ob
    exact ne_of_none ob nq
  have qr : r ≠ q := ne_of_none a.hr nq
  have ql : l ≠ q := ne_of_none a.hl nq
  have qo : o ≠ q := ne_of_none a.ho nq
  have a2 := a1.kp k2 (by simpa using qp) (by simpa using qr) (by simpa using ql) (by simpa using qo)
  walk_at "g"
  refine w_fR T.cl_Links T.na_Links__rights a2 ?_
  walk_at "g"
  refine w_listLN (SqL.of a2.hr) fun r3 H3 nr3 k3 hr3 => ?_
  walk_at "g"
  have b3 := b.k0 k3
  obtain ⟨dx3, ob3⟩ := b3.ob
  refine w_sT T.cl_Links T.na_Links__rights ob3 (fl_len _ _ _ _) fun H4 k4 p4 => ?_
  rw [fl_putR] at p4
  have a4 := (a2.k0 k3).kp k4 (by simpa using qp) (by simpa using qr) (by simpa using ql) (by simpa using qo)
  walk_at "g"
  refine w_fL T.cl_Links T.na_Links__lefts a4 ?_
  walk_at "g"
  refine w_listLN (SqL.of a4.hl) fun l5 H5 nl5 k5 hl5 => ?_
  walk_at "g"
  refine w_sT T.cl_Links T.na_Links__lefts (k5.at0 p4) (fl_len _ _ _ _) fun H6 k6 p6 => ?_
  rw [fl_putL] at p6
  have a6 := (a4.k0 k5).kp k6 (by simpa using qp) (by simpa using qr) (by simpa using ql) (by simpa using qo)
  walk_at "g"
  refine w_fO T.cl_Links T.na_Links__out a6 ?_
  walk_at "g"
  refine w_listLN (SqL.of a6.ho) fun o7 H7 no7 k7 ho7 => ?_
  walk_at "g"
  refine w_sT T.cl_Links T.na_Links__out (k7.at0 p6) (fl_len _ _ _ _) fun H8 k8 p8 => ?_
  rw [fl_putO] at p8
  walk_at "g"
  have rq : r3 ≠ q := (ne_of_none b.ob.choose_spec nr3).symm
  have lq : l5 ≠ q := (ne_of_none p4 nl5).symm
  have oq : o7 ≠ q := (ne_of_none p6 no7).symm
  have hr4 := k4.at1 rq hr3
  have hr6 := k6.at1 rq (k5.at0 hr4)
  have hl6 := k6.at1 lq hl5
  have k02 : Kp [q] H H2 := k1.all.trans k2
  have k04 : Kp [q] H H4 := k02.trans (k3.all.trans k4)
  have k06 : Kp [q] H H6 := k04.trans (k5.all.trans k6)
  have k08 : Kp [q] H H8 := k06.trans (k7.all.trans k8)
  refine g q r3 l5 o7 H8 nq (k02.free (by simpa using rq) nr3) (k04.free (by simpa using lq) nl5) (k06.free (by simpa using oq) no7) (k08.cut1 nq) ⟨⟨dx3, p8⟩, k8.at1 rq (k7.at0 hr6), k8.at1 lq (k7.at0 hl6), k8.at1 oq ho7, ?_, ?_, ?_, a.wf⟩
  · exact ne_of_none hr4 nl5
  · exact ne_of_none hr6 no7
  · exact ne_of_none hl6 no7
end
end G
set_option Elab.async false
set_option linter.all false
set_option maxRecDepth 100000
set_option maxHeartbeats 1000000
namespace G
--#FAM KW
open PySem PySem.Spec PyProof.Rows L2
local macro_rules
  | `(tactic| walk_at "1") => `(tactic| first
    | with_reducible refine w_seq ?_
    | with_reducible refine w_asg ?_
    | with_reducible refine w_asgS ?_
    | with_reducible refine w_asf ?_
    | with_reducible refine w_drop ?_
    | with_reducible refine w_ret ?_
    | with_reducible refine w_if ?_
    | with_reducible refine w_not ?_
    | with_reducible refine w_and ?_
    | with_reducible refine w_or ?_
    | with_reducible refine w_test ?_
    | with_reducible refine w_tb ?_
    | with_reducible refine w_chain ?_
    | with_reducible refine w_op ?_
    | with_reducible refine w_un ?_
    | with_reducible refine w_andV ?_
    | with_reducible refine w_orV ?_
    | with_reducible refine w_notV ?_
    | with_reducible refine w_ifE ?_
    | with_reducible refine w_cons ?_
    | with_reducible refine w_nil ?_
    | with_reducible refine w_cb ?_
    | with_reducible refine w_cl ?_
    | with_reducible refine w_mt ?_
    | with_reducible refine w_fld ?_
    | with_reducible refine w_tupN ?_
    | with_reducible refine w_lstN ?_
    | with_reducible refine w_bm ?_
    | with_reducible refine w_bm0 ?_
    | with_reducible refine w_for ?_
    | with_reducible refine w_lc ?_
    | with_reducible refine w_iR1 ?_
    | with_reducible refine w_iR2 ?_
    | with_reducible refine w_iL ?_
    | with_reducible refine w_iT ?_
    | with_reducible refine w_iE ?_
    | with_reducible refine w_iZ ?_
    | with_reducible refine w_var (by with_unfolding_all rfl) ?_
    | with_reducible refine w_c ?_
    | with_reducible refine w_next ?_
    | with_reducible refine w_i0 ?_
    | with_reducible refine w_u1 ?_
    | with_reducible refine w_addI ?_
    | with_reducible refine w_eqI ?_
    | with_reducible refine w_eqS ?_
    | with_reducible refine w_eqB ?_
    | with_reducible refine w_neI ?_
    | with_reducible refine w_neS ?_
    | with_reducible refine w_neB ?_
    | with_reducible refine w_abs ?_
    | with_reducible refine w_intI ?_
    | with_reducible refine w_min2 ?_
    | with_reducible refine w_max2 ?_
    | with_reducible refine w_isN0 ?_
    | with_reducible refine w_isN1 ref_ne ?_
    | with_reducible refine w_isN1 int_ne ?_
    | with_reducible refine w_notN0 ?_
    | with_reducible refine w_notN1 ref_ne ?_
    | with_reducible refine w_notN1 int_ne ?_
    | with_reducible refine w_ex1 ?_
    | with_reducible refine w_n1 ?_
    | with_reducible refine w_n2 ?_
    | with_reducible refine w_tT ?_
    | with_reducible refine w_tF ?_
    | with_reducible refine w_nT ?_
    | with_reducible refine w_nF ?_
    | with_reducible refine w_rz ?_
    | with_reducible refine w_mkN ?_
    | with_reducible refine w_lrgN ?_
    | with_reducible refine w_rg1 ?_
    | with_reducible refine w_rg2 ?_
    | with_reducible refine w_sl ?_
    | with_reducible refine w_np ?_
    | with_reducible refine w_pt ?_
    | with_reducible refine w_tr ?_
    | with_reducible refine w_gn ?_
    | with_reducible refine w_yes ?_
    | with_reducible refine w_m1 ?_
    | with_reducible refine w_asu ?_
    | with_reducible refine w_exS ?_
    | with_reducible refine w_iS ?_
    | with_reducible refine w_g1 ?_
    | with_reducible refine w_gc ?_
    | with_reducible refine w_gt (SqT.of upd_same) rfl ?_)
local macro_rules
  | `(tactic| walk_at "g") => `(tactic| repeat walk_at "1")
local macro_rules
  | `(tactic| walk_at "j1") => `(tactic| first
    | with_reducible refine w_seqI ?_
    | walk_at "1")
local macro_rules
  | `(tactic| walk_at "j") => `(tactic| repeat walk_at "j1")
section
variable {K : PySem.W.Frag} {mg : Str → Option Value}
theorem w_anyN {H : Hp} {Q : VK} {p : Addr} {bs : List Bool} (h : H p = some (.lst (bs.map V.bl))) (g : Q (.bl (bs.any id)) H) : rAny K [.ref p] H Q := ⟨p, bs, rfl, SqL.of h, g⟩
theorem w_neLZ {H : Hp} {Q : VK} {p q : Addr} {xs ys : List Int} (h1 : H p = some (.lst (xs.map V.int))) (h2 : H q = some (.lst (ys.map V.int))) (g : Q (.bl (!decide (xs = ys))) H) : rNeA K (.ref p) (.ref q) H Q :=
  w_neD (.lst (SqL.of h1) (dpZ xs)) (.lst (SqL.of h2) (dpZ ys)) (shZ xs) (shZ ys) (by
    rw [PyData.eqv, eqvZ]
    exact g)
theorem inV_Z {x : Int} : ∀ {xs : List Int}, inV (.int x) (xs.map V.int) = decide (x ∈ xs)
  | [] => rfl
  | y :: ys => by
    have e : inV (.int x) ((y :: ys).map V.int) = ((y == x) || inV (.int x) (ys.map V.int)) := rfl
    rw [e, inV_Z, Bool.eq_iff_iff, Bool.or_eq_true, decide_eq_true_iff, decide_eq_true_iff, beq_iff_eq, List.mem_cons]
    exact ⟨fun h => h.elim (fun z => .inl z.symm) .inr, fun h => h.elim (fun z => .inl z.symm) .inr⟩
theorem flatZ (xs : List Int) : (xs.map V.int).all flatV = true := by
  rw [List.all_map]
  exact List.all_eq_true.mpr fun _ _ => rfl
theorem w_inZ {H : Hp} {Q : VK} {p : Addr} {x : Int} {xs : List Int} {neg : Bool} (h : H p = some (.lst (xs.map V.int))) (g : Q (.bl (if neg then !decide (x ∈ xs) else decide (x ∈ xs))) H) : rIn K neg (.int x) (.ref p) H Q := by
  refine w_inL (SqL.of h) rfl (flatZ xs) ?_
  rw [inV_Z]
  exact g
theorem forW_in {s : Sd} (w : Wf s) {v : Nat} (h1 : 1 ≤ v) (h2 : v ≤ s.n) : ∀ x ∈ forW s v, 0 ≤ x ∧ x ≤ s.n := by
  have a1 := w.lb v h1 (by omega)
  have a2 := w.rb v h2
  intro x hx
  unfold forW at hx
  rcases List.mem_append.mp hx with z | z
  · split at z
    · rw [List.mem_singleton.mp z]
      omega
    · cases z
  · split at z
    · rw [List.mem_singleton.mp z]
      omega
    · cases z
theorem len_left_to (K : PySem.W.Frag) : ∀ vs H Q E, sp17_left_to K vs H Q E → vs.length = (["operation", "gap"] : List Str).length := by
  rintro vs H Q E ⟨_, _, rfl, _⟩
  rfl
theorem rd_left_to (T : Txt K mg) (vs : List V) (H : Hp) (Q : VK) (E : XK) (h : sp17_left_to K vs H Q E) : t_left_to K E { nx := fun _ H' => Q .non H', rt := Q } (start ["operation", "gap"] vs) H := by
  obtain ⟨op, gp, rfl, g⟩ := h
  unfold t_left_to
  walk_at "g"
  rw [natAbs_if]
  unfold ltI at g
  refine w_iteD (fun c => ?_) (fun c => ?_)
  · walk_at "g"
    rw [if_pos c] at g
    exact g
  · walk_at "g"
    rw [if_neg c] at g
    exact g
theorem Leg.init {s : Sd} {l : List Int} {x : Int} (h : Leg s (l ++ [x])) : Leg s l ∧ OkOp (runS s l) x := by
  constructor
  · have := h.take l.length
    rwa [List.take_left' rfl] at this
  · have := h l.length x (by simp)
    rwa [List.take_left' rfl] at this
theorem OptP.kp {H H' : Hp} {v : V} {p : Option (Nat × Nat)} (h : OptP H v p) (k : Kp [] H H') : OptP H' v p := by
  cases p with
  | none => exact h
  | some x =>
    obtain ⟨t, e, ht⟩ := h
    exact ⟨t, e, k.at0 ht⟩
/-- rows of numbers, each at its own place -/
structure RowsAt8 (H0 H : Hp) (rs : List Addr) (f : Nat → List Int) : Prop where
  nd : rs.Nodup
  at_ : ∀ g a, rs[g]? = some a → H a = some (.lst ((f g).map V.int))
  fr : ∀ a ∈ rs, H0 a = none
theorem RowsAt8.kp {H0 H H' : Hp} {S : List Addr} {rs : List Addr} {f : Nat → List Int} (r : RowsAt8 H0 H rs f) (k : Kp S H H') (h : ∀ a ∈ rs, a ∉ S) : RowsAt8 H0 H' rs f := ⟨r.nd, fun g a e => k _ _ (h a (List.mem_of_getElem? e)) (r.at_ g a e), r.fr⟩
theorem RowsAt8.k0 {H0 H H' : Hp} {rs : List Addr} {f : Nat → List Int} (r : RowsAt8 H0 H rs f) (k : Kp [] H H') : RowsAt8 H0 H' rs f := r.kp k (fun _ _ => by simp)
theorem VlA.len {b : Addr} {H : Hp} : ∀ {xs : List V} {ds : List PyData}, VlA b H xs ds → xs.length = ds.length
  | _, _, .nil => rfl
  | _, _, .cons h1 h2 => by rw [List.length_cons, List.length_cons, VlA.len h2]
theorem LB.wf {H : Hp} {w l r g : Addr} {n : Nat} {log : List Int} (a : LB H w l r g n log) : Wf (runS (wholeS n) log) := Leg.wf (.whole a.n60) a.le
theorem w_isiO {H : Hp} {Q : VK} (T : Txt K mg) {a dx : Addr} {fs : List (Str × V)} (e : H a = some (.ins (He.ga K "Links") dx fs)) (g : Q (.bl true) H) : rIsi K [.ref a, .ref (He.ga K "Links")] H Q :=
  ⟨_, _, .ref (He.ga K "Links"), .ref (He.ga K "Links"), true, rfl, .own _, .base (.ins e T.cl_Links T.ty_Links.1 T.ex_LinkError.gs T.ex_LinkError.tk T.ty_Links.2), by
    unfold PySem.W.kitOne
    rw [if_pos (by simp)], g⟩
theorem dpB {H : Hp} : ∀ xs : List Bool, DpAll K H (xs.map V.bl) (xs.map PyData.bool)
  | [] => .nil
  | x :: xs => .cons (.bl x) (dpB xs)
theorem layB : ∀ xs : List Bool, PyData.canLayAll0 (xs.map PyData.bool) = true
  | [] => rfl
  | x :: xs => by
    show PyData.canLayAll0 (PyData.bool x :: xs.map PyData.bool) = true
    rw [PyData.canLayAll0, layB xs] <;> rfl
theorem depB : ∀ xs : List Bool, PyData.depthAll (xs.map PyData.bool) ≤ 1
  | [] => by simp [PyData.depthAll]
  | x :: xs => by
    have := depB xs
    show PyData.depthAll (PyData.bool x :: xs.map PyData.bool) ≤ 1
    rw [PyData.depthAll]
    simp [PyData.depth]
    omega
theorem shB (xs : List Bool) : SeqAt.shaped (.list (xs.map PyData.bool)) = true := by
  unfold SeqAt.shaped
  rw [PyData.canLay0, layB, PyData.depth]
  have := depB xs
  simp
  omega
theorem eqvI : ∀ xs ys : List Int, PyData.eqvAll (xs.map PyData.int) (ys.map PyData.int) = decide (xs = ys)
  | [], [] => by simp [PyData.eqvAll]
  | [], y :: ys => by simp [PyData.eqvAll]
  | x :: xs, [] => by simp [PyData.eqvAll]
  | x :: xs, y :: ys => by
    show PyData.eqvAll (PyData.int x :: xs.map PyData.int) (PyData.int y :: ys.map PyData.int) = _
    rw [PyData.eqvAll, eqvI xs ys, PyData.eqv]
    by_cases h : x = y <;> by_cases h2 : xs = ys <;> simp [h, h2]
theorem eqvB : ∀ xs ys : List Bool, PyData.eqvAll (xs.map PyData.bool) (ys.map PyData.bool) = decide (xs = ys)
  | [], [] => by simp [PyData.eqvAll]
  | [], y :: ys => by simp [PyData.eqvAll]
  | x :: xs, [] => by simp [PyData.eqvAll]
  | x :: xs, y :: ys => by
    show PyData.eqvAll (PyData.bool x :: xs.map PyData.bool) (PyData.bool y :: ys.map PyData.bool) = _
    rw [PyData.eqvAll, eqvB xs ys, PyData.eqv]
    by_cases h : x = y <;> by_cases h2 : xs = ys <;> simp [h, h2]
theorem w_eqLI {H : Hp} {Q : VK} {p q : Addr} {xs ys : List Int} (h1 : H p = some (.lst (xs.map V.int))) (h2 : H q = some (.lst (ys.map V.int))) (g : Q (.bl (decide (xs = ys))) H) : rEqA K (.ref p) (.ref q) H Q :=
  w_eqD (.lst (SqL.of h1) (dpI xs)) (.lst (SqL.of h2) (dpI ys)) (shI xs) (shI ys) (by
    rw [PyData.eqv, eqvI]
    exact g)
theorem w_eqLB {H : Hp} {Q : VK} {p q : Addr} {xs ys : List Bool} (h1 : H p = some (.lst (xs.map V.bl))) (h2 : H q = some (.lst (ys.map V.bl))) (g : Q (.bl (decide (xs = ys))) H) : rEqA K (.ref p) (.ref q) H Q :=
  w_eqD (.lst (SqL.of h1) (dpB xs)) (.lst (SqL.of h2) (dpB ys)) (shB xs) (shB ys) (by
    rw [PyData.eqv, eqvB]
    exact g)
theorem len_Links_is_whole (K : PySem.W.Frag) : ∀ vs H Q E, sp23_Links_is_whole K vs H Q E → vs.length = (["self"] : List Str).length := by
  rintro vs H Q E ⟨_, _, _, _, _, rfl, _⟩
  rfl
theorem rd_Links_is_whole (T : Txt K mg) (vs : List V) (H : Hp) (Q : VK) (E : XK) (h : sp23_Links_is_whole K vs H Q E) : t_Links_is_whole K E { nx := fun _ H' => Q .non H', rt := Q } (start ["self"] vs) H := by
  obtain ⟨p, r, l, o, s, rfl, a, g⟩ := h
  unfold t_Links_is_whole
  walk_at "g"
  refine w_fS T.cl_Links T.na_Links_size a ?_
  walk_at "g"
  refine mk fun q dx H1 nq hq k1 => ?_
  refine ⟨q, dx, s.n, rfl, hq, fun ok r1 l1 o1 H2 nr1 nl1 no1 k2 b => ⟨rfl, ?_⟩, fun z => absurd ⟨by omega, by have := a.wf.n60; omega⟩ z⟩
  rw [Int.toNat_natCast] at b
  have k02 : Kp [] H H2 := (k1.all.trans k2).cut1 nq
  have a2 := a.k0 k02
  obtain ⟨d1, o1'⟩ := a2.ob
  obtain ⟨d2, o2'⟩ := b.ob
  refine .inr ⟨p, q, d1, d2, _, _, rfl, rfl, o1', o2', p, r, l, o, q, r1, l1, o1, s, wholeS s.n, rfl, a2, b, ⟨_, rfl⟩, ?_⟩
  exact g H2 k02
theorem len_check_size (K : PySem.W.Frag) : ∀ vs H Q E, sp_check_size K vs H Q E → vs.length = (["size"] : List Str).length := by
  rintro vs H Q E ⟨_, rfl, _⟩
  rfl
theorem rd_check_size (T : Txt K mg) (vs : List V) (H : Hp) (Q : VK) (E : XK) (h : sp_check_size K vs H Q E) : t_check_size K E { nx := fun _ H' => Q .non H', rt := Q } (start ["size"] vs) H := by
  obtain ⟨size, rfl, h1, h2⟩ := h
  unfold t_check_size
  walk_at "g"
  refine w_iteD (fun c1 => ?_) (fun c1 => ?_)
  · walk_at "g"
    refine w_iteN (fun c2 => ?_) (fun c2 => ?_)
    · walk_at "g"
      exact ⟨rfl, Nat.le_of_ble_eq_true rfl, h2 fun z => c2 z.2⟩
    · walk_at "g"
      exact h1 ⟨c1, c2⟩
  · walk_at "g"
    exact ⟨rfl, Nat.le_of_ble_eq_true rfl, h2 fun z => c1 z.1⟩
theorem len_check_operation (K : PySem.W.Frag) : ∀ vs H Q E, sp_check_operation K vs H Q E → vs.length = (["size", "operation", "index"] : List Str).length := by
  rintro vs H Q E ⟨_, _, _, rfl, _⟩
  rfl
theorem rd_check_operation (T : Txt K mg) (vs : List V) (H : Hp) (Q : VK) (E : XK) (h : sp_check_operation K vs H Q E) : t_check_operation K E { nx := fun _ H' => Q .non H', rt := Q } (start ["size", "operation", "index"] vs) H := by
  obtain ⟨n, op, i, rfl, h1, h2⟩ := h
  unfold t_check_operation
  walk_at "g"
  rw [natAbs_if]
  refine w_iteD (fun c1 => ?_) (fun c1 => ?_)
  · walk_at "g"
    refine w_iteN (fun c2 => ?_) (fun c2 => ?_)
    · walk_at "g"
      exact ⟨rfl, Nat.le_of_ble_eq_true rfl, h2 fun z => c2 (by have := z.2; omega)⟩
    · walk_at "g"
      exact h1 ⟨by omega, by omega⟩
  · walk_at "g"
    exact ⟨rfl, Nat.le_of_ble_eq_true rfl, h2 fun z => c1 (by have := z.1; omega)⟩
theorem len_check_gap (K : PySem.W.Frag) : ∀ vs H Q E, sp_check_gap K vs H Q E → vs.length = (["size", "gap"] : List Str).length := by
  rintro vs H Q E ⟨_, _, rfl, _⟩
  rfl
theorem rd_check_gap (T : Txt K mg) (vs : List V) (H : Hp) (Q : VK) (E : XK) (h : sp_check_gap K vs H Q E) : t_check_gap K E { nx := fun _ H' => Q .non H', rt := Q } (start ["size", "gap"] vs) H := by
  obtain ⟨n, g, rfl, h1, h2⟩ := h
  unfold t_check_gap
  walk_at "g"
  refine w_iteD (fun c1 => ?_) (fun c1 => ?_)
  · walk_at "g"
    refine w_iteN (fun c2 => ?_) (fun c2 => ?_)
    · walk_at "g"
      exact ⟨rfl, Nat.le_of_ble_eq_true rfl, h2 fun z => c2 z.2⟩
    · walk_at "g"
      exact h1 ⟨c1, c2⟩
  · walk_at "g"
    exact ⟨rfl, Nat.le_of_ble_eq_true rfl, h2 fun z => c1 z.1⟩
theorem len_Links_is_legal (K : PySem.W.Frag) : ∀ vs H Q E, sp_Links_is_legal K vs H Q E → vs.length = (["self", "operation"] : List Str).length := by
  rintro vs H Q E ⟨_, _, _, _, _, _, rfl, _⟩
  rfl
theorem rd_Links_is_legal (T : Txt K mg) (vs : List V) (H : Hp) (Q : VK) (E : XK) (h : sp_Links_is_legal K vs H Q E) : t_Links_is_legal K E { nx := fun _ H' => Q .non H', rt := Q } (start ["self", "operation"] vs) H := by
  obtain ⟨p, r, l, o, s, op, rfl, a, hi, k⟩ := h
  unfold t_Links_is_legal
  walk_at "g"
  refine w_fO T.cl_Links T.na_Links__out a ?_
  walk_at "g"
  rw [natAbs_if]
  have hlt : (op.natAbs : Int) < (s.O.length : Int) := by
    rw [a.wf.lO]
    have := hi.2
    omega
  refine w_ixL (SqL.of a.ho) (at_B (by omega) hlt) ?_
  walk_at "g"
  exact k
theorem len_Links_check (K : PySem.W.Frag) : ∀ vs H Q E, sp_Links_check K vs H Q E → vs.length = (["self", "operation", "index"] : List Str).length := by
  rintro vs H Q E ⟨_, _, _, _, _, _, _, rfl, _⟩
  rfl
theorem rd_Links_check (T : Txt K mg) (vs : List V) (H : Hp) (Q : VK) (E : XK) (h : sp_Links_check K vs H Q E) : t_Links_check K E { nx := fun _ H' => Q .non H', rt := Q } (start ["self", "operation", "index"] vs) H := by
  obtain ⟨p, r, l, o, s, op, i, rfl, a, h1, h2⟩ := h
  unfold t_Links_check
  walk_at "g"
  refine w_fS T.cl_Links T.na_Links_size a ?_
  walk_at "g"
  refine ⟨s.n, op, i, rfl, fun hi => ?_, fun hi => ?_⟩
  · walk_at "g"
    refine w_me a no_m ?_
    walk_at "g"
    refine ⟨p, r, l, o, s, op, rfl, a, hi, ?_⟩
    walk_at "g"
    refine w_iteN (fun c => ?_) (fun c => ?_)
    · walk_at "g"
      refine ⟨rfl, Nat.le_of_ble_eq_true rfl, ?_⟩
      have e := h2 fun z => c z.2
      unfold OpE at e
      rw [if_pos hi] at e
      exact e
    · walk_at "g"
      exact h1 ⟨hi, c⟩
  · have e := h2 fun z => hi z.1
    unfold OpE at e
    rw [if_neg hi] at e
    exact e
theorem len_Links___eq__ (K : PySem.W.Frag) : ∀ vs H Q E, sp23_Links___eq__ K vs H Q E → vs.length = (["self", "other"] : List Str).length := by
  rintro vs H Q E ⟨_, _, _, _, _, _, _, _, _, _, rfl, _⟩
  rfl
theorem rd_Links___eq__ (T : Txt K mg) (vs : List V) (H : Hp) (Q : VK) (E : XK) (h : sp23_Links___eq__ K vs H Q E) : t_Links___eq__ K E { nx := fun _ H' => Q .non H', rt := Q } (start ["self", "other"] vs) H := by
  obtain ⟨p, r, l, o, p2, r2, l2, o2, s, t, rfl, a, b, g⟩ := h
  unfold t_Links___eq__
  walk_at "g"
  obtain ⟨dx, ob⟩ := b.ob
  refine w_isiO T ob ?_
  walk_at "g"
  refine w_fR T.cl_Links T.na_Links__rights a ?_
  walk_at "g"
  refine w_fR T.cl_Links T.na_Links__rights b ?_
  refine w_eqLI a.hr b.hr ?_
  walk_at "g"
  refine w_iteD (fun c1 => ?_) (fun c1 => ?_)
  · rw [decide_eq_true c1, Bool.true_and] at g
    walk_at "g"
    refine w_fL T.cl_Links T.na_Links__lefts a ?_
    walk_at "g"
    refine w_fL T.cl_Links T.na_Links__lefts b ?_
    refine w_eqLI a.hl b.hl ?_
    walk_at "g"
    refine w_iteD (fun c2 => ?_) (fun c2 => ?_)
    · rw [decide_eq_true c2, Bool.true_and] at g
      walk_at "g"
      refine w_fO T.cl_Links T.na_Links__out a ?_
      walk_at "g"
      refine w_fO T.cl_Links T.na_Links__out b ?_
      exact w_eqLB a.ho b.ho g
    · rw [decide_eq_false c2, Bool.false_and] at g
      exact g
  · rw [decide_eq_false c1, Bool.false_and] at g
    exact g
theorem pres_eq {n : Nat} {O : List Bool} (h0 : gB O 0 = false) : (((List.range (n + 2)).filter fun v => !gB O v).map fun (v : Nat) => (v : Int)) = 0 :: inN n O := by
  rw [List.range_succ_eq_map, List.filter_cons_of_pos (by rw [h0] <;> rfl), List.map_cons]
  rfl
theorem pres_pair (n : Nat) (O : List Bool) : (0 :: inN n O).Pairwise (· < ·) := by
  rw [List.pairwise_cons]
  refine ⟨fun x hx => by have := (inN_bd hx).1; omega, ?_⟩
  unfold inN
  rw [List.pairwise_map]
  refine List.Pairwise.imp (fun {a b} (h : a < b) => by omega) (List.Pairwise.filter _ ?_)
  rw [List.pairwise_map]
  exact List.Pairwise.imp (fun {a b} (h : a < b) => by omega) List.pairwise_lt_range
theorem pres_step {n i : Nat} {O : List Bool} {v u : Int} (hv : (0 :: inN n O)[i]? = some v) (hu : (inN n O)[i]? = some u) : 0 ≤ v ∧ v < u ∧ u ≤ (n : Int) + 1 := by
  have hp := pres_pair n O
  obtain ⟨l1, e1⟩ := List.getElem?_eq_some_iff.mp hv
  obtain ⟨l2, e2⟩ := List.getElem?_eq_some_iff.mp hu
  rw [List.pairwise_iff_getElem] at hp
  have h := hp i (i + 1) l1 (by simp; exact l2) (by omega)
  rw [e1, List.getElem_cons_succ, e2] at h
  have b := inN_bd (List.mem_of_getElem? hu)
  refine ⟨?_, h, b.2⟩
  cases i with
  | zero =>
    have : v = 0 := by simpa using hv.symm
    omega
  | succ i =>
    have : (inN n O)[i]? = some v := by simpa using hv
    have := inN_bd (List.mem_of_getElem? this)
    omega
theorem w_all4 {H : Hp} {Q : VK} {p : Addr} {bs : List Bool} (h : H p = some (.lst (bs.map V.bl))) (g : Q (.bl (bs.all id)) H) : rAll K [.ref p] H Q := ⟨p, bs, rfl, SqL.of h, g⟩
theorem len_Links_is_sound (K : PySem.W.Frag) : ∀ vs H Q E, sp04_Links_is_sound K vs H Q E → vs.length = (["self"] : List Str).length := by
  rintro vs H Q E ⟨_, _, _, _, _, rfl, _⟩
  rfl
theorem rd_Links_is_sound (T : Txt K mg) (vs : List V) (H : Hp) (Q : VK) (E : XK) (h : sp04_Links_is_sound K vs H Q E) : t_Links_is_sound K E { nx := fun _ H' => Q .non H', rt := Q } (start ["self", "present", "node", "low", "high"] vs) H := by
  obtain ⟨p, r, l, o, s, rfl, a, d, g⟩ := h
  unfold t_Links_is_sound
  have w := a.wf
  have n60 := w.n60
  walk_at "g"
  refine w_fS T.cl_Links T.na_Links_size a ?_
  walk_at "g"
  refine w_r1 (by omega) ?_
  refine cp_rng (fun i => (((List.range i).filter fun v => !gB s.O v).map fun (v : Nat) => (v : Int)).map V.int) (fun i hi => sz_lt (by
    rw [List.length_map, List.length_map]
    have := List.length_filter_le (fun v => !gB s.O v) (List.range i)
    rw [List.length_range] at this
    omega)) rfl (fun i H' S N hi k y no => ?_) (fun q H1 nq k1 hq => ?_)
  · walk_at "g"
    refine ⟨rfl, ?_⟩
    walk_at "g"
    refine w_fO T.cl_Links T.na_Links__out (a.k0 k) ?_
    walk_at "g"
    refine w_ixL (SqL.of (k.at0 a.ho)) (at_B (by omega) (by rw [w.lO]; omega)) ?_
    rw [show ((0 : Int) + (i : Int)).toNat = i by omega]
    walk_at "g"
    refine w_iteBN (fun c => ?_) (fun c => ?_)
    · walk_at "g"
      refine y _ _ (Kp.refl _ _) ?_
      rw [List.range_succ, List.filter_append, List.map_append, List.map_append, List.filter_cons_of_pos (by rw [c] <;> rfl), show (0 : Int) + (i : Int) = (i : Int) by omega] <;> rfl
    · refine no _ (Kp.refl _ _) ?_
      rw [List.range_succ, List.filter_append, List.map_append, List.map_append, List.filter_cons_of_neg (by rw [c]; decide)]
      exact List.append_nil _
  rw [show ((s.n : Int) + 2).toNat = s.n + 2 by omega, pres_eq d.o0] at hq
  walk_at "g"
  refine w_slL (SqL.of hq) fun z H2 nz2 k2 hz => ?_
  have e1 : cutV ((0 :: inN s.n s.O).map V.int) (some 1) none = (inN s.n s.O).map V.int := by
    rw [show (some 1 : Option Int) = some ((1 : Nat) : Int) from rfl, cut_drop _ 1 (by simp)] <;> rfl
  rw [e1] at hz
  have hq2 := k2.at0 hq
  have a2 := a.k0 (k1.trans k2)
  have ln := inN_len s.n s.O
  walk_at "g"
  refine ⟨q, z, _, _, rfl, SqL.of hq2, SqL.of hz, cp_zip (SqL.of hq2) (SqL.of hz) (by simp) (fun j => ((List.range j).map fun (i : Nat) => decide (gI s.R (gI (0 :: inN s.n s.O) i).toNat = gI (inN s.n s.O) i) && decide (gI s.L (gI (inN s.n s.O) i).toNat = gI (0 :: inN s.n s.O) i)).map V.bl) (fun j hj => sz_lt (by rw [List.length_map] at hj; rw [List.length_map, List.length_map, List.length_range]; omega)) rfl (fun i x y Tq H' S N hx hy k nT yes _ => ?_) (fun D H3 nD k3 hD => ?_)⟩
  · obtain ⟨v, hv, rfl⟩ := at_map hx
    obtain ⟨u, hu, rfl⟩ := at_map hy
    obtain ⟨b0, b1, b2⟩ := pres_step hv hu
    have kT : Kp [] H' (upd H' Tq (.tup [.int v, .int u])) := Kp.new nT
    have a3 := (a2.k0 k).k0 kT
    walk_at "g"
    refine ⟨rfl, ?_⟩
    walk_at "g"
    refine w_fR T.cl_Links T.na_Links__rights a3 ?_
    walk_at "g"
    refine w_ixL (SqL.of a3.hr) (at_I (by omega) (by rw [w.lR]; omega)) ?_
    walk_at "g"
    refine w_iteD (fun c1 => ?_) (fun c1 => ?_)
    · walk_at "g"
      refine w_fL T.cl_Links T.na_Links__lefts a3 ?_
      walk_at "g"
      refine w_ixL (SqL.of a3.hl) (at_I (by omega) (by rw [w.lL]; omega)) ?_
      walk_at "g"
      refine yes _ _ kT ?_
      rw [List.range_succ, List.map_append, List.map_append]
      congr 1
      show [V.bl (decide (gI s.R (gI (0 :: inN s.n s.O) i).toNat = gI (inN s.n s.O) i) && decide (gI s.L (gI (inN s.n s.O) i).toNat = gI (0 :: inN s.n s.O) i))] = [V.bl _]
      rw [gI_of hv, gI_of hu, decide_eq_true c1, Bool.true_and]
    · walk_at "g"
      refine yes _ _ kT ?_
      rw [List.range_succ, List.map_append, List.map_append]
      congr 1
      show [V.bl (decide (gI s.R (gI (0 :: inN s.n s.O) i).toNat = gI (inN s.n s.O) i) && decide (gI s.L (gI (inN s.n s.O) i).toNat = gI (0 :: inN s.n s.O) i))] = [V.bl _]
      rw [gI_of hv, gI_of hu, decide_eq_false c1, Bool.false_and]
  · rw [List.length_map] at hD
    walk_at "g"
    refine w_all4 hD ?_
    rw [chk_zip]
    exact g _ ((k1.trans k2).trans k3)
end
end G
set_option Elab.async false
set_option linter.all false
set_option maxRecDepth 100000
set_option maxHeartbeats 1000000
namespace G
--#FAM KW
open PySem PySem.Spec PyProof.Rows L2
local macro_rules
  | `(tactic| walk_at "1") => `(tactic| first
    | with_reducible refine w_seq ?_
    | with_reducible refine w_asg ?_
    | with_reducible refine w_asgS ?_
    | with_reducible refine w_asf ?_
    | with_reducible refine w_drop ?_
    | with_reducible refine w_ret ?_
    | with_reducible refine w_if ?_
    | with_reducible refine w_not ?_
    | with_reducible refine w_and ?_
    | with_reducible refine w_or ?_
    | with_reducible refine w_test ?_
    | with_reducible refine w_tb ?_
    | with_reducible refine w_chain ?_
    | with_reducible refine w_op ?_
    | with_reducible refine w_un ?_
    | with_reducible refine w_andV ?_
    | with_reducible refine w_orV ?_
    | with_reducible refine w_notV ?_
    | with_reducible refine w_ifE ?_
    | with_reducible refine w_cons ?_
    | with_reducible refine w_nil ?_
    | with_reducible refine w_cb ?_
    | with_reducible refine w_cl ?_
    | with_reducible refine w_mt ?_
    | with_reducible refine w_fld ?_
    | with_reducible refine w_tupN ?_
    | with_reducible refine w_lstN ?_
    | with_reducible refine w_bm ?_
    | with_reducible refine w_bm0 ?_
    | with_reducible refine w_for ?_
    | with_reducible refine w_lc ?_
    | with_reducible refine w_iR1 ?_
    | with_reducible refine w_iR2 ?_
    | with_reducible refine w_iL ?_
    | with_reducible refine w_iT ?_
    | with_reducible refine w_iE ?_
    | with_reducible refine w_iZ ?_
    | with_reducible refine w_var (by with_unfolding_all rfl) ?_
    | with_reducible refine w_c ?_
    | with_reducible refine w_next ?_
    | with_reducible refine w_i0 ?_
    | with_reducible refine w_u1 ?_
    | with_reducible refine w_addI ?_
    | with_reducible refine w_eqI ?_
    | with_reducible refine w_eqS ?_
    | with_reducible refine w_eqB ?_
    | with_reducible refine w_neI ?_
    | with_reducible refine w_neS ?_
    | with_reducible refine w_neB ?_
    | with_reducible refine w_abs ?_
    | with_reducible refine w_intI ?_
    | with_reducible refine w_min2 ?_
    | with_reducible refine w_max2 ?_
    | with_reducible refine w_isN0 ?_
    | with_reducible refine w_isN1 ref_ne ?_
    | with_reducible refine w_isN1 int_ne ?_
    | with_reducible refine w_notN0 ?_
    | with_reducible refine w_notN1 ref_ne ?_
    | with_reducible refine w_notN1 int_ne ?_
    | with_reducible refine w_ex1 ?_
    | with_reducible refine w_n1 ?_
    | with_reducible refine w_n2 ?_
    | with_reducible refine w_tT ?_
    | with_reducible refine w_tF ?_
    | with_reducible refine w_nT ?_
    | with_reducible refine w_nF ?_
    | with_reducible refine w_rz ?_
    | with_reducible refine w_mkN ?_
    | with_reducible refine w_lrgN ?_
    | with_reducible refine w_rg1 ?_
    | with_reducible refine w_rg2 ?_
    | with_reducible refine w_sl ?_
    | with_reducible refine w_np ?_
    | with_reducible refine w_pt ?_
    | with_reducible refine w_tr ?_
    | with_reducible refine w_gn ?_
    | with_reducible refine w_yes ?_
    | with_reducible refine w_m1 ?_
    | with_reducible refine w_asu ?_
    | with_reducible refine w_exS ?_
    | with_reducible refine w_iS ?_
    | with_reducible refine w_g1 ?_
    | with_reducible refine w_gc ?_
    | with_reducible refine w_gt (SqT.of upd_same) rfl ?_)
local macro_rules
  | `(tactic| walk_at "g") => `(tactic| repeat walk_at "1")
local macro_rules
  | `(tactic| walk_at "j1") => `(tactic| first
    | with_reducible refine w_seqI ?_
    | walk_at "1")
local macro_rules
  | `(tactic| walk_at "j") => `(tactic| repeat walk_at "j1")
section
variable {K : PySem.W.Frag} {mg : Str → Option Value}
theorem any_id {α : Type} (f : α → Bool) (l : List α) : (l.map f).any id = l.any f := by
  rw [List.any_map]
  rfl
theorem gap_nat {x : Int} (h : 0 ≤ x) : ∃ g : Nat, x = (g : Int) := ⟨x.toNat, by omega⟩
theorem len__loses_a_gap (K : PySem.W.Frag) : ∀ vs H Q E, sp__loses_a_gap K vs H Q E → vs.length = (["links", "operation"] : List Str).length := by
  rintro vs H Q E ⟨_, _, _, _, _, _, rfl, _⟩
  rfl
theorem rd__loses_a_gap (T : Txt K mg) (vs : List V) (H : Hp) (Q : VK) (E : XK) (h : sp__loses_a_gap K vs H Q E) : t__loses_a_gap K E { nx := fun _ H' => Q .non H', rt := Q } (start ["links", "operation", "gap"] vs) H := by
  obtain ⟨p, r, l, o, s, op, rfl, la, ok, g⟩ := h
  unfold t__loses_a_gap
  have wf := la.wf
  walk_at "g"
  refine ⟨p, r, l, o, s, op, rfl, la, fun _ => (fun q H1 nq k1 hq => ?_), fun z => absurd ok z⟩
  have fl := forW_len s op.natAbs
  have fb : ∀ x ∈ forW s op.natAbs, 0 ≤ x ∧ x ≤ s.n := forW_in wf ok.1.1 ok.1.2
  unfold svB at g
  generalize forW s op.natAbs = F at g hq fl fb
  refine w_l1 (SqL.of hq) ?_
  refine cp_lst (SqL.of hq) (fun i => ((F.take i).map fun g => !decide (stT s g.toNat = "joined")).map V.bl) (fun i hi => sz_lt (by rw [List.length_map, List.length_map, List.length_take]; rw [List.length_map] at hi; omega)) rfl (fun i x H' S N hx k y _ => ?_) (fun t H3 nt k3 ht => ?_)
  · obtain ⟨v, hv, rfl⟩ := at_map hx
    have vb := fb v (List.mem_of_getElem? hv)
    have k01 := k1.trans k
    walk_at "g"
    refine ⟨rfl, ?_⟩
    walk_at "g"
    refine ⟨p, r, l, o, s, v, rfl, la.k0 k01, fun _ => ?_, fun z => absurd vb z⟩
    walk_at "g"
    refine y _ H' (Kp.refl _ _) ?_
    rw [take_snoc hv, List.map_append, List.map_append] <;> rfl
  · rw [List.length_map, List.take_length] at ht
    walk_at "g"
    refine w_anyN ht ?_
    rw [any_id]
    exact g H3 (k1.trans k3)
theorem len__leaves_a_gap_to_a_holder_that_is_in (K : PySem.W.Frag) : ∀ vs H Q E, sp__leaves_a_gap_to_a_holder_that_is_in K vs H Q E → vs.length = (["links", "operation"] : List Str).length := by
  rintro vs H Q E ⟨_, _, _, _, _, _, rfl, _⟩
  rfl
theorem rd__leaves_a_gap_to_a_holder_that_is_in (T : Txt K mg) (vs : List V) (H : Hp) (Q : VK) (E : XK) (h : sp__leaves_a_gap_to_a_holder_that_is_in K vs H Q E) : t__leaves_a_gap_to_a_holder_that_is_in K E { nx := fun _ H' => Q .non H', rt := Q } (start ["links", "operation", "gap"] vs) H := by
  obtain ⟨p, r, l, o, s, op, rfl, la, ok, g⟩ := h
  unfold t__leaves_a_gap_to_a_holder_that_is_in
  have wf := la.wf
  walk_at "g"
  refine ⟨p, r, l, o, s, op, rfl, la, fun _ => (fun q H1 nq k1 hq => ?_), fun z => absurd ok z⟩
  have fl := forW_len s op.natAbs
  have fb : ∀ x ∈ forW s op.natAbs, 0 ≤ x ∧ x ≤ s.n := forW_in wf ok.1.1 ok.1.2
  unfold gdB at g
  generalize forW s op.natAbs = F at g hq fl fb
  refine w_l1 (SqL.of hq) ?_
  refine cp_lst (SqL.of hq) (fun i => ((F.take i).map fun g => !gB s.O (ltI op.natAbs g).toNat).map V.bl) (fun i hi => sz_lt (by rw [List.length_map, List.length_map, List.length_take]; rw [List.length_map] at hi; omega)) rfl (fun i x H' S N hx k y _ => ?_) (fun t H3 nt k3 ht => ?_)
  · obtain ⟨v, hv, rfl⟩ := at_map hx
    have vb := fb v (List.mem_of_getElem? hv)
    have k01 := k1.trans k
    obtain ⟨m, em⟩ : ∃ m : Nat, ltI op.natAbs v = (m : Int) := ⟨(ltI op.natAbs v).toNat, by unfold ltI; split <;> omega⟩
    have em2 : m ≤ s.n + 1 := by unfold ltI at em; split at em <;> omega
    walk_at "g"
    refine ⟨rfl, ?_⟩
    walk_at "g"
    refine w_me (la.k0 k01) no_m ?_
    walk_at "g"
    refine ⟨op, v, rfl, ?_⟩
    walk_at "g"
    rw [em]
    refine ⟨p, r, l, o, s, m, rfl, la.k0 k01, em2, ?_⟩
    refine ⟨_, rfl, ?_⟩
    refine y _ H' (Kp.refl _ _) ?_
    rw [take_snoc hv, List.map_append, List.map_append]
    show _ ++ [V.bl (!gB s.O (ltI op.natAbs v).toNat)] = _
    rw [em, Int.toNat_natCast]
  · rw [List.length_map, List.take_length] at ht
    walk_at "g"
    refine w_anyN ht ?_
    rw [any_id]
    exact g H3 (k1.trans k3)
theorem len__has_fitting_neighbours (K : PySem.W.Frag) : ∀ vs H Q E, sp__has_fitting_neighbours K vs H Q E → vs.length = (["links", "operation"] : List Str).length := by
  rintro vs H Q E ⟨_, _, _, _, _, _, rfl, _⟩
  rfl
theorem rd__has_fitting_neighbours (T : Txt K mg) (vs : List V) (H : Hp) (Q : VK) (E : XK) (h : sp__has_fitting_neighbours K vs H Q E) : t__has_fitting_neighbours K E { nx := fun _ H' => Q .non H', rt := Q } (start ["links", "operation", "node", "low", "high"] vs) H := by
  obtain ⟨p, r, l, o, s, op, rfl, la, ok, g⟩ := h
  unfold t__has_fitting_neighbours
  have wf := la.wf
  obtain ⟨⟨i1, i2⟩, io2⟩ := ok
  obtain ⟨r1, r2⟩ := wf.rb op.natAbs (by omega)
  obtain ⟨l1, l2⟩ := wf.lb op.natAbs (by omega) (by omega)
  obtain ⟨lo, elo⟩ := gap_nat l1
  obtain ⟨hi, ehi⟩ := gap_nat (x := gI s.R op.natAbs) (by omega)
  unfold fitB at g
  rw [elo, ehi, Int.toNat_natCast, Int.toNat_natCast] at g
  walk_at "g"
  rw [natAbs_if]
  refine w_me la no_m ?_
  walk_at "g"
  refine ⟨p, r, l, o, s, op.natAbs, rfl, la, by omega, by omega, ?_⟩
  rw [elo]
  walk_at "g"
  refine w_me la no_m ?_
  walk_at "g"
  refine ⟨p, r, l, o, s, op.natAbs, rfl, la, by omega, ?_⟩
  rw [ehi]
  walk_at "g"
  refine w_me la no_m ?_
  walk_at "g"
  refine ⟨p, r, l, o, s, lo, rfl, la, by omega, ?_⟩
  refine ⟨_, rfl, ?_⟩
  refine w_iteB (fun c1 => ?_) (fun c1 => ?_)
  · rw [c1] at g
    walk_at "g"
    exact g H (Kp.refl _ _)
  · walk_at "g"
    refine w_me la no_m ?_
    walk_at "g"
    refine ⟨p, r, l, o, s, hi, rfl, la, by omega, ?_⟩
    refine ⟨_, rfl, ?_⟩
    refine w_iteB (fun c2 => ?_) (fun c2 => ?_)
    · rw [c1, c2] at g
      walk_at "g"
      exact g H (Kp.refl _ _)
    · rw [c1, c2, Bool.or_false, Bool.not_false, Bool.true_and] at g
      walk_at "g"
      refine w_iteD (fun c3 => ?_) (fun c3 => ?_)
      · rw [if_pos c3] at g
        walk_at "g"
        refine w_me la no_m ?_
        walk_at "g"
        refine ⟨p, r, l, o, s, lo, rfl, la, by omega, ?_⟩
        walk_at "g"
        refine w_iteD (fun c4 => ?_) (fun c4 => ?_)
        · rw [decide_eq_true c4, Bool.true_and] at g
          walk_at "g"
          refine w_me la no_m ?_
          walk_at "g"
          refine ⟨p, r, l, o, s, hi, rfl, la, by omega, by omega, ?_⟩
          walk_at "g"
          exact g H (Kp.refl _ _)
        · rw [decide_eq_false c4, Bool.false_and] at g
          exact g H (Kp.refl _ _)
      · rw [if_neg c3] at g
        walk_at "g"
        refine w_me la no_m ?_
        walk_at "g"
        refine ⟨p, r, l, o, s, lo, rfl, la, by omega, ?_⟩
        walk_at "g"
        refine w_iteD (fun c4 => ?_) (fun c4 => ?_)
        · rw [decide_eq_true c4, Bool.true_and] at g
          walk_at "g"
          refine w_me la no_m ?_
          walk_at "g"
          refine ⟨p, r, l, o, s, hi, rfl, la, by omega, by omega, ?_⟩
          walk_at "g"
          exact g H (Kp.refl _ _)
        · rw [decide_eq_false c4, Bool.false_and] at g
          exact g H (Kp.refl _ _)
theorem len_FreeMode_refusal (K : PySem.W.Frag) : ∀ vs H Q E, sp_FreeMode_refusal K vs H Q E → vs.length = (["self", "links", "operation"] : List Str).length := by
  rintro vs H Q E ⟨_, _, _, _, _, _, _, _, rfl, _⟩
  rfl
theorem rd_FreeMode_refusal (T : Txt K mg) (vs : List V) (H : Hp) (Q : VK) (E : XK) (h : sp_FreeMode_refusal K vs H Q E) : t_FreeMode_refusal K E { nx := fun _ H' => Q .non H', rt := Q } (start ["self", "links", "operation"] vs) H := by
  obtain ⟨x, p, r, l, o, s, op, c, rfl, md, dc, la, g1, g2⟩ := h
  unfold t_FreeMode_refusal
  walk_at "g"
  refine w_me la no_m ?_
  walk_at "g"
  refine ⟨p, r, l, o, s, op, 0, rfl, la, fun ok => ?_, g2⟩
  walk_at "g"
  have := g1 ok H (Kp.refl _ _)
  rwa [refS_0] at this
theorem len_SavingMode_refusal (K : PySem.W.Frag) : ∀ vs H Q E, sp_SavingMode_refusal K vs H Q E → vs.length = (["self", "links", "operation"] : List Str).length := by
  rintro vs H Q E ⟨_, _, _, _, _, _, _, _, rfl, _⟩
  rfl
theorem rd_SavingMode_refusal (T : Txt K mg) (vs : List V) (H : Hp) (Q : VK) (E : XK) (h : sp_SavingMode_refusal K vs H Q E) : t_SavingMode_refusal K E { nx := fun _ H' => Q .non H', rt := Q } (NdefX.startF ["self", "links", "operation", "__class__", "refusing"] vs [some (.ref (He.ga K "SavingMode"))]) H := by
  obtain ⟨x, p, r, l, o, s, op, c, rfl, md, dc, la, g1, g2⟩ := h
  obtain ⟨dx, hx⟩ := md.ob
  have c3 := md.c3
  unfold t_SavingMode_refusal
  refine ⟨x, mdC K c, dx, [], rfl, hx, ?_, ?_⟩
  · match c, dc, c3 with
    | 1, _, _ => exact T.sup_SavingMode_SavingMode_refusal
    | 2, _, _ => exact T.sup_GuardedMode_SavingMode_refusal
    | 3, _, _ => exact T.sup_CheckedMode_SavingMode_refusal
  walk_at "g"
  refine ⟨x, p, r, l, o, s, op, c, rfl, md, by omega, la, fun ok => fun H1 k1 => ?_, g2⟩
  have g1 := g1 ok
  have la1 := la.k0 k1
  rw [refS_0]
  rw [refS_1] at g1
  walk_at "g"
  rw [decide_eq_true rfl]
  walk_at "g"
  refine ⟨p, r, l, o, s, op, rfl, la1, ok, fun H2 k2 => ?_⟩
  refine ⟨_, rfl, ?_⟩
  refine w_iteB (fun c1 => ?_) (fun c1 => ?_)
  · walk_at "g"
    have := g1 H2 (k1.trans k2)
    rwa [if_pos c1] at this
  · walk_at "g"
    have := g1 H2 (k1.trans k2)
    rwa [if_neg (by rw [c1]; exact Bool.false_ne_true)] at this
theorem len_GuardedMode_refusal (K : PySem.W.Frag) : ∀ vs H Q E, sp_GuardedMode_refusal K vs H Q E → vs.length = (["self", "links", "operation"] : List Str).length := by
  rintro vs H Q E ⟨_, _, _, _, _, _, _, _, rfl, _⟩
  rfl
theorem rd_GuardedMode_refusal (T : Txt K mg) (vs : List V) (H : Hp) (Q : VK) (E : XK) (h : sp_GuardedMode_refusal K vs H Q E) : t_GuardedMode_refusal K E { nx := fun _ H' => Q .non H', rt := Q } (NdefX.startF ["self", "links", "operation", "__class__", "refusing"] vs [some (.ref (He.ga K "GuardedMode"))]) H := by
  obtain ⟨x, p, r, l, o, s, op, c, rfl, md, dc, la, g1, g2⟩ := h
  obtain ⟨dx, hx⟩ := md.ob
  have c3 := md.c3
  unfold t_GuardedMode_refusal
  refine ⟨x, mdC K c, dx, [], rfl, hx, ?_, ?_⟩
  · match c, dc, c3 with
    | 2, _, _ => exact T.sup_GuardedMode_GuardedMode_refusal
    | 3, _, _ => exact T.sup_CheckedMode_GuardedMode_refusal
  walk_at "g"
  refine ⟨x, p, r, l, o, s, op, c, rfl, md, by omega, la, fun ok => fun H1 k1 => ?_, g2⟩
  have g1 := g1 ok
  have la1 := la.k0 k1
  rw [refS_2] at g1
  walk_at "g"
  refine w_iteD (fun e => ?_) (fun e => ?_)
  · walk_at "g"
    refine ⟨p, r, l, o, s, op, rfl, la1, ok, fun H2 k2 => ?_⟩
    refine ⟨_, rfl, ?_⟩
    refine w_iteB (fun c1 => ?_) (fun c1 => ?_)
    · walk_at "g"
      have := g1 H2 (k1.trans k2)
      rwa [if_pos ⟨e, c1⟩] at this
    · walk_at "g"
      have := g1 H2 (k1.trans k2)
      rwa [if_neg (fun z => by rw [c1] at z; cases z.2)] at this
  · walk_at "g"
    have := g1 H1 k1
    rwa [if_neg (fun z => e z.1)] at this
theorem len_CheckedMode_refusal (K : PySem.W.Frag) : ∀ vs H Q E, sp_CheckedMode_refusal K vs H Q E → vs.length = (["self", "links", "operation"] : List Str).length := by
  rintro vs H Q E ⟨_, _, _, _, _, _, _, _, rfl, _⟩
  rfl
theorem rd_CheckedMode_refusal (T : Txt K mg) (vs : List V) (H : Hp) (Q : VK) (E : XK) (h : sp_CheckedMode_refusal K vs H Q E) : t_CheckedMode_refusal K E { nx := fun _ H' => Q .non H', rt := Q } (NdefX.startF ["self", "links", "operation", "__class__", "refusing"] vs [some (.ref (He.ga K "CheckedMode"))]) H := by
  obtain ⟨x, p, r, l, o, s, op, c, rfl, md, dc, la, g1, g2⟩ := h
  obtain ⟨dx, hx⟩ := md.ob
  have c3 := md.c3
  unfold t_CheckedMode_refusal
  refine ⟨x, mdC K c, dx, [], rfl, hx, ?_, ?_⟩
  · match c, dc, c3 with
    | 3, _, _ => exact T.sup_CheckedMode_CheckedMode_refusal
  walk_at "g"
  refine ⟨x, p, r, l, o, s, op, c, rfl, md, by omega, la, fun ok => fun H1 k1 => ?_, g2⟩
  have g1 := g1 ok
  have la1 := la.k0 k1
  rw [refS_3] at g1
  walk_at "g"
  refine w_iteD (fun e => ?_) (fun e => ?_)
  · walk_at "g"
    refine ⟨p, r, l, o, s, op, rfl, la1, ok, fun H2 k2 => ?_⟩
    refine ⟨_, rfl, ?_⟩
    refine w_iteB (fun c1 => ?_) (fun c1 => ?_)
    · walk_at "g"
      have := g1 H2 (k1.trans k2)
      rwa [if_pos ⟨e, by simpa using c1⟩] at this
    · walk_at "g"
      have := g1 H2 (k1.trans k2)
      rwa [if_neg (fun z => by rw [z.2] at c1; cases c1)] at this
  · walk_at "g"
    have := g1 H1 k1
    rwa [if_neg (fun z => e z.1)] at this
theorem w_mk0 {C : Addr} {σ : L2.St} {H : Hp} {Q : VK} (g : ∀ x dx H', H x = none → Kp [] H H' → H' x = some (.ins C dx []) → Q (.ref x) H') : tMk0 C σ H Q :=
  fun x dx n1 n2 ne => g x dx _ n1 ((Kp.new n2).trans (Kp.new (by rw [upd_ne (Ne.symm ne)]; exact n1))) upd_same
theorem w_mtD {L : List (Addr × Sp)} {m : Str} {E : L2.St → XK} {ta : TE} {t : TA} {σ : L2.St} {H : Hp} {Q : VK} (h : ta σ H fun x H1 => ∃ C sp, (C, sp) ∈ L ∧ ∃ a dx fs, x = .ref a ∧ H1 a = some (.ins C dx fs) ∧ fs.lookup m = none ∧ t σ H1 fun vs H2 => sp (x :: vs) H2 Q (E σ)) : tMtD L m E ta t σ H Q := h
theorem w_rf {H : Hp} {x : Addr} {c : Nat} {P : Sp → Prop} (md : MdAt K H x c) (g : P (spRf K c)) : ∃ C sp, (C, sp) ∈ L_refusal K ∧ ∃ a dx fs, V.ref x = .ref a ∧ H a = some (.ins C dx fs) ∧ (fs : List (Str × V)).lookup ("refusal" : Str) = none ∧ P sp := by
  obtain ⟨dx, hx⟩ := md.ob
  have c3 := md.c3
  match c, c3 with
  | 0, _ => exact ⟨_, _, List.mem_cons_self, x, dx, [], rfl, hx, rfl, g⟩
  | 1, _ => exact ⟨_, _, List.mem_cons_of_mem _ List.mem_cons_self, x, dx, [], rfl, hx, rfl, g⟩
  | 2, _ => exact ⟨_, _, List.mem_cons_of_mem _ (List.mem_cons_of_mem _ List.mem_cons_self), x, dx, [], rfl, hx, rfl, g⟩
  | 3, _ => exact ⟨_, _, List.mem_cons_of_mem _ (List.mem_cons_of_mem _ (List.mem_cons_of_mem _ List.mem_cons_self)), x, dx, [], rfl, hx, rfl, g⟩
theorem w_con {H : Hp} {x : Addr} {c : Nat} {R : V → Prop} (T : Txt K mg) (md : MdAt K H x c) (g : R (.str (mdN c))) : ∃ a C dx fs v u, V.ref x = .ref a ∧ H a = some (.ins C dx fs) ∧ Cls K C ∧ Con K C "NAME" v u ∧ (fs : List (Str × V)).lookup ("NAME" : Str) = none ∧ R v := by
  obtain ⟨dx, hx⟩ := md.ob
  have c3 := md.c3
  match c, c3 with
  | 0, _ => obtain ⟨u, h⟩ := T.con_FreeMode_NAME; exact ⟨x, _, dx, [], _, u, rfl, hx, T.cl_FreeMode, h, rfl, g⟩
  | 1, _ => obtain ⟨u, h⟩ := T.con_SavingMode_NAME; exact ⟨x, _, dx, [], _, u, rfl, hx, T.cl_SavingMode, h, rfl, g⟩
  | 2, _ => obtain ⟨u, h⟩ := T.con_GuardedMode_NAME; exact ⟨x, _, dx, [], _, u, rfl, hx, T.cl_GuardedMode, h, rfl, g⟩
  | 3, _ => obtain ⟨u, h⟩ := T.con_CheckedMode_NAME; exact ⟨x, _, dx, [], _, u, rfl, hx, T.cl_CheckedMode, h, rfl, g⟩
theorem w_tcon {ta : TE} {f : Str} {σ : L2.St} {H : Hp} {Q : VK} (h : ta σ H fun x H1 => ∃ a C dx fs v u, x = .ref a ∧ H1 a = some (.ins C dx fs) ∧ Cls K C ∧ Con K C f v u ∧ fs.lookup f = none ∧ Q v H1) : tCon K ta f σ H Q := h
theorem len_all_modes (K : PySem.W.Frag) : ∀ vs H Q E, sp_all_modes K vs H Q E → vs.length = ([] : List Str).length := by
  rintro vs H Q E ⟨rfl, _⟩
  rfl
theorem rd_all_modes (T : Txt K mg) (vs : List V) (H : Hp) (Q : VK) (E : XK) (h : sp_all_modes K vs H Q E) : t_all_modes K E { nx := fun _ H' => Q .non H', rt := Q } (start [] vs) H := by
  obtain ⟨rfl, g⟩ := h
  unfold t_all_modes
  walk_at "g"
  refine w_mk0 fun x0 d0 H0 n0 k0 h0 => ?_
  walk_at "g"
  refine w_mk0 fun x1 d1 H1 n1 k1 h1 => ?_
  walk_at "g"
  refine w_mk0 fun x2 d2 H2 n2 k2 h2 => ?_
  walk_at "g"
  refine w_mk0 fun x3 d3 H3 n3 k3 h3 => ?_
  walk_at "g"
  refine ⟨sz_ok (by show 4 ≤ 1000000; omega), G.nw fun q H4 nq k4 hq => ?_⟩
  have k34 := k3.trans k4
  have k24 := k2.trans k34
  have k14 := k1.trans k24
  exact g q x0 x1 x2 x3 H4 (k0.free0 (k1.free0 (k2.free0 (k3.free0 nq)))) n0 (k0.free0 n1) (k0.free0 (k1.free0 n2)) (k0.free0 (k1.free0 (k2.free0 n3))) (k0.trans k14) hq
    ⟨⟨d0, k14.at0 h0⟩, by omega⟩ ⟨⟨d1, k24.at0 h1⟩, by omega⟩ ⟨⟨d2, k34.at0 h2⟩, by omega⟩ ⟨⟨d3, k4.at0 h3⟩, by omega⟩
theorem len_mode_named (K : PySem.W.Frag) : ∀ vs H Q E, sp_mode_named K vs H Q E → vs.length = (["mode"] : List Str).length := by
  rintro vs H Q E ⟨_, rfl, _⟩
  rfl
theorem rd_mode_named (T : Txt K mg) (vs : List V) (H : Hp) (Q : VK) (E : XK) (h : sp_mode_named K vs H Q E) : t_mode_named K E { nx := fun _ H' => Q .non H', rt := Q } (start ["mode", "known"] vs) H := by
  obtain ⟨m, rfl, g1, g2⟩ := h
  unfold t_mode_named
  walk_at "g"
  refine ⟨rfl, fun q x0 x1 x2 x3 H1 nq n0 n1 n2 n3 k1 hq m0 m1 m2 m3 => ?_⟩
  have key : ∀ (i : Nat) (x : V), [V.ref x0, V.ref x1, V.ref x2, V.ref x3][i]? = some x → ∃ y, x = .ref y ∧ H y = none ∧ MdAt K H1 y i := by
    intro i x hx
    match i, hx with
    | 0, hx => injection hx with hx; exact ⟨x0, hx.symm, n0, m0⟩
    | 1, hx => injection hx with hx; exact ⟨x1, hx.symm, n1, m1⟩
    | 2, hx => injection hx with hx; exact ⟨x2, hx.symm, n2, m2⟩
    | 3, hx => injection hx with hx; exact ⟨x3, hx.symm, n3, m3⟩
  refine w_l1 (SqL.of hq) ?_
  refine lp_lst (xs := [V.ref x0, V.ref x1, V.ref x2, V.ref x3]) (fun i σ H' => (∃ u, σ = [some (.str m), u]) ∧ Kp [] H1 H' ∧ ∀ d, d < i → m ≠ mdN d) ⟨⟨_, rfl⟩, Kp.refl _ _, fun d hd => by omega⟩ ?_ ?_ ?_
  · rintro i σ' H' hi ⟨_, k, _⟩
    exact SqL.of (k.at0 hq)
  · rintro i x σ' H' hx ⟨⟨u, rfl⟩, k, al⟩
    obtain ⟨y, rfl, ny, md⟩ := key i x hx
    walk_at "g"
    refine w_tcon ?_
    walk_at "g"
    refine w_con T (md.k0 k) ?_
    walk_at "g"
    refine w_iteD (fun e => ?_) (fun e => ?_)
    · walk_at "g"
      exact g1 i md.c3 e.symm y H' ny (k1.trans k) (md.k0 k)
    · walk_at "g"
      refine ⟨⟨_, rfl⟩, k, fun d hd => ?_⟩
      by_cases z : d = i
      · rw [z]; exact fun w => e w.symm
      · exact al d (by omega)
  · rintro σ' H' ⟨⟨u, rfl⟩, k, al⟩
    walk_at "g"
    exact ⟨rfl, Nat.le_of_ble_eq_true rfl, g2 (fun c hc => al c (by show c < 4; omega)) H' (k1.trans k)⟩
theorem len_admits (K : PySem.W.Frag) : ∀ vs H Q E, sp_admits K vs H Q E → vs.length = (["links", "operation", "mode"] : List Str).length := by
  rintro vs H Q E ⟨_, _, _, _, _, _, _, rfl, _⟩
  rfl
theorem rd_admits (T : Txt K mg) (vs : List V) (H : Hp) (Q : VK) (E : XK) (h : sp_admits K vs H Q E) : t_admits K E { nx := fun _ H' => Q .non H', rt := Q } (start ["links", "operation", "mode"] vs) H := by
  obtain ⟨p, r, l, o, s, op, m, rfl, la, g, bm⟩ := h
  unfold t_admits
  walk_at "g"
  refine w_mtD ?_
  walk_at "g"
  refine ⟨m, rfl, fun c c3 em x H1 nx k1 md => ?_, bm⟩
  obtain ⟨g1, g2⟩ := g c c3 em
  refine w_rf (P := fun sp => (tCons (tVar 0) (tCons (tVar 1) tNil)) _ _ fun vs H2 => sp (V.ref x :: vs) H2 _ _) md ?_
  walk_at "g"
  refine ⟨x, p, r, l, o, s, op, c, rfl, md, Nat.le_refl _, la.k0 k1, fun ok => fun H2 k2 => ?_, fun z => g2 z H1 k1⟩
  walk_at "g"
  exact g1 ok H2 (k1.trans k2)
theorem len_admitted (K : PySem.W.Frag) : ∀ vs H Q E, sp_admitted K vs H Q E → vs.length = (["links", "mode"] : List Str).length := by
  rintro vs H Q E ⟨_, _, _, _, _, _, rfl, _⟩
  rfl
theorem rd_admitted (T : Txt K mg) (vs : List V) (H : Hp) (Q : VK) (E : XK) (h : sp_admitted K vs H Q E) : t_admitted K E { nx := fun _ H' => Q .non H', rt := Q } (start ["links", "mode", "legal", "node", "operation"] vs) H := by
  obtain ⟨p, r, l, o, s, m, rfl, la, g, bm⟩ := h
  unfold t_admitted
  have wf := la.wf
  have n60 := wf.n60
  walk_at "g"
  refine ⟨m, rfl, fun c c3 em x H1 nx k1 md => ?_, bm⟩
  have g := g c c3 em
  have la1 := la.k0 k1
  walk_at "g"
  refine w_fS T.cl_Links T.na_Links_size la1 ?_
  walk_at "g"
  refine w_r2 (by omega) ?_
  rw [show ((s.n : Int) + 1 - 1).toNat = s.n by omega]
  refine cp_rng (fun i => (((List.range i).map fun (v : Nat) => legO s (v + 1)).map V.int)) (fun i hi => sz_lt (by rw [List.length_map, List.length_map, List.length_range]; omega)) rfl (fun i H' S N hi k y no => ?_) (fun st H2 nst k2 hst => ?_)
  · walk_at "g"
    refine ⟨rfl, ?_⟩
    walk_at "g"
    refine w_me (la1.k0 k) no_m ?_
    walk_at "g"
    refine ⟨p, r, l, o, s, i + 1, by rw [show (1 : Int) + (i : Int) = ((i + 1 : Nat) : Int) by omega], la1.k0 k, by omega, ?_⟩
    walk_at "g"
    have e : ((List.range (i + 1)).map fun (v : Nat) => legO s (v + 1)).map V.int = ((List.range i).map fun (v : Nat) => legO s (v + 1)).map V.int ++ [V.int (legO s (i + 1))] := by
      rw [List.range_succ, List.map_append, List.map_append] <;> rfl
    refine w_iteB (fun cc => ?_) (fun cc => ?_)
    · walk_at "g"
      refine y _ _ (Kp.refl _ _) ?_
      rw [e, show legO s (i + 1) = 1 + (i : Int) by unfold legO; rw [cc, if_pos rfl]; omega]
    · walk_at "g"
      refine y _ _ (Kp.refl _ _) ?_
      rw [e, show legO s (i + 1) = -(1 + (i : Int)) by unfold legO; rw [cc, if_neg Bool.false_ne_true]; omega]
  have mm : ∀ x ∈ (List.range s.n).map fun (v : Nat) => legO s (v + 1), OkOp s x := by
    intro x hx
    obtain ⟨v, hv, rfl⟩ := List.mem_map.mp hx
    have := List.mem_range.mp hv
    exact (legO_ok' (by omega) (by omega)).1
  have ll : ((List.range s.n).map fun (v : Nat) => legO s (v + 1)).length ≤ 60 := by rw [List.length_map, List.length_range]; omega
  unfold admL at g
  generalize ((List.range s.n).map fun (v : Nat) => legO s (v + 1)) = F at g hst mm ll
  walk_at "g"
  refine w_l1 (SqL.of hst) ?_
  refine cp_lst (SqL.of hst) (fun i => ((F.take i).filter fun op => decide (refS c s op = "")).map V.int) (fun i hi => ?_) rfl (fun i x' H' S N hx k y no => ?_) (fun st2 H3 nst2 k3 hst2 => ?_)
  · refine sz_lt ?_
    rw [List.length_map]
    have := List.length_filter_le (fun op : Int => decide (refS c s op = "")) (F.take i)
    rw [List.length_take] at this
    omega
  · obtain ⟨op, hop, rfl⟩ := at_map hx
    have k02 := k2.trans k
    have okop := mm op (List.mem_of_getElem? hop)
    walk_at "g"
    refine ⟨rfl, ?_⟩
    walk_at "g"
    refine w_clK ?_
    walk_at "g"
    refine ⟨rfl, rfl, p, r, l, o, s, op, m, rfl, la1.k0 k02, fun c' c3' em' => ⟨fun _ H4 k4 => ?_, fun z => absurd okop z⟩, fun z => absurd em (z c c3)⟩
    obtain rfl : c' = c := mdN_inj c3' c3 (em'.symm.trans em)
    walk_at "g"
    refine w_iteD (fun cc => ?_) (fun cc => ?_)
    · walk_at "g"
      refine y _ _ k4 ?_
      rw [take_snoc hop, List.filter_append, List.map_append, List.filter_cons_of_pos (p := fun op : Int => decide (refS c' s op = "")) (decide_eq_true cc)] <;> rfl
    · refine no _ k4 ?_
      rw [take_snoc hop, List.filter_append, List.map_append, List.filter_cons_of_neg (p := fun op : Int => decide (refS c' s op = "")) (by rw [decide_eq_false cc]; exact Bool.false_ne_true)]
      exact List.append_nil _
  · rw [List.length_map, List.take_length] at hst2
    exact g st2 H3 (k1.free0 (k2.free0 nst2)) ((k1.trans k2).trans k3) hst2
theorem w_admits {H : Hp} {Q : VK} {E : XK} {p r l o : Addr} {s : Sd} {op : Int} {m : Str} (c : Nat) (c3 : c ≤ 3) (em : m = mdN c) (la : LinksAt K H p r l o s) (ok : OkOp s op) (g : Any H (.bl (decide (refS c s op = ""))) Q) : sp_admits K [.ref p, .int op, .str m] H Q E :=
  ⟨p, r, l, o, s, op, m, rfl, la, fun c' c3' em' => by
    obtain rfl : c = c' := mdN_inj c3 c3' (em.symm.trans em')
    exact ⟨fun _ => g, fun bad => absurd ok bad⟩, fun nm => absurd em (nm c c3)⟩
end
end G
set_option Elab.async false
set_option linter.all false
set_option maxRecDepth 100000
set_option maxHeartbeats 1000000
namespace G
--#FAM KW
open PySem PySem.Spec PyProof.Rows L2
local macro_rules
  | `(tactic| walk_at "1") => `(tactic| first
    | with_reducible refine w_seq ?_
    | with_reducible refine w_asg ?_
    | with_reducible refine w_asgS ?_
    | with_reducible refine w_asf ?_
    | with_reducible refine w_drop ?_
    | with_reducible refine w_ret ?_
    | with_reducible refine w_if ?_
    | with_reducible refine w_not ?_
    | with_reducible refine w_and ?_
    | with_reducible refine w_or ?_
    | with_reducible refine w_test ?_
    | with_reducible refine w_tb ?_
    | with_reducible refine w_chain ?_
    | with_reducible refine w_op ?_
    | with_reducible refine w_un ?_
    | with_reducible refine w_andV ?_
    | with_reducible refine w_orV ?_
    | with_reducible refine w_notV ?_
    | with_reducible refine w_ifE ?_
    | with_reducible refine w_cons ?_
    | with_reducible refine w_nil ?_
    | with_reducible refine w_cb ?_
    | with_reducible refine w_cl ?_
    | with_reducible refine w_mt ?_
    | with_reducible refine w_fld ?_
    | with_reducible refine w_tupN ?_
    | with_reducible refine w_lstN ?_
    | with_reducible refine w_bm ?_
    | with_reducible refine w_bm0 ?_
    | with_reducible refine w_for ?_
    | with_reducible refine w_lc ?_
    | with_reducible refine w_iR1 ?_
    | with_reducible refine w_iR2 ?_
    | with_reducible refine w_iL ?_
    | with_reducible refine w_iT ?_
    | with_reducible refine w_iE ?_
    | with_reducible refine w_iZ ?_
    | with_reducible refine w_var (by with_unfolding_all rfl) ?_
    | with_reducible refine w_c ?_
    | with_reducible refine w_next ?_
    | with_reducible refine w_i0 ?_
    | with_reducible refine w_u1 ?_
    | with_reducible refine w_addI ?_
    | with_reducible refine w_eqI ?_
    | with_reducible refine w_eqS ?_
    | with_reducible refine w_eqB ?_
    | with_reducible refine w_neI ?_
    | with_reducible refine w_neS ?_
    | with_reducible refine w_neB ?_
    | with_reducible refine w_abs ?_
    | with_reducible refine w_intI ?_
    | with_reducible refine w_min2 ?_
    | with_reducible refine w_max2 ?_
    | with_reducible refine w_isN0 ?_
    | with_reducible refine w_isN1 ref_ne ?_
    | with_reducible refine w_isN1 int_ne ?_
    | with_reducible refine w_notN0 ?_
    | with_reducible refine w_notN1 ref_ne ?_
    | with_reducible refine w_notN1 int_ne ?_
    | with_reducible refine w_ex1 ?_
    | with_reducible refine w_n1 ?_
    | with_reducible refine w_n2 ?_
    | with_reducible refine w_tT ?_
    | with_reducible refine w_tF ?_
    | with_reducible refine w_nT ?_
    | with_reducible refine w_nF ?_
    | with_reducible refine w_rz ?_
    | with_reducible refine w_mkN ?_
    | with_reducible refine w_lrgN ?_
    | with_reducible refine w_rg1 ?_
    | with_reducible refine w_rg2 ?_
    | with_reducible refine w_sl ?_
    | with_reducible refine w_np ?_
    | with_reducible refine w_pt ?_
    | with_reducible refine w_tr ?_
    | with_reducible refine w_gn ?_
    | with_reducible refine w_yes ?_
    | with_reducible refine w_m1 ?_
    | with_reducible refine w_asu ?_
    | with_reducible refine w_exS ?_
    | with_reducible refine w_iS ?_
    | with_reducible refine w_g1 ?_
    | with_reducible refine w_gc ?_
    | with_reducible refine w_gt (SqT.of upd_same) rfl ?_)
local macro_rules
  | `(tactic| walk_at "g") => `(tactic| repeat walk_at "1")
local macro_rules
  | `(tactic| walk_at "j1") => `(tactic| first
    | with_reducible refine w_seqI ?_
    | walk_at "1")
local macro_rules
  | `(tactic| walk_at "j") => `(tactic| repeat walk_at "j1")
section
variable {K : PySem.W.Frag} {mg : Str → Option Value}
theorem len__law_operation (K : PySem.W.Frag) : ∀ vs H Q E, sp__law_operation K vs H Q E → vs.length = (["book", "node"] : List Str).length := by
  rintro vs H Q E ⟨_, _, _, _, _, _, rfl, _⟩
  rfl
theorem rd__law_operation (T : Txt K mg) (vs : List V) (H : Hp) (Q : VK) (E : XK) (h : sp__law_operation K vs H Q E) : t__law_operation K E { nx := fun _ H' => Q .non H', rt := Q } (start ["book", "node"] vs) H := by
  obtain ⟨w, l, r, o, s, v, rfl, a, v1, g⟩ := h
  unfold t__law_operation
  have lO := a.wf.lO
  walk_at "g"
  refine w_ixL (SqL.of a.ob) (i := 3) (v := .ref o) rfl ?_
  walk_at "g"
  refine w_ixL (SqL.of a.ho) (at_B (by omega) (by omega)) ?_
  rw [Int.toNat_natCast]
  unfold legO at g
  walk_at "g"
  refine w_iteB (fun c => ?_) (fun c => ?_)
  · rw [if_pos c] at g
    walk_at "g"
    exact g
  · rw [if_neg (by rw [c]; exact Bool.false_ne_true)] at g
    walk_at "g"
    exact g
theorem bk_R {R' : List Int} {s : Sd} (w : Wf s) (h1 : R'.length = s.n + 2) (h2 : ∀ v, v ≤ s.n → gI R' v = gI s.R v) : R'.take (s.n + 1) = s.R := by
  have lR := w.lR
  refine List.ext_getElem? fun i => ?_
  by_cases c : i < s.n + 1
  · rw [List.getElem?_take, if_pos c, gI_at (by omega), gI_at (by omega), h2 i (by omega)]
  · rw [List.getElem?_take, if_neg c, List.getElem?_eq_none (by omega)]
theorem bk_L {L' : List Int} {s : Sd} (w : Wf s) (h1 : L'.length = s.n + 2) (h2 : ∀ v, 1 ≤ v → v ≤ s.n + 1 → gI L' v = gI s.L v) : L'.drop 1 = s.L.drop 1 := by
  have lL := w.lL
  refine List.ext_getElem? fun i => ?_
  rw [List.getElem?_drop, List.getElem?_drop]
  by_cases c : 1 + i < s.n + 2
  · rw [gI_at (by omega), gI_at (by omega), h2 _ (by omega) (by omega)]
  · rw [List.getElem?_eq_none (by omega), List.getElem?_eq_none (by omega)]
theorem len__law_lost (K : PySem.W.Frag) : ∀ vs H Q E, sp16__law_lost K vs H Q E → vs.length = (["book"] : List Str).length := by
  rintro vs H Q E ⟨_, _, _, _, _, rfl, _⟩
  rfl
theorem rd__law_lost (T : Txt K mg) (vs : List V) (H : Hp) (Q : VK) (E : XK) (h : sp16__law_lost K vs H Q E) : t__law_lost K E { nx := fun _ H' => Q .non H', rt := Q } (start ["book", "gap"] vs) H := by
  obtain ⟨w, l, r, o, s, rfl, a, g⟩ := h
  unfold t__law_lost
  obtain ⟨L', hL, lL, eL⟩ := a.hl
  obtain ⟨R', hR, lR, eR⟩ := a.hr
  have n60 := a.wf.n60
  walk_at "g"
  refine w_ixL (SqL.of a.ob) at_0 ?_
  walk_at "g"
  refine w_r1 (by omega) ?_
  rw [show ((s.n : Int) + 1).toNat = s.n + 1 by omega]
  have snoc : ∀ i, ((((List.range (i + 1)).filter fun v => decide (stT s v = "lost")).map fun (v : Nat) => (v : Int)).map V.int) = ((((List.range i).filter fun v => decide (stT s v = "lost")).map fun (v : Nat) => (v : Int)).map V.int) ++ if stT s i = "lost" then [V.int (i : Int)] else [] := fun i => by
    rw [List.range_succ, List.filter_append, List.map_append, List.map_append]
    congr 1
    by_cases c : stT s i = "lost"
    · rw [if_pos c, List.filter_cons_of_pos (p := fun v => decide (stT s v = "lost")) (decide_eq_true c)] <;> rfl
    · rw [if_neg c, List.filter_cons_of_neg (p := fun v => decide (stT s v = "lost")) (by rw [decide_eq_false c]; decide)] <;> rfl
  refine cp_rng (fun i => ((((List.range i).filter fun v => decide (stT s v = "lost")).map fun (v : Nat) => (v : Int)).map V.int)) (fun i hi => sz_lt (by
    rw [List.length_map, List.length_map]
    have := List.length_filter_le (fun v => decide (stT s v = "lost")) (List.range i)
    rw [List.length_range] at this
    omega)) rfl (fun i H' S N hi k y no => ?_) (fun q H1 nq k1 hq => g q H1 nq k1 hq)
  have e1 : gI R' (0 + (i : Int)).toNat = gI s.R i := by rw [show (0 + (i : Int)).toNat = i by omega]; exact eR i (by omega)
  have e2 : gI L' (0 + (i : Int) + 1).toNat = gI s.L (i + 1) := by rw [show (0 + (i : Int) + 1).toNat = i + 1 by omega]; exact eL (i + 1) (by omega) (by omega)
  walk_at "g"
  refine ⟨rfl, ?_⟩
  walk_at "g"
  refine w_ixL (SqL.of (k.at0 a.ob)) (i := 2) (v := .ref r) rfl ?_
  walk_at "g"
  refine w_ixL (SqL.of (k.at0 hR)) (at_I (by omega) (by omega)) ?_
  rw [e1]
  walk_at "g"
  refine w_iteN (fun c1 => ?_) (fun c1 => ?_)
  · walk_at "g"
    refine w_ixL (SqL.of (k.at0 a.ob)) (i := 1) (v := .ref l) rfl ?_
    walk_at "g"
    refine w_ixL (SqL.of (k.at0 hL)) (at_I (by omega) (by omega)) ?_
    rw [e2]
    walk_at "g"
    refine w_iteN (fun c2 => ?_) (fun c2 => ?_)
    · walk_at "g"
      refine y _ _ (Kp.refl _ _) ?_
      rw [snoc, if_pos (stT_lost2.mpr ⟨by omega, by omega⟩), Int.zero_add]
    · refine no _ (Kp.refl _ _) ?_
      rw [snoc, if_neg (fun z => by have := (stT_lost2.mp z).2; omega), List.append_nil]
  · walk_at "g"
    refine no _ (Kp.refl _ _) ?_
    rw [snoc, if_neg (fun z => by have := (stT_lost2.mp z).1; omega), List.append_nil]
end
end G
set_option Elab.async false
set_option linter.all false
set_option maxRecDepth 100000
set_option maxHeartbeats 2000000
namespace G
--#FAM KW
open PySem PySem.Spec PyProof.Rows L2
local macro_rules
  | `(tactic| walk_at "1") => `(tactic| first
    | with_reducible refine w_seq ?_
    | with_reducible refine w_asg ?_
    | with_reducible refine w_asgS ?_
    | with_reducible refine w_asf ?_
    | with_reducible refine w_drop ?_
    | with_reducible refine w_ret ?_
    | with_reducible refine w_if ?_
    | with_reducible refine w_not ?_
    | with_reducible refine w_and ?_
    | with_reducible refine w_or ?_
    | with_reducible refine w_test ?_
    | with_reducible refine w_tb ?_
    | with_reducible refine w_chain ?_
    | with_reducible refine w_op ?_
    | with_reducible refine w_un ?_
    | with_reducible refine w_andV ?_
    | with_reducible refine w_orV ?_
    | with_reducible refine w_notV ?_
    | with_reducible refine w_ifE ?_
    | with_reducible refine w_cons ?_
    | with_reducible refine w_nil ?_
    | with_reducible refine w_cb ?_
    | with_reducible refine w_cl ?_
    | with_reducible refine w_mt ?_
    | with_reducible refine w_fld ?_
    | with_reducible refine w_tupN ?_
    | with_reducible refine w_lstN ?_
    | with_reducible refine w_bm ?_
    | with_reducible refine w_bm0 ?_
    | with_reducible refine w_for ?_
    | with_reducible refine w_lc ?_
    | with_reducible refine w_iR1 ?_
    | with_reducible refine w_iR2 ?_
    | with_reducible refine w_iL ?_
    | with_reducible refine w_iT ?_
    | with_reducible refine w_iE ?_
    | with_reducible refine w_iZ ?_
    | with_reducible refine w_var (by with_unfolding_all rfl) ?_
    | with_reducible refine w_c ?_
    | with_reducible refine w_next ?_
    | with_reducible refine w_i0 ?_
    | with_reducible refine w_u1 ?_
    | with_reducible refine w_addI ?_
    | with_reducible refine w_eqI ?_
    | with_reducible refine w_eqS ?_
    | with_reducible refine w_eqB ?_
    | with_reducible refine w_neI ?_
    | with_reducible refine w_neS ?_
    | with_reducible refine w_neB ?_
    | with_reducible refine w_abs ?_
    | with_reducible refine w_intI ?_
    | with_reducible refine w_min2 ?_
    | with_reducible refine w_max2 ?_
    | with_reducible refine w_isN0 ?_
    | with_reducible refine w_isN1 ref_ne ?_
    | with_reducible refine w_isN1 int_ne ?_
    | with_reducible refine w_notN0 ?_
    | with_reducible refine w_notN1 ref_ne ?_
    | with_reducible refine w_notN1 int_ne ?_
    | with_reducible refine w_ex1 ?_
    | with_reducible refine w_n1 ?_
    | with_reducible refine w_n2 ?_
    | with_reducible refine w_tT ?_
    | with_reducible refine w_tF ?_
    | with_reducible refine w_nT ?_
    | with_reducible refine w_nF ?_
    | with_reducible refine w_rz ?_
    | with_reducible refine w_mkN ?_
    | with_reducible refine w_lrgN ?_
    | with_reducible refine w_rg1 ?_
    | with_reducible refine w_rg2 ?_
    | with_reducible refine w_sl ?_
    | with_reducible refine w_np ?_
    | with_reducible refine w_pt ?_
    | with_reducible refine w_tr ?_
    | with_reducible refine w_gn ?_
    | with_reducible refine w_yes ?_
    | with_reducible refine w_m1 ?_
    | with_reducible refine w_asu ?_
    | with_reducible refine w_exS ?_
    | with_reducible refine w_iS ?_
    | with_reducible refine w_g1 ?_
    | with_reducible refine w_gc ?_
    | with_reducible refine w_gt (SqT.of upd_same) rfl ?_)
local macro_rules
  | `(tactic| walk_at "g") => `(tactic| repeat walk_at "1")
local macro_rules
  | `(tactic| walk_at "j1") => `(tactic| first
    | with_reducible refine w_seqI ?_
    | walk_at "1")
local macro_rules
  | `(tactic| walk_at "j") => `(tactic| repeat walk_at "j1")
section
variable {K : PySem.W.Frag} {mg : Str → Option Value}
theorem cmulR9 {i j : Int} (h1 : -(2 ^ 64) < j) (h2 : j < 2 ^ 64) : CMul i j := .inr ⟨h1, h2⟩
theorem cut_all9 (l : List Int) (k : Nat) (h : l.length ≤ k) : cutV (l.map V.int) none (some (k : Int)) = l.map V.int := by
  unfold cutV
  rw [HT.sIx_nat, HT.sIx_none, Nat.min_eq_right (by rw [List.length_map]; exact h), List.drop_zero, Nat.sub_zero, List.take_length]
theorem str_glue9 (a b c : Str) : a ++ (" | " : Str) ++ b ++ (" | " : Str) ++ c = Txt.join barS [a, b, c] := by
  rw [TL.join_eq]
  refine TL.ext_tl ?_
  rw [TL.tl_join]
  show TL.tl (a ++ barS ++ b ++ barS ++ c) = TL.tl a ++ (TL.tl barS ++ (TL.tl b ++ (TL.tl barS ++ TL.tl c)))
  simp only [TL.tl_append, List.append_assoc]
theorem len__law_purse (K : PySem.W.Frag) : ∀ vs H Q E, sp13__law_purse K vs H Q E → vs.length = (["script"] : List Str).length := by
  rintro vs H Q E ⟨_, _, rfl, _⟩
  rfl
theorem rd__law_purse (T : Txt K mg) (vs : List V) (H : Hp) (Q : VK) (E : XK) (h : sp13__law_purse K vs H Q E) : t__law_purse K E { nx := fun _ H' => Q .non H', rt := Q } (start ["script", "cells", "seed", "cell"] vs) H := by
  obtain ⟨a, ns, rfl, hs, hl, g⟩ := h
  unfold t__law_purse
  have ct : cutV (ns.map V.int) none (some 63) = ns.map V.int := cut_all9 ns 63 hl
  walk_at "g"
  refine w_slL hs fun q H1 nq k1 hq => ?_
  rw [ct] at hq
  walk_at "g"
  refine w_l1 (SqL.of hq) ?_
  refine cp_lst (SqL.of hq) (fun i => ((((ns.take i).filter fun x => decide ((10 : Int) ^ Int.toNat 18 ≤ (x.natAbs : Int))).map fun x => ((x.natAbs : Nat) : Int)).map V.int)) (fun i hi => sz_lt (by
    rw [List.length_map, List.length_map]
    have := List.length_filter_le (fun x : Int => decide ((10 : Int) ^ Int.toNat 18 ≤ (x.natAbs : Int))) (ns.take i)
    rw [List.length_take] at this
    omega)) rfl (fun i x H' S N hx k y no => ?_) (fun c H2 nc k2 hc => ?_)
  · obtain ⟨v, hv, rfl⟩ := at_map hx
    walk_at "g"
    refine ⟨rfl, ?_⟩
    walk_at "g"
    rw [natAbs_if]
    refine w_ic ⟨by omega, by omega, by decide⟩ ?_
    walk_at "g"
    refine w_iteD (fun cc => ?_) (fun cc => ?_)
    · walk_at "g"
      rw [natAbs_if]
      refine y _ _ (Kp.refl _ _) ?_
      rw [take_snoc hv, List.filter_append, List.map_append, List.map_append, List.filter_cons_of_pos (p := fun x : Int => decide ((10 : Int) ^ Int.toNat 18 ≤ (x.natAbs : Int))) (decide_eq_true cc)] <;> rfl
    · refine no _ (Kp.refl _ _) ?_
      rw [take_snoc hv, List.filter_append, List.map_append, List.map_append, List.filter_cons_of_neg (p := fun x : Int => decide ((10 : Int) ^ Int.toNat 18 ≤ (x.natAbs : Int))) (by rw [decide_eq_false cc]; exact Bool.false_ne_true)]
      exact List.append_nil _
  rw [List.length_map, List.take_length] at hc
  have lc : ((ns.filter fun x => decide ((10 : Int) ^ Int.toNat 18 ≤ (x.natAbs : Int))).map fun x => ((x.natAbs : Nat) : Int)).length ≤ 63 := by
    rw [List.length_map]
    exact Nat.le_trans (List.length_filter_le _ _) hl
  have k12 := k1.trans k2
  walk_at "g"
  refine w_slL (k12.sql (by simp) hs) fun q3 H3 nq3 k3 hq3 => ?_
  rw [ct] at hq3
  walk_at "g"
  refine w_l1 (SqL.of hq3) ?_
  refine lp_lst (xs := ns.map V.int) (fun i σ H' => (∃ (z : Int) (u : Option V), σ = [some (.ref a), some (.ref c), some (.int z), u]) ∧ H' = H3) ⟨⟨_, _, rfl⟩, rfl⟩ ?_ ?_ ?_
  · rintro i σ' H' hi ⟨_, rfl⟩
    exact SqL.of hq3
  · rintro i x σ' H' hx ⟨⟨z, u, rfl⟩, eH⟩
    obtain rfl : H' = H3 := eH
    obtain ⟨v, hv, rfl⟩ := at_map hx
    walk_at "g"
    refine w_mulI (cmulR9 (by omega) (by omega)) ?_
    walk_at "g"
    refine w_ic (by omega) ?_
    walk_at "g"
    refine w_ic (by omega) ?_
    exact ⟨⟨_, _, rfl⟩, rfl⟩
  · rintro σ' H' ⟨⟨z, u, rfl⟩, eH⟩
    obtain rfl : H' = H3 := eH
    walk_at "g"
    refine ⟨sz_ok (by show 4 ≤ 1000000; omega), G.nw fun b H4 nb k4 hb => ?_⟩
    exact g b c H4 (k12.free0 (k3.free0 nb)) (k1.free0 nc) (k12.trans (k3.trans k4)) ⟨_, _, _, _, hb, k4.at0 (k3.at0 hc), lc⟩
theorem len__law_take (K : PySem.W.Frag) : ∀ vs H Q E, sp13__law_take K vs H Q E → vs.length = (["purse", "many"] : List Str).length := by
  rintro vs H Q E ⟨_, _, _, rfl, _⟩
  rfl
theorem rd__law_take (T : Txt K mg) (vs : List V) (H : Hp) (Q : VK) (E : XK) (h : sp13__law_take K vs H Q E) : t__law_take K E { nx := fun _ H' => Q .non H', rt := Q } (start ["purse", "many", "cells", "draw"] vs) H := by
  obtain ⟨b, c, many, rfl, hm, hm2, pu, g⟩ := h
  unfold t__law_take
  have bc := pu.ne
  obtain ⟨x, y, z, ns, hb, hc, lns⟩ := pu.ob
  walk_at "g"
  refine w_ixL (SqL.of hb) (i := 3) (v := .int z) rfl ?_
  walk_at "g"
  refine w_seT hb (n := 3) rfl fun H1 k1 h1 => ?_
  have hc1 := k1.at1 (Ne.symm bc) hc
  walk_at "g"
  refine w_ixL (SqL.of h1) at_0 ?_
  walk_at "g"
  refine w_truL (SqL.of hc1) ?_
  match ns, hc1, lns with
  | [], hc1, lns =>
    refine w_nF ?_
    walk_at "g"
    refine w_ixL (SqL.of h1) (i := 1) (v := .int x) rfl ?_
    walk_at "g"
    refine w_mulI (cmulR9 (by omega) (by omega)) ?_
    walk_at "g"
    refine w_ixL (SqL.of h1) (i := 3) (v := .int (z + 1)) rfl ?_
    walk_at "g"
    refine w_mulI (cmulR9 (by omega) (by omega)) ?_
    walk_at "g"
    refine w_ic (by omega) ?_
    walk_at "g"
    refine w_seT h1 (n := 1) rfl fun H2 k2 h2 => ?_
    generalize (x * 48271 + (z + 1) * 69621 + 11) % 2147483647 = x' at h2
    walk_at "g"
    refine w_ixL (SqL.of h2) (i := 2) (v := .int y) rfl ?_
    walk_at "g"
    refine w_mulI (cmulR9 (by omega) (by omega)) ?_
    walk_at "g"
    refine w_ixL (SqL.of h2) (i := 1) (v := .int x') rfl ?_
    walk_at "g"
    refine w_ic ⟨by omega, by omega⟩ ?_
    walk_at "g"
    refine w_ic (by omega) ?_
    walk_at "g"
    refine w_seT h2 (n := 2) rfl fun H3 k3 h3 => ?_
    generalize (y * 39373 + x' / 128 + 5) % 2147483629 = y' at h3
    walk_at "g"
    refine w_ixL (SqL.of h3) (i := 1) (v := .int x') rfl ?_
    walk_at "g"
    refine w_ic ⟨by omega, by omega⟩ ?_
    walk_at "g"
    refine w_ixL (SqL.of h3) (i := 2) (v := .int y') rfl ?_
    walk_at "g"
    refine w_ic hm ?_
    have k13 := (k1.trans k2).trans k3
    exact g _ H3 (Int.emod_nonneg _ (by omega)) (Int.emod_lt_of_pos _ hm) (k13.mono (by simp)) ⟨x', y', z + 1, [], h3, k3.at1 (Ne.symm bc) (k2.at1 (Ne.symm bc) hc1), Nat.zero_le _⟩
  | cell :: more, hc1, lns =>
    rw [List.length_cons] at lns
    refine w_nT ?_
    walk_at "g"
    refine w_ixL (SqL.of hc1) at_0 ?_
    walk_at "g"
    refine w_ic hm ?_
    walk_at "g"
    refine w_ixL (SqL.of hc1) at_0 ?_
    walk_at "g"
    refine w_ic ⟨hm, by omega⟩ ?_
    walk_at "g"
    refine w_seT hc1 (n := 0) (by rw [ixN_pos (by omega) (by rw [List.length_map, List.length_cons]; omega)]; rfl) fun H2 k2 h2 => ?_
    have h2 : H2 c = some (.lst (((cell / many) :: more).map V.int)) := h2
    generalize cell / many = rest at h2
    have hb2 := k2.at1 bc h1
    walk_at "j"
    refine w_ifK (fun H' => Kp [c] H2 H' ∧ ∃ ms : List Int, H' c = some (.lst (ms.map V.int)) ∧ ms.length ≤ 63) (fun N hN => ?_) (fun H3 ⟨k3, ms, h3, lm⟩ => ?_)
    · walk_at "g"
      refine w_ixL (SqL.of h2) at_0 ?_
      walk_at "g"
      refine w_iteD (fun c1 => ?_) (fun c1 => ?_)
      · walk_at "g"
        refine ⟨w_ty (SqL.of h2), ?_⟩
        walk_at "g"
        refine w_popAt h2 (k := 0) (y := .int rest) (by omega) (by omega) (by unfold seqIndex?; rw [List.length_map, List.length_cons]; simp) rfl fun H3 k3 h3 => ?_
        walk_at "g"
        exact hN _ ⟨k3, more, h3, by omega⟩
      · walk_at "g"
        exact hN _ ⟨Kp.refl _ _, rest :: more, h2, by rw [List.length_cons]; omega⟩
    walk_at "g"
    exact g _ H3 (Int.emod_nonneg _ (by omega)) (Int.emod_lt_of_pos _ hm) (((k1.mono (by simp)).trans (k2.mono (by simp))).trans (k3.mono (by simp))) ⟨x, y, z + 1, ms, k3.at1 bc hb2, h3, lm⟩
theorem len__law_words (K : PySem.W.Frag) : ∀ vs H Q E, sp13__law_words K vs H Q E → vs.length = ([] : List Str).length := by
  rintro vs H Q E ⟨rfl, _⟩
  rfl
theorem rd__law_words (T : Txt K mg) (vs : List V) (H : Hp) (Q : VK) (E : XK) (h : sp13__law_words K vs H Q E) : t__law_words K E { nx := fun _ H' => Q .non H', rt := Q } (start [] vs) H := by
  obtain ⟨rfl, g⟩ := h
  unfold t__law_words
  walk_at "g"
  refine ⟨sz_ok (by show 4 ≤ 1000000; omega), G.nw fun q H1 nq k1 hq => ?_⟩
  exact g q H1 nq k1 hq
theorem len__law_is (K : PySem.W.Frag) : ∀ vs H Q E, sp13__law_is K vs H Q E → vs.length = (["told", "due"] : List Str).length := by
  rintro vs H Q E ⟨_, rfl, _⟩
  rfl
theorem rd__law_is (T : Txt K mg) (vs : List V) (H : Hp) (Q : VK) (E : XK) (h : sp13__law_is K vs H Q E) : t__law_is K E { nx := fun _ H' => Q .non H', rt := Q } (start ["told", "due"] vs) H := by
  obtain ⟨i, rfl, g⟩ := h
  unfold t__law_is
  walk_at "g"
  refine w_isiI (r := true) rfl ?_
  walk_at "g"
  refine w_isiI (r := false) rfl ?_
  walk_at "g"
  rw [decide_eq_true rfl]
  exact g
theorem len__law_ints (K : PySem.W.Frag) : ∀ vs H Q E, sp13__law_ints K vs H Q E → vs.length = (["told", "due"] : List Str).length := by
  rintro vs H Q E ⟨_, _, _, rfl, _⟩
  rfl
theorem rd__law_ints (T : Txt K mg) (vs : List V) (H : Hp) (Q : VK) (E : XK) (h : sp13__law_ints K vs H Q E) : t__law_ints K E { nx := fun _ H' => Q .non H', rt := Q } (start ["told", "due", "k"] vs) H := by
  obtain ⟨a, b, xs, rfl, hl, ha, hb, g⟩ := h
  unfold t__law_ints
  walk_at "g"
  refine w_isiL ha (r := true) rfl ?_
  walk_at "g"
  refine w_lenL (SqL.of ha) ?_
  walk_at "g"
  refine w_lenL (SqL.of hb) ?_
  walk_at "g"
  rw [decide_eq_true rfl]
  walk_at "g"
  refine w_lenL (SqL.of hb) ?_
  walk_at "g"
  rw [List.length_map]
  refine w_r1 (by omega) ?_
  refine lp_rng0 (fun i σ H' => (∃ u, σ = [some (.ref a), some (.ref b), u]) ∧ H' = H) ⟨⟨_, rfl⟩, rfl⟩ ?_ ?_
  · rintro i σ' H' hi ⟨⟨u, rfl⟩, eH⟩
    obtain rfl : H' = H := eH
    rw [Int.toNat_natCast] at hi
    walk_at "g"
    refine w_ixL (SqL.of ha) (at_I (by omega) (by omega)) ?_
    walk_at "g"
    refine w_ixL (SqL.of hb) (at_I (by omega) (by omega)) ?_
    walk_at "g"
    refine ⟨_, rfl, ?_⟩
    walk_at "g"
    exact ⟨⟨_, rfl⟩, rfl⟩
  · rintro σ' H' ⟨⟨u, rfl⟩, eH⟩
    obtain rfl : H' = H := eH
    walk_at "g"
    exact g
theorem len__law_truth (K : PySem.W.Frag) : ∀ vs H Q E, sp13__law_truth K vs H Q E → vs.length = (["told", "due"] : List Str).length := by
  rintro vs H Q E ⟨_, rfl, _⟩
  rfl
theorem rd__law_truth (T : Txt K mg) (vs : List V) (H : Hp) (Q : VK) (E : XK) (h : sp13__law_truth K vs H Q E) : t__law_truth K E { nx := fun _ H' => Q .non H', rt := Q } (start ["told", "due"] vs) H := by
  obtain ⟨k, rfl, g⟩ := h
  unfold t__law_truth
  walk_at "g"
  cases k with
  | true =>
    refine w_iteB (fun c => ?_) (fun c => by cases c)
    walk_at "g"
    refine w_isB ?_
    exact g
  | false =>
    refine w_iteB (fun c => by cases c) (fun c => ?_)
    walk_at "g"
    refine w_isB ?_
    exact g
theorem len__law_whole (K : PySem.W.Frag) : ∀ vs H Q E, sp13__law_whole K vs H Q E → vs.length = (["size"] : List Str).length := by
  rintro vs H Q E ⟨_, rfl, _⟩
  rfl
theorem rd__law_whole (T : Txt K mg) (vs : List V) (H : Hp) (Q : VK) (E : XK) (h : sp13__law_whole K vs H Q E) : t__law_whole K E { nx := fun _ H' => Q .non H', rt := Q } (start ["size", "lefts", "rights", "node"] vs) H := by
  obtain ⟨n, rfl, hn, g⟩ := h
  unfold t__law_whole
  walk_at "g"
  refine w_r1 (by omega) ?_
  rw [show ((n : Int) + 2).toNat = n + 2 by omega]
  refine cp_rng (fun i => (rgI (-1) i).map V.int) (fun i hi => sz_lt (by rw [List.length_map, rgI_len]; omega)) rfl (fun i H' S N hi k y _ => ?_) (fun l H1 nl k1 hl => ?_)
  · walk_at "g"
    refine ⟨rfl, ?_⟩
    walk_at "g"
    refine y _ _ (Kp.refl _ _) ?_
    unfold rgI
    rw [List.range_succ, List.map_append, List.map_append, show (0 : Int) + (i : Int) - 1 = -1 + (i : Int) by omega] <;> rfl
  walk_at "g"
  refine w_r1 (by omega) ?_
  rw [show ((n : Int) + 2).toNat = n + 2 by omega]
  refine cp_rng (fun i => (rgI 1 i).map V.int) (fun i hi => sz_lt (by rw [List.length_map, rgI_len]; omega)) rfl (fun i H' S N hi k y _ => ?_) (fun r H2 nr k2 hr => ?_)
  · walk_at "g"
    refine ⟨rfl, ?_⟩
    walk_at "g"
    refine y _ _ (Kp.refl _ _) ?_
    unfold rgI
    rw [List.range_succ, List.map_append, List.map_append, show (0 : Int) + (i : Int) + 1 = 1 + (i : Int) by omega] <;> rfl
  walk_at "g"
  refine w_r1 (by omega) ?_
  rw [show ((n : Int) + 2).toNat = n + 2 by omega]
  refine cp_rng (fun i => (List.replicate i false).map V.bl) (fun i hi => sz_lt (by rw [List.length_map, List.length_replicate]; omega)) rfl (fun i H' S N hi k y _ => ?_) (fun o H3 no k3 ho => ?_)
  · walk_at "g"
    refine ⟨rfl, ?_⟩
    walk_at "g"
    refine y _ _ (Kp.refl _ _) ?_
    rw [rep_snoc, List.map_append] <;> rfl
  refine ⟨sz_ok (by show 4 ≤ 1000000; omega), G.nw fun w H4 nw k4 hw => ?_⟩
  have hl3 := k3.at0 (k2.at0 hl)
  have hr3 := k3.at0 hr
  refine g w l r o H4 (k1.free0 (k2.free0 (k3.free0 nw))) nl (k1.free0 nr) (k1.free0 (k2.free0 no)) ((k1.trans k2).trans (k3.trans k4)) ⟨hw, ⟨_, k4.at0 hl3, by rw [rgI_len]; rfl, fun v h1 h2 => ?_⟩, ⟨_, k4.at0 hr3, by rw [rgI_len]; rfl, fun v hv => ?_⟩, k4.at0 ho,
    ⟨ne_of_none hl nr, ne_of_none (k2.at0 hl) no, ne_of_none hr no, fun z => ne_of_none hl3 nw z.symm, fun z => ne_of_none hr3 nw z.symm, fun z => ne_of_none ho nw z.symm⟩, Wf.whole hn⟩
  · have h2 : v ≤ n + 1 := h2
    obtain ⟨u, rfl⟩ : ∃ u, v = u + 1 := ⟨v - 1, by omega⟩
    rw [gI_range (by omega), (whole_links (n := n) (u := u) (by omega)).2]
    omega
  · have hv : v ≤ n := hv
    rw [gI_range (by omega), (whole_links (n := n) (u := v) hv).1]
    omega
end
end G
set_option Elab.async false
set_option linter.all false
set_option maxRecDepth 100000
set_option maxHeartbeats 2000000
namespace G
--#FAM KW
open PySem PySem.Spec PyProof.Rows L2
local macro_rules
  | `(tactic| walk_at "1") => `(tactic| first
    | with_reducible refine w_seq ?_
    | with_reducible refine w_asg ?_
    | with_reducible refine w_asgS ?_
    | with_reducible refine w_asf ?_
    | with_reducible refine w_drop ?_
    | with_reducible refine w_ret ?_
    | with_reducible refine w_if ?_
    | with_reducible refine w_not ?_
    | with_reducible refine w_and ?_
    | with_reducible refine w_or ?_
    | with_reducible refine w_test ?_
    | with_reducible refine w_tb ?_
    | with_reducible refine w_chain ?_
    | with_reducible refine w_op ?_
    | with_reducible refine w_un ?_
    | with_reducible refine w_andV ?_
    | with_reducible refine w_orV ?_
    | with_reducible refine w_notV ?_
    | with_reducible refine w_ifE ?_
    | with_reducible refine w_cons ?_
    | with_reducible refine w_nil ?_
    | with_reducible refine w_cb ?_
    | with_reducible refine w_cl ?_
    | with_reducible refine w_mt ?_
    | with_reducible refine w_fld ?_
    | with_reducible refine w_tupN ?_
    | with_reducible refine w_lstN ?_
    | with_reducible refine w_bm ?_
    | with_reducible refine w_bm0 ?_
    | with_reducible refine w_for ?_
    | with_reducible refine w_lc ?_
    | with_reducible refine w_iR1 ?_
    | with_reducible refine w_iR2 ?_
    | with_reducible refine w_iL ?_
    | with_reducible refine w_iT ?_
    | with_reducible refine w_iE ?_
    | with_reducible refine w_iZ ?_
    | with_reducible refine w_var (by with_unfolding_all rfl) ?_
    | with_reducible refine w_c ?_
    | with_reducible refine w_next ?_
    | with_reducible refine w_i0 ?_
    | with_reducible refine w_u1 ?_
    | with_reducible refine w_addI ?_
    | with_reducible refine w_eqI ?_
    | with_reducible refine w_eqS ?_
    | with_reducible refine w_eqB ?_
    | with_reducible refine w_neI ?_
    | with_reducible refine w_neS ?_
    | with_reducible refine w_neB ?_
    | with_reducible refine w_abs ?_
    | with_reducible refine w_intI ?_
    | with_reducible refine w_min2 ?_
    | with_reducible refine w_max2 ?_
    | with_reducible refine w_isN0 ?_
    | with_reducible refine w_isN1 ref_ne ?_
    | with_reducible refine w_isN1 int_ne ?_
    | with_reducible refine w_notN0 ?_
    | with_reducible refine w_notN1 ref_ne ?_
    | with_reducible refine w_notN1 int_ne ?_
    | with_reducible refine w_ex1 ?_
    | with_reducible refine w_n1 ?_
    | with_reducible refine w_n2 ?_
    | with_reducible refine w_tT ?_
    | with_reducible refine w_tF ?_
    | with_reducible refine w_nT ?_
    | with_reducible refine w_nF ?_
    | with_reducible refine w_rz ?_
    | with_reducible refine w_mkN ?_
    | with_reducible refine w_lrgN ?_
    | with_reducible refine w_rg1 ?_
    | with_reducible refine w_rg2 ?_
    | with_reducible refine w_sl ?_
    | with_reducible refine w_np ?_
    | with_reducible refine w_pt ?_
    | with_reducible refine w_tr ?_
    | with_reducible refine w_gn ?_
    | with_reducible refine w_yes ?_
    | with_reducible refine w_m1 ?_
    | with_reducible refine w_asu ?_
    | with_reducible refine w_exS ?_
    | with_reducible refine w_iS ?_
    | with_reducible refine w_g1 ?_
    | with_reducible refine w_gc ?_
    | with_reducible refine w_gt (SqT.of upd_same) rfl ?_)
local macro_rules
  | `(tactic| walk_at "g") => `(tactic| repeat walk_at "1")
local macro_rules
  | `(tactic| walk_at "j1") => `(tactic| first
    | with_reducible refine w_seqI ?_
    | walk_at "1")
local macro_rules
  | `(tactic| walk_at "j") => `(tactic| repeat walk_at "j1")
section
variable {K : PySem.W.Frag} {mg : Str → Option Value}
theorem lego_neg {s : Sd} {v : Nat} (h : 1 ≤ v) : legO s v < 0 ↔ gB s.O v = false := by
  unfold legO
  cases gB s.O v <;> simp <;> omega
theorem flip_eq {s : Sd} {v : Nat} (h : 1 ≤ v) : decide (legO s v < 0) = !gB s.O v := by
  rw [Bool.eq_iff_iff, decide_eq_true_iff, lego_neg h]
  cases gB s.O v <;> simp
theorem len__law_moved (K : PySem.W.Frag) : ∀ vs H Q E, sp13__law_moved K vs H Q E → vs.length = (["book", "node"] : List Str).length := by
  rintro vs H Q E ⟨_, _, _, _, _, _, rfl, _⟩
  rfl
theorem rd__law_moved (T : Txt K mg) (vs : List V) (H : Hp) (Q : VK) (E : XK) (h : sp13__law_moved K vs H Q E) : t__law_moved K E { nx := fun _ H' => Q .non H', rt := Q } (start ["book", "node", "lefts", "rights", "flags", "lower", "upper"] vs) H := by
  obtain ⟨w, l, r, o, s, v, rfl, a, h1, h2, g⟩ := h
  unfold t__law_moved
  have wf := a.wf
  have n60 := wf.n60
  have lO := wf.lO
  obtain ⟨L', hL, lL, eL⟩ := a.hl
  obtain ⟨R', hR, lR, eR⟩ := a.hr
  obtain ⟨lb1, lb2⟩ := wf.lb v h1 (by omega)
  obtain ⟨rb1, rb2⟩ := wf.rb v h2
  obtain ⟨lo, elo⟩ : ∃ lo : Nat, gI s.L v = (lo : Int) := ⟨(gI s.L v).toNat, by omega⟩
  obtain ⟨hi, ehi⟩ : ∃ hi : Nat, gI s.R v = (hi : Int) := ⟨(gI s.R v).toNat, by omega⟩
  obtain ⟨ok, eop⟩ := legO_ok' (s := s) h1 h2
  have io : IsOp s.n (legO s v) := ok.1
  have fl := flip_eq (s := s) h1
  have ng := lego_neg (s := s) h1
  have st := fun u => step_gI wf io u
  rw [eop] at st
  walk_at "g"
  refine w_ixL (SqL.of a.ob) (i := 1) (v := .ref l) rfl ?_
  walk_at "g"
  refine w_listLN (SqL.of hL) fun l2 H1 nl2 k1 hl2 => ?_
  walk_at "g"
  refine w_ixL (SqL.of (k1.at0 a.ob)) (i := 2) (v := .ref r) rfl ?_
  walk_at "g"
  refine w_listLN (SqL.of (k1.at0 hR)) fun r2 H2 nr2 k2 hr2 => ?_
  have k12 := k1.trans k2
  walk_at "g"
  refine w_ixL (SqL.of (k12.at0 a.ob)) (i := 3) (v := .ref o) rfl ?_
  walk_at "g"
  refine w_listLN (SqL.of (k12.at0 a.ho)) fun o2 H3 no2 k3 ho2 => ?_
  have k13 := k12.trans k3
  have hl3 := k3.at0 (k2.at0 hl2)
  have hr3 := k3.at0 hr2
  have lr : l2 ≠ r2 := ne_of_none hl2 nr2
  have lo' : l2 ≠ o2 := ne_of_none (k2.at0 hl2) no2
  have ro : r2 ≠ o2 := ne_of_none hr2 no2
  walk_at "g"
  refine w_ixL (SqL.of hl3) (at_I (by omega) (by omega)) ?_
  rw [Int.toNat_natCast, eL v h1 (by omega), elo]
  walk_at "g"
  refine w_ixL (SqL.of hr3) (at_I (by omega) (by omega)) ?_
  rw [Int.toNat_natCast, eR v h2, ehi]
  walk_at "j"
  refine w_ifK (fun H' => Kp [l2, r2] H3 H' ∧ H' r2 = some (.lst ((R'.set lo (if gB s.O v = true then (v : Int) else (hi : Int))).map V.int)) ∧ H' l2 = some (.lst ((L'.set hi (if gB s.O v = true then (v : Int) else (lo : Int))).map V.int))) (fun N hN => ?_) (fun H4 ⟨k4, hr4, hl4⟩ => ?_)
  · walk_at "g"
    refine w_ixL (SqL.of ho2) (at_B (by omega) (by omega)) ?_
    rw [Int.toNat_natCast]
    walk_at "g"
    refine w_iteB (fun c => ?_) (fun c => ?_)
    · walk_at "g"
      refine w_seT hr3 (n := lo) (by rw [ixN_pos (by omega) (by rw [List.length_map]; omega), Int.toNat_natCast]) fun H4 k4 h4 => ?_
      walk_at "g"
      refine w_seT (k4.at1 lr hl3) (n := hi) (by rw [ixN_pos (by omega) (by rw [List.length_map]; omega), Int.toNat_natCast]) fun H5 k5 h5 => ?_
      walk_at "g"
      refine hN _ ⟨(k4.mono (by simp)).trans (k5.mono (by simp)), ?_, ?_⟩
      · rw [if_pos c, k5.at1 (Ne.symm lr) h4, set_I]
      · rw [if_pos c, h5, set_I]
    · have c' : ¬ gB s.O v = true := by rw [c]; exact Bool.false_ne_true
      walk_at "g"
      refine w_seT hr3 (n := lo) (by rw [ixN_pos (by omega) (by rw [List.length_map]; omega), Int.toNat_natCast]) fun H4 k4 h4 => ?_
      walk_at "g"
      refine w_seT (k4.at1 lr hl3) (n := hi) (by rw [ixN_pos (by omega) (by rw [List.length_map]; omega), Int.toNat_natCast]) fun H5 k5 h5 => ?_
      walk_at "g"
      refine hN _ ⟨(k4.mono (by simp)).trans (k5.mono (by simp)), ?_, ?_⟩
      · rw [if_neg c', k5.at1 (Ne.symm lr) h4, set_I]
      · rw [if_neg c', h5, set_I]
  have ho4 := k4 _ _ (by simp [Ne.symm lo', Ne.symm ro]) ho2
  walk_at "g"
  refine w_ixL (SqL.of ho4) (at_B (by omega) (by omega)) ?_
  rw [Int.toNat_natCast]
  walk_at "g"
  refine w_seT ho4 (n := v) (by rw [ixN_pos (by omega) (by rw [List.length_map]; omega), Int.toNat_natCast]) fun H5 k5 h5 => ?_
  have k05 : Kp [] H H5 := (((k13.all (S := [l2, r2, o2])).trans (k4.mono (by simp))).trans (k5.mono (by simp))).cut (by simp [nl2, k1.free0 nr2, k12.free0 no2])
  walk_at "g"
  refine w_ixL (SqL.of (k05.at0 a.ob)) at_0 ?_
  walk_at "g"
  refine ⟨sz_ok (by show 4 ≤ 1000000; omega), G.nw fun w2 H6 nw2 k6 hw2 => ?_⟩
  have hr5 := k5.at1 ro hr4
  have hl5 := k5.at1 lo' hl4
  refine g w2 l2 r2 o2 H6 (k05.free0 nw2) nl2 (k1.free0 nr2) (k12.free0 no2) (k05.trans k6) ⟨hw2, ⟨_, k6.at0 hl5, by rw [List.length_set]; exact lL, fun u u1 u2 => ?_⟩, ⟨_, k6.at0 hr5, by rw [List.length_set]; exact lR, fun u u1 => ?_⟩, ?_,
    ⟨lr, lo', ro, fun z => ne_of_none hl5 nw2 z.symm, fun z => ne_of_none hr5 nw2 z.symm, fun z => ne_of_none h5 nw2 z.symm⟩, wf.step io⟩
  · have u2 : u ≤ s.n + 1 := u2
    rw [gI_set (by omega), (st u).2, ehi, Int.toNat_natCast, elo]
    by_cases c : u = hi
    · rw [if_pos c, if_pos c]
      by_cases d : gB s.O v = true
      · rw [if_pos d, if_neg (fun z => by rw [ng.mp z] at d; cases d)]
      · rw [if_neg d, if_pos (ng.mpr (Bool.not_eq_true _ |>.mp d))]
    · rw [if_neg c, if_neg c]
      exact eL u u1 u2
  · have u1 : u ≤ s.n := u1
    rw [gI_set (by omega), (st u).1, elo, Int.toNat_natCast, ehi]
    by_cases c : u = lo
    · rw [if_pos c, if_pos c]
      by_cases d : gB s.O v = true
      · rw [if_pos d, if_neg (fun z => by rw [ng.mp z] at d; cases d)]
      · rw [if_neg d, if_pos (ng.mpr (Bool.not_eq_true _ |>.mp d))]
    · rw [if_neg c, if_neg c]
      exact eR u u1
  · rw [k6.at0 h5, set_B]
    show _ = some (HO.lst ((s.O.set (legO s v).natAbs (decide (legO s v < 0))).map V.bl))
    rw [eop, fl]
theorem len__law_holders (K : PySem.W.Frag) : ∀ vs H Q E, sp13__law_holders K vs H Q E → vs.length = (["book"] : List Str).length := by
  rintro vs H Q E ⟨_, _, _, _, _, rfl, _⟩
  rfl
theorem rd__law_holders (T : Txt K mg) (vs : List V) (H : Hp) (Q : VK) (E : XK) (h : sp13__law_holders K vs H Q E) : t__law_holders K E { nx := fun _ H' => Q .non H', rt := Q } (start ["book", "found", "node", "below", "above"] vs) H := by
  obtain ⟨w, l, r, o, s, rfl, a, g⟩ := h
  unfold t__law_holders
  have wf := a.wf
  have n60 := wf.n60
  obtain ⟨L', hL, lL, eL⟩ := a.hl
  obtain ⟨R', hR, lR, eR⟩ := a.hr
  walk_at "g"
  refine ⟨sz_ok (Nat.zero_le _), G.nw fun q H1 nq k1 hq => ?_⟩
  have a1 := a.k0 k1
  walk_at "g"
  refine w_ixL (SqL.of a1.ob) at_0 ?_
  walk_at "g"
  refine w_r2 (by omega) ?_
  rw [show ((s.n : Int) + 1 - 1).toNat = s.n by omega]
  refine lp_rng (fun i σ H' => (∃ x2 x3 x4, σ = [some (.ref w), some (.ref q), x2, x3, x4]) ∧ Kp [] H H' ∧ H' q = some (.lst ((((((List.range i).map fun (v : Nat) => v + 1).filter fun v => soleB s v).map fun (v : Nat) => (v : Int))).map V.int))) ⟨⟨_, _, _, rfl⟩, k1, hq⟩ ?_ ?_
  · rintro i σ' H' hi ⟨⟨x2, x3, x4, rfl⟩, k, hq'⟩
    have ob := k.at0 a.ob
    have hL' := k.at0 hL
    have hR' := k.at0 hR
    have snoc : ∀ (c : Bool), soleB s (i + 1) = c → ((((List.range (i + 1)).map fun (v : Nat) => v + 1).filter fun v => soleB s v).map fun (v : Nat) => (v : Int)) = ((((List.range i).map fun (v : Nat) => v + 1).filter fun v => soleB s v).map fun (v : Nat) => (v : Int)) ++ (if c = true then [(1 : Int) + (i : Int)] else []) := fun c e => by
      rw [List.range_succ, List.map_append, List.filter_append, List.map_append]
      congr 1
      show (([i + 1].filter fun v => soleB s v).map fun (v : Nat) => (v : Int)) = _
      cases c with
      | true =>
        rw [List.filter_cons_of_pos (p := fun v => soleB s v) e, if_pos rfl]
        show [((i + 1 : Nat) : Int)] = _
        congr 1
        omega
      | false =>
        rw [List.filter_cons_of_neg (p := fun v => soleB s v) (by rw [e]; exact Bool.false_ne_true), if_neg Bool.false_ne_true]
        rfl
    have lq : ((((List.range i).map fun (v : Nat) => v + 1).filter fun v => soleB s v).map fun (v : Nat) => (v : Int)).length ≤ i := by
      rw [List.length_map]
      refine Nat.le_trans (List.length_filter_le _ _) ?_
      rw [List.length_map, List.length_range]
      exact Nat.le_refl _
    refine w_gn ?_
    refine w_seqJ (fun σ' H'' => H'' = H' ∧ ∃ (b1 : Bool) (x4 : Option V), (b1 = true ↔ stT s i = "right") ∧ σ' = [some (.ref w), some (.ref q), some (.int (1 + (i : Int))), some (.bl b1), x4]) (fun N hN => ?_) (fun σ' H'' ⟨eH, b1, x4', e1, es⟩ => ?_)
    · walk_at "g"
      refine w_ixL (SqL.of ob) (i := 1) (v := .ref l) rfl ?_
      walk_at "g"
      refine w_ixL (SqL.of hL') (at_I (by omega) (by omega)) ?_
      rw [show ((1 : Int) + (i : Int)).toNat = i + 1 by omega, eL (i + 1) (by omega) (by omega)]
      walk_at "g"
      refine w_iteD (fun c => ?_) (fun c => ?_)
      · walk_at "g"
        refine w_ixL (SqL.of ob) (i := 2) (v := .ref r) rfl ?_
        walk_at "g"
        refine w_ixL (SqL.of hR') (at_I (by omega) (by omega)) ?_
        rw [show ((1 : Int) + (i : Int) - 1).toNat = i by omega, eR i (by omega)]
        walk_at "g"
        refine hN _ _ ⟨rfl, _, _, ?_, rfl⟩
        rw [stT_right, Bool.not_eq_true', decide_eq_false_iff_not]
        exact ⟨fun z => ⟨fun y => z (by omega), by omega⟩, fun z y => z.1 (by omega)⟩
      · walk_at "g"
        refine hN _ _ ⟨rfl, _, _, ?_, rfl⟩
        rw [stT_right]
        exact ⟨fun z => (by cases z), fun z => absurd z.2 (fun y => c (by omega))⟩
    subst es
    subst eH
    refine w_seqJ (fun σ' H2 => H2 = H'' ∧ ∃ (b2 : Bool), (b2 = true ↔ stT s (i + 1) = "left") ∧ σ' = [some (.ref w), some (.ref q), some (.int (1 + (i : Int))), some (.bl b1), some (.bl b2)]) (fun N hN => ?_) (fun σ' H2 ⟨eH, b2, e2, es⟩ => ?_)
    · walk_at "g"
      refine w_ixL (SqL.of ob) (i := 2) (v := .ref r) rfl ?_
      walk_at "g"
      refine w_ixL (SqL.of hR') (at_I (by omega) (by omega)) ?_
      rw [show ((1 : Int) + (i : Int)).toNat = i + 1 by omega, eR (i + 1) (by omega)]
      walk_at "g"
      refine w_iteD (fun c => ?_) (fun c => ?_)
      · walk_at "g"
        refine w_ixL (SqL.of ob) (i := 1) (v := .ref l) rfl ?_
        walk_at "g"
        refine w_ixL (SqL.of hL') (at_I (by omega) (by omega)) ?_
        rw [show ((1 : Int) + (i : Int) + 1).toNat = i + 2 by omega, eL (i + 2) (by omega) (by omega)]
        walk_at "g"
        refine hN _ _ ⟨rfl, _, ?_, rfl⟩
        rw [stT_left, show i + 1 + 1 = i + 2 from rfl, Bool.not_eq_true', decide_eq_false_iff_not]
        exact ⟨fun z => ⟨by omega, fun y => z (by omega)⟩, fun z y => z.2 (by omega)⟩
      · walk_at "g"
        refine hN _ _ ⟨rfl, _, ?_, rfl⟩
        rw [stT_left]
        exact ⟨fun z => (by cases z), fun z => absurd z.1 (fun y => c (by omega))⟩
    subst es
    subst eH
    have sb : ∀ c, (b1 || b2) = c → soleB s (i + 1) = c := fun c e => by
      rw [← e, Bool.eq_iff_iff, sole_iff, Bool.or_eq_true, e1, e2, Nat.add_sub_cancel]
      exact Or.comm
    walk_at "g"
    refine w_iteB (fun c => ?_) (fun c => ?_)
    · walk_at "g"
      refine ⟨w_ty (SqL.of hq'), ?_⟩
      walk_at "g"
      refine w_apT hq' (sz_lt (by rw [List.length_map]; omega)) fun H3 k3 h3 => ?_
      walk_at "g"
      refine ⟨⟨_, _, _, rfl⟩, (k.all.trans k3).cut1 nq, ?_⟩
      rw [h3, snoc true (sb true (by rw [c]; rfl)), if_pos rfl, List.map_append] <;> rfl
    · walk_at "g"
      refine w_iteB (fun c2 => ?_) (fun c2 => ?_)
      · walk_at "g"
        refine ⟨w_ty (SqL.of hq'), ?_⟩
        walk_at "g"
        refine w_apT hq' (sz_lt (by rw [List.length_map]; omega)) fun H3 k3 h3 => ?_
        walk_at "g"
        refine ⟨⟨_, _, _, rfl⟩, (k.all.trans k3).cut1 nq, ?_⟩
        rw [h3, snoc true (sb true (by rw [c, c2]; rfl)), if_pos rfl, List.map_append] <;> rfl
      · walk_at "g"
        refine ⟨⟨_, _, _, rfl⟩, k, ?_⟩
        rw [hq', snoc false (sb false (by rw [c, c2]; rfl)), if_neg Bool.false_ne_true, List.append_nil]
  · rintro σ' H' ⟨⟨x2, x3, x4, rfl⟩, k, hq'⟩
    walk_at "g"
    exact g q H' nq k hq'
end
end G
set_option Elab.async false
set_option linter.all false
set_option maxRecDepth 100000
set_option maxHeartbeats 2000000
namespace G
--#FAM KW
open PySem PySem.Spec PyProof.Rows L2
local macro_rules
  | `(tactic| walk_at "1") => `(tactic| first
    | with_reducible refine w_seq ?_
    | with_reducible refine w_asg ?_
    | with_reducible refine w_asgS ?_
    | with_reducible refine w_asf ?_
    | with_reducible refine w_drop ?_
    | with_reducible refine w_ret ?_
    | with_reducible refine w_if ?_
    | with_reducible refine w_not ?_
    | with_reducible refine w_and ?_
    | with_reducible refine w_or ?_
    | with_reducible refine w_test ?_
    | with_reducible refine w_tb ?_
    | with_reducible refine w_chain ?_
    | with_reducible refine w_op ?_
    | with_reducible refine w_un ?_
    | with_reducible refine w_andV ?_
    | with_reducible refine w_orV ?_
    | with_reducible refine w_notV ?_
    | with_reducible refine w_ifE ?_
    | with_reducible refine w_cons ?_
    | with_reducible refine w_nil ?_
    | with_reducible refine w_cb ?_
    | with_reducible refine w_cl ?_
    | with_reducible refine w_mt ?_
    | with_reducible refine w_fld ?_
    | with_reducible refine w_tupN ?_
    | with_reducible refine w_lstN ?_
    | with_reducible refine w_bm ?_
    | with_reducible refine w_bm0 ?_
    | with_reducible refine w_for ?_
    | with_reducible refine w_lc ?_
    | with_reducible refine w_iR1 ?_
    | with_reducible refine w_iR2 ?_
    | with_reducible refine w_iL ?_
    | with_reducible refine w_iT ?_
    | with_reducible refine w_iE ?_
    | with_reducible refine w_iZ ?_
    | with_reducible refine w_var (by with_unfolding_all rfl) ?_
    | with_reducible refine w_c ?_
    | with_reducible refine w_next ?_
    | with_reducible refine w_i0 ?_
    | with_reducible refine w_u1 ?_
    | with_reducible refine w_addI ?_
    | with_reducible refine w_eqI ?_
    | with_reducible refine w_eqS ?_
    | with_reducible refine w_eqB ?_
    | with_reducible refine w_neI ?_
    | with_reducible refine w_neS ?_
    | with_reducible refine w_neB ?_
    | with_reducible refine w_abs ?_
    | with_reducible refine w_intI ?_
    | with_reducible refine w_min2 ?_
    | with_reducible refine w_max2 ?_
    | with_reducible refine w_isN0 ?_
    | with_reducible refine w_isN1 ref_ne ?_
    | with_reducible refine w_isN1 int_ne ?_
    | with_reducible refine w_notN0 ?_
    | with_reducible refine w_notN1 ref_ne ?_
    | with_reducible refine w_notN1 int_ne ?_
    | with_reducible refine w_ex1 ?_
    | with_reducible refine w_n1 ?_
    | with_reducible refine w_n2 ?_
    | with_reducible refine w_tT ?_
    | with_reducible refine w_tF ?_
    | with_reducible refine w_nT ?_
    | with_reducible refine w_nF ?_
    | with_reducible refine w_rz ?_
    | with_reducible refine w_mkN ?_
    | with_reducible refine w_lrgN ?_
    | with_reducible refine w_rg1 ?_
    | with_reducible refine w_rg2 ?_
    | with_reducible refine w_sl ?_
    | with_reducible refine w_np ?_
    | with_reducible refine w_pt ?_
    | with_reducible refine w_tr ?_
    | with_reducible refine w_gn ?_
    | with_reducible refine w_yes ?_
    | with_reducible refine w_m1 ?_
    | with_reducible refine w_asu ?_
    | with_reducible refine w_exS ?_
    | with_reducible refine w_iS ?_
    | with_reducible refine w_g1 ?_
    | with_reducible refine w_gc ?_
    | with_reducible refine w_gt (SqT.of upd_same) rfl ?_)
local macro_rules
  | `(tactic| walk_at "g") => `(tactic| repeat walk_at "1")
local macro_rules
  | `(tactic| walk_at "j1") => `(tactic| first
    | with_reducible refine w_seqI ?_
    | walk_at "1")
local macro_rules
  | `(tactic| walk_at "j") => `(tactic| repeat walk_at "j1")
section
variable {K : PySem.W.Frag} {mg : Str → Option Value}
theorem outN_s9 (O : List Bool) (i : Nat) : outN (i + 1) O = outN i O ++ (if gB O (i + 1) = true then [((i + 1 : Nat) : Int)] else []) := by
  unfold outN
  rw [List.range_succ, List.map_append, List.filter_append, List.map_append]
  congr 1
  show (([i + 1].filter fun v => gB O v).map fun (v : Nat) => (v : Int)) = _
  by_cases c : gB O (i + 1) = true
  · rw [List.filter_cons_of_pos (p := fun v => gB O v) c, if_pos c] <;> rfl
  · rw [List.filter_cons_of_neg (p := fun v => gB O v) c, if_neg c] <;> rfl
theorem len__law_dump (K : PySem.W.Frag) : ∀ vs H Q E, sp13__law_dump K vs H Q E → vs.length = (["book"] : List Str).length := by
  rintro vs H Q E ⟨_, _, _, _, _, rfl, _⟩
  rfl
theorem rd__law_dump (T : Txt K mg) (vs : List V) (H : Hp) (Q : VK) (E : XK) (h : sp13__law_dump K vs H Q E) : t__law_dump K E { nx := fun _ H' => Q .non H', rt := Q } (start ["book", "size", "first", "second", "outs", "third", "link", "node"] vs) H := by
  obtain ⟨w, l, r, o, s, rfl, a, g⟩ := h
  unfold t__law_dump
  obtain ⟨L', hL, lL, eL⟩ := a.hl
  obtain ⟨R', hR, lR, eR⟩ := a.hr
  have wf := a.wf
  have n60 := wf.n60
  have lO := wf.lO
  obtain ⟨R9, Rl⟩ := wf.R9
  obtain ⟨L9, Ll⟩ := wf.L9
  have o9 := outN_9 n60 s.O
  have ol := outN_len s.n s.O
  walk_at "g"
  refine w_ixL (SqL.of a.ob) at_0 ?_
  walk_at "g"
  refine w_ixL (SqL.of a.ob) (i := 2) (v := .ref r) rfl ?_
  walk_at "g"
  refine w_slL (SqL.of hR) fun q H1 nq k1 hq => ?_
  rw [show (s.n : Int) + 1 = ((s.n + 1 : Nat) : Int) by omega, cut_take _ _ (by rw [List.length_map]; omega), ← List.map_take, bk_R wf lR eR] at hq
  walk_at "g"
  refine w_l1 (SqL.of hq) ?_
  refine cp_lst (SqL.of hq) (fun j => (s.R.take j).map fun i => V.str (numI i)) (fun j hj => sz_lt (by rw [List.length_map, List.length_take]; omega)) rfl (fun j x H' S N hx k y _ => ?_) (fun D2 H2 nD2 k2 hD2 => ?_)
  · obtain ⟨v, hv, rfl⟩ := at_map hx
    have b := R9 v (List.mem_of_getElem? hv)
    walk_at "g"
    refine ⟨rfl, ?_⟩
    walk_at "g"
    refine w_str (log_ok b.1 b.2) ?_
    exact y _ _ (Kp.refl _ _) (map_snoc (f := fun i => V.str (numI i)) hv)
  rw [List.length_map, List.take_length] at hD2
  have e2 : (s.R.map fun i => V.str (numI i)) = (s.R.map numI).map V.str := by rw [List.map_map] <;> rfl
  rw [e2] at hD2
  refine w_joinL (SqL.of hD2) (join_cost R9 (by omega)) ?_
  have k12 := k1.trans k2
  walk_at "g"
  refine w_ixL (SqL.of (k12.at0 a.ob)) (i := 1) (v := .ref l) rfl ?_
  walk_at "g"
  refine w_slL (SqL.of (k12.at0 hL)) fun q3 H3 nq3 k3 hq3 => ?_
  have ec : cutV (L'.map V.int) (some 1) none = (L'.map V.int).drop 1 := cut_drop _ 1 (by rw [List.length_map]; omega)
  rw [ec, ← List.map_drop, bk_L wf lL eL] at hq3
  walk_at "g"
  refine w_l1 (SqL.of hq3) ?_
  refine cp_lst (SqL.of hq3) (fun j => ((s.L.drop 1).take j).map fun i => V.str (numI i)) (fun j hj => sz_lt (by rw [List.length_map, List.length_take]; omega)) rfl (fun j x H' S N hx k y _ => ?_) (fun D4 H4 nD4 k4 hD4 => ?_)
  · obtain ⟨v, hv, rfl⟩ := at_map hx
    have b := L9 v (List.mem_of_getElem? hv)
    walk_at "g"
    refine ⟨rfl, ?_⟩
    walk_at "g"
    refine w_str (log_ok b.1 b.2) ?_
    exact y _ _ (Kp.refl _ _) (map_snoc (f := fun i => V.str (numI i)) hv)
  rw [List.length_map, List.take_length] at hD4
  have e4 : ((s.L.drop 1).map fun i => V.str (numI i)) = ((s.L.drop 1).map numI).map V.str := by rw [List.map_map] <;> rfl
  rw [e4] at hD4
  refine w_joinL (SqL.of hD4) (join_cost L9 (by omega)) ?_
  have k14 := k12.trans (k3.trans k4)
  have a4 := a.k0 k14
  walk_at "g"
  refine w_r2 (by omega) ?_
  rw [show ((s.n : Int) + 1 - 1).toNat = s.n by omega]
  refine cp_rng (fun i => (outN i s.O).map fun i => V.str (numI i)) (fun i hi => sz_lt (by
    rw [List.length_map]
    have := outN_len i s.O
    omega)) rfl (fun i H' S N hi k y no => ?_) (fun D5 H5 nD5 k5 hD5 => ?_)
  · walk_at "g"
    refine ⟨rfl, ?_⟩
    walk_at "g"
    refine w_ixL (SqL.of (k.at0 a4.ob)) (i := 3) (v := .ref o) rfl ?_
    walk_at "g"
    refine w_ixL (SqL.of (k.at0 a4.ho)) (at_B (by omega) (by omega)) ?_
    rw [show ((1 : Int) + (i : Int)).toNat = i + 1 by omega]
    walk_at "g"
    refine w_iteB (fun c1 => ?_) (fun c1 => ?_)
    · walk_at "g"
      refine w_str (log_ok (by omega) (by omega)) ?_
      refine y _ _ (Kp.refl _ _) ?_
      rw [outN_s9, if_pos c1, List.map_append, show (1 : Int) + (i : Int) = ((i + 1 : Nat) : Int) by omega] <;> rfl
    · refine no _ (Kp.refl _ _) ?_
      rw [outN_s9, if_neg (by rw [c1]; exact Bool.false_ne_true), List.append_nil]
  have e5 : ((outN s.n s.O).map fun i => V.str (numI i)) = ((outN s.n s.O).map numI).map V.str := by rw [List.map_map] <;> rfl
  rw [e5] at hD5
  have k15 := k14.trans k5
  have lr := joinI_len R9
  have ll := joinI_len L9
  have lo := outsT_len o9
  have lb : (" | " : Str).length = 3 := by decide +kernel
  have la : ∀ a b : Str, (a ++ b).length = a.length + b.length := fun a b => by
    rw [TL.len_tl, TL.tl_append, List.length_append, ← TL.len_tl, ← TL.len_tl]
  have nn : ∀ i ∈ outN s.n s.O, 0 ≤ i := fun i hi => (o9 i hi).1
  walk_at "j"
  refine w_ifJ (fun σ' H' => σ' = [some (.ref w), some (.int (s.n : Int)), some (.str (joinI s.R)), some (.str (joinI (s.L.drop 1))), some (.ref D5), some (.str (outsT (outN s.n s.O))), none, none] ∧ H' = H5) (fun N hN => ?_) ?_
  · walk_at "g"
    refine w_truL (SqL.of hD5) ?_
    have ei : ((outN s.n s.O).map numI |>.map V.str).isEmpty = decide (outN s.n s.O = []) := by
      cases outN s.n s.O <;> rfl
    rw [ei]
    refine w_iteN (fun c => ?_) (fun c => ?_)
    · walk_at "g"
      refine w_joinL (SqL.of hD5) (join_cost o9 (by omega)) ?_
      walk_at "g"
      refine hN _ _ ⟨?_, rfl⟩
      unfold outsT
      rw [if_neg c]
      rfl
    · walk_at "g"
      refine hN _ _ ⟨?_, rfl⟩
      unfold outsT
      rw [if_pos c]
      rfl
  rintro σ' H6 ⟨rfl, rfl⟩
  walk_at "g"
  refine w_addS (sz_ok (by show (joinI s.R).length + _ ≤ _; omega)) ?_
  walk_at "g"
  refine w_addS (sz_ok (by show ((joinI s.R) ++ _).length + (joinI (s.L.drop 1)).length ≤ _; rw [la]; omega)) ?_
  walk_at "g"
  refine w_addS (sz_ok (by show ((joinI s.R) ++ _ ++ (joinI (s.L.drop 1))).length + _ ≤ _; rw [la, la]; omega)) ?_
  walk_at "g"
  refine w_addS (sz_ok (by show ((joinI s.R) ++ _ ++ (joinI (s.L.drop 1)) ++ _).length + (outsT (outN s.n s.O)).length ≤ _; rw [la, la, la]; omega)) ?_
  have fin := str_glue9 (joinI s.R) (joinI (s.L.drop 1)) (outsT (outN s.n s.O))
  have gg := g _ k15
  unfold dumpS at gg
  rw [← fin] at gg
  exact gg
theorem len__law_sound (K : PySem.W.Frag) : ∀ vs H Q E, sp13__law_sound K vs H Q E → vs.length = (["book"] : List Str).length := by
  rintro vs H Q E ⟨_, _, _, _, _, rfl, _⟩
  rfl
theorem rd__law_sound (T : Txt K mg) (vs : List V) (H : Hp) (Q : VK) (E : XK) (h : sp13__law_sound K vs H Q E) : t__law_sound K E { nx := fun _ H' => Q .non H', rt := Q } (start ["book", "last", "node"] vs) H := by
  obtain ⟨w, l, r, o, s, rfl, a, d, g⟩ := h
  unfold t__law_sound
  have wf := a.wf
  have n60 := wf.n60
  have lO := wf.lO
  obtain ⟨L', hL, lL, eL⟩ := a.hl
  obtain ⟨R', hR, lR, eR⟩ := a.hr
  have e0 : sndB s.n s.R s.L s.O = chk s.R s.L ((0 : Nat) : Int) (presF s.n s.O 0) := rfl
  rw [e0] at g
  walk_at "g"
  refine w_ixL (SqL.of a.ob) at_0 ?_
  walk_at "g"
  refine w_r2 (by omega) ?_
  rw [show ((s.n : Int) + 2 - 1).toNat = s.n + 1 by omega]
  refine lp_rng (fun i σ H' => ∃ (la : Nat) (x2 : Option V), σ = [some (.ref w), some (.int (la : Int)), x2] ∧ H' = H ∧ la ≤ i ∧ la ≤ s.n + 1 ∧ chk s.R s.L (la : Int) (presF s.n s.O i) = chk s.R s.L ((0 : Nat) : Int) (presF s.n s.O 0)) ⟨0, _, rfl, rfl, Nat.zero_le _, Nat.zero_le _, rfl⟩ ?_ ?_
  · rintro i σ' H' hi ⟨la, x2, rfl, eH, l1, l2, ec⟩
    subst eH
    rw [presF_step (by omega)] at ec
    walk_at "g"
    refine w_ixL (SqL.of a.ob) (i := 3) (v := .ref o) rfl ?_
    walk_at "g"
    refine w_ixL (SqL.of a.ho) (at_B (by omega) (by omega)) ?_
    rw [show ((1 : Int) + (i : Int)).toNat = i + 1 by omega]
    walk_at "g"
    refine w_iteBN (fun c => ?_) (fun c => ?_)
    · rw [if_neg (by rw [c]; exact Bool.false_ne_true)] at ec
      have ec : ((decide (gI s.R (la : Int).toNat = ((i + 1 : Nat) : Int)) && decide (gI s.L (((i + 1 : Nat) : Int)).toNat = (la : Int))) && chk s.R s.L ((i + 1 : Nat) : Int) (presF s.n s.O (i + 1))) = _ := ec
      rw [Int.toNat_natCast, Int.toNat_natCast] at ec
      walk_at "g"
      refine w_ixL (SqL.of a.ob) (i := 2) (v := .ref r) rfl ?_
      walk_at "g"
      refine w_ixL (SqL.of hR) (at_I (by omega) (by omega)) ?_
      rw [Int.toNat_natCast, eR la (by omega)]
      walk_at "g"
      refine w_iteN (fun c1 => ?_) (fun c1 => ?_)
      · rw [decide_eq_false (by omega), Bool.false_and, Bool.false_and] at ec
        rw [← ec] at g
        walk_at "g"
        exact g
      · rw [decide_eq_true (by omega), Bool.true_and] at ec
        walk_at "g"
        refine w_ixL (SqL.of a.ob) (i := 1) (v := .ref l) rfl ?_
        walk_at "g"
        refine w_ixL (SqL.of hL) (at_I (by omega) (by omega)) ?_
        rw [show ((1 : Int) + (i : Int)).toNat = i + 1 by omega, eL (i + 1) (by omega) (by omega)]
        walk_at "g"
        refine w_iteN (fun c2 => ?_) (fun c2 => ?_)
        · rw [decide_eq_false c2, Bool.false_and] at ec
          rw [← ec] at g
          walk_at "g"
          exact g
        · rw [decide_eq_true c2, Bool.true_and] at ec
          walk_at "g"
          exact ⟨i + 1, _, by rw [show (1 : Int) + (i : Int) = ((i + 1 : Nat) : Int) by omega]; rfl, rfl, Nat.le_refl _, by omega, ec⟩
    · rw [if_pos c, List.nil_append] at ec
      walk_at "g"
      exact ⟨la, _, rfl, rfl, by omega, l2, ec⟩
  · rintro σ' H' ⟨la, x2, rfl, eH, l1, l2, ec⟩
    subst eH
    rw [presF_end] at ec
    have ec : true = _ := ec
    rw [← ec] at g
    walk_at "g"
    exact g
theorem len__law_harmed (K : PySem.W.Frag) : ∀ vs H Q E, sp13__law_harmed K vs H Q E → vs.length = (["book", "word"] : List Str).length := by
  rintro vs H Q E ⟨_, _, _, _, _, _, rfl, _⟩
  rfl
theorem rd__law_harmed (T : Txt K mg) (vs : List V) (H : Hp) (Q : VK) (E : XK) (h : sp13__law_harmed K vs H Q E) : t__law_harmed K E { nx := fun _ H' => Q .non H', rt := Q } (start ["book", "word", "node"] vs) H := by
  obtain ⟨w, l, r, o, s, c, rfl, c3, a, d, g⟩ := h
  unfold t__law_harmed
  have wf := a.wf
  have n60 := wf.n60
  have lO := wf.lO
  have lal := alone_len s
  have lll : (lostL s).length ≤ s.n + 1 := by
    unfold lostL
    refine Nat.le_trans (List.length_filter_le _ _) ?_
    rw [List.length_range]
    exact Nat.le_refl _
  walk_at "g"
  refine w_iteD (fun e => ?_) (fun e0 => ?_)
  · have : c = 0 := mdN_inj (d := 0) c3 (by omega) e
    subst this
    walk_at "g"
    exact g H (Kp.refl _ _)
  walk_at "g"
  refine w_iteD (fun e => ?_) (fun e1 => ?_)
  · have : c = 3 := mdN_inj (d := 3) c3 (by omega) e
    subst this
    walk_at "g"
    refine ⟨w, l, r, o, s, rfl, a, d, ?_⟩
    walk_at "g"
    exact g H (Kp.refl _ _)
  have c12 : c = 1 ∨ c = 2 := by
    match c, c3 with
    | 0, _ => exact absurd rfl e0
    | 1, _ => exact .inl rfl
    | 2, _ => exact .inr rfl
    | 3, _ => exact absurd rfl e1
  walk_at "g"
  refine ⟨w, l, r, o, s, rfl, a, fun q H1 nq k1 hq => ?_⟩
  walk_at "g"
  refine w_truL (SqL.of hq) ?_
  have ei : ((((lostL s).map fun (v : Nat) => (v : Int)).map V.int).isEmpty) = (lostL s).isEmpty := by cases lostL s <;> rfl
  rw [ei]
  cases el : (lostL s).isEmpty with
  | false =>
    have hb : harmB c s = true := by
      rcases c12 with rfl | rfl
      · show (!(lostL s).isEmpty) = true; rw [el]; rfl
      · show (!finB s) = true; unfold finB; rw [el]; rfl
    rw [hb] at g
    refine w_nT ?_
    walk_at "g"
    exact g H1 k1
  | true =>
    refine w_nF ?_
    walk_at "g"
    refine w_iteD (fun e2 => ?_) (fun e2 => ?_)
    · have : c = 2 := mdN_inj (d := 2) c3 (by omega) e2
      subst this
      have hb : harmB 2 s = !((aloneL s).all fun v => gB s.O v.toNat) := by
        show (!finB s) = _
        unfold finB
        rw [el, Bool.true_and]
      rw [hb] at g
      walk_at "g"
      refine ⟨w, l, r, o, s, rfl, a.k0 k1, fun q2 H2 nq2 k2 hq2 => ?_⟩
      have a2 := (a.k0 k1).k0 k2
      walk_at "g"
      refine w_l1 (SqL.of hq2) ?_
      refine cp_lst (SqL.of hq2) (fun i => (((aloneL s).take i).filter fun v => !gB s.O v.toNat).map V.int) (fun i hi => sz_lt (by
        rw [List.length_map]
        have := List.length_filter_le (fun v : Int => !gB s.O v.toNat) ((aloneL s).take i)
        rw [List.length_take] at this
        omega)) rfl (fun i x H' S N hx k y no => ?_) (fun q3 H3 nq3 k3 hq3 => ?_)
      · obtain ⟨v, hv, rfl⟩ := at_map hx
        obtain ⟨v1, v2, _⟩ := mem_alone.mp (List.mem_of_getElem? hv)
        walk_at "g"
        refine ⟨rfl, ?_⟩
        walk_at "g"
        refine w_ixL (SqL.of (k.at0 a2.ob)) (i := 3) (v := .ref o) rfl ?_
        walk_at "g"
        refine w_ixL (SqL.of (k.at0 a2.ho)) (at_B (by omega) (by omega)) ?_
        walk_at "g"
        refine w_iteBN (fun c1 => ?_) (fun c1 => ?_)
        · walk_at "g"
          refine y _ _ (Kp.refl _ _) ?_
          rw [take_snoc hv, List.filter_append, List.map_append, List.filter_cons_of_pos (p := fun v : Int => !gB s.O v.toNat) (by rw [c1]; rfl)] <;> rfl
        · refine no _ (Kp.refl _ _) ?_
          rw [take_snoc hv, List.filter_append, List.map_append, List.filter_cons_of_neg (p := fun v : Int => !gB s.O v.toNat) (by rw [c1]; exact Bool.false_ne_true)]
          exact List.append_nil _
      rw [List.length_map, List.take_length] at hq3
      walk_at "g"
      refine ⟨sz_ok (Nat.zero_le _), G.nw fun e9 H4 ne k4 he => ?_⟩
      have he : H4 e9 = some (.lst (([] : List Int).map V.int)) := he
      refine w_neLZ (k4.at0 hq3) he ?_
      have ef : (!decide ((aloneL s).filter (fun v => !gB s.O v.toNat) = [])) = !((aloneL s).all fun v => gB s.O v.toNat) := by
        congr 1
        rw [Bool.eq_iff_iff, decide_eq_true_iff, List.filter_eq_nil_iff, List.all_eq_true]
        exact ⟨fun z x hx => by have := z x hx; simpa using this, fun z x hx => by rw [z x hx]; exact Bool.false_ne_true⟩
      rw [ef]
      exact g H4 ((k1.trans k2).trans (k3.trans k4))
    · have : c = 1 := by
        rcases c12 with z | z
        · exact z
        · exact absurd (by rw [z]; rfl) e2
      subst this
      have hb : harmB 1 s = false := by show (!(lostL s).isEmpty) = false; rw [el]; rfl
      rw [hb] at g
      exact g H1 k1
theorem len__law_good (K : PySem.W.Frag) : ∀ vs H Q E, sp13__law_good K vs H Q E → vs.length = (["book", "word", "nodes"] : List Str).length := by
  rintro vs H Q E ⟨_, _, _, _, _, _, _, _, rfl, _⟩
  rfl
theorem rd__law_good (T : Txt K mg) (vs : List V) (H : Hp) (Q : VK) (E : XK) (h : sp13__law_good K vs H Q E) : t__law_good K E { nx := fun _ H' => Q .non H', rt := Q } (start ["book", "word", "nodes", "node"] vs) H := by
  obtain ⟨w, l, r, o, q, s, c, ns, rfl, c3, a, d, hq, hl, hb, g⟩ := h
  unfold t__law_good
  have n60 := a.wf.n60
  walk_at "g"
  refine w_l1 (SqL.of hq) ?_
  refine cp_lst (SqL.of hq) (fun i => ((ns.take i).filter fun v => !harmB c (stepS s (legO s v.toNat))).map V.int) (fun i hi => sz_lt (by
    rw [List.length_map]
    have := List.length_filter_le (fun v : Int => !harmB c (stepS s (legO s v.toNat))) (ns.take i)
    rw [List.length_take] at this
    omega)) rfl (fun i x H' S N hx k y no => ?_) (fun q3 H3 nq3 k3 hq3 => ?_)
  · obtain ⟨v, hv, rfl⟩ := at_map hx
    obtain ⟨v1, v2⟩ := hb v (List.mem_of_getElem? hv)
    obtain ⟨u, rfl⟩ : ∃ u : Nat, v = (u : Int) := ⟨v.toNat, by omega⟩
    have io := (legO_ok' (s := s) (v := u) (by omega) (by omega)).1.1
    walk_at "g"
    refine ⟨rfl, ?_⟩
    walk_at "g"
    refine ⟨w, l, r, o, s, u, rfl, a.k0 k, by omega, by omega, fun w2 l2 r2 o2 H4 _ _ _ _ k4 a4 => ?_⟩
    walk_at "g"
    refine ⟨w2, l2, r2, o2, _, c, rfl, c3, a4, stepS_snd a.wf d io, fun H5 k5 => ?_⟩
    walk_at "g"
    refine w_iteBN (fun c1 => ?_) (fun c1 => ?_)
    · walk_at "g"
      refine y _ _ (k4.trans k5) ?_
      rw [take_snoc hv, List.filter_append, List.map_append, List.filter_cons_of_pos (p := fun v : Int => !harmB c (stepS s (legO s v.toNat))) (by rw [Int.toNat_natCast, c1]; rfl)] <;> rfl
    · refine no _ (k4.trans k5) ?_
      rw [take_snoc hv, List.filter_append, List.map_append, List.filter_cons_of_neg (p := fun v : Int => !harmB c (stepS s (legO s v.toNat))) (by rw [Int.toNat_natCast, c1]; exact Bool.false_ne_true)]
      exact List.append_nil _
  rw [List.length_map, List.take_length] at hq3
  exact g q3 H3 nq3 k3 hq3
theorem len__law_judged (K : PySem.W.Frag) : ∀ vs H Q E, sp13__law_judged K vs H Q E → vs.length = (["book", "held"] : List Str).length := by
  rintro vs H Q E ⟨_, _, _, _, _, _, _, _, _, rfl, _⟩
  rfl
theorem rd__law_judged (T : Txt K mg) (vs : List V) (H : Hp) (Q : VK) (E : XK) (h : sp13__law_judged K vs H Q E) : t__law_judged K E { nx := fun _ H' => Q .non H', rt := Q } (start ["book", "held", "whole"] vs) H := by
  obtain ⟨w, l, r, o, p, pr, pl, po, s, rfl, a, la, d, g⟩ := h
  unfold t__law_judged
  have wf := a.wf
  have n60 := wf.n60
  have lal := alone_len s
  have lll : (lostL s).length ≤ s.n + 1 := by
    unfold lostL
    refine Nat.le_trans (List.length_filter_le _ _) ?_
    rw [List.length_range]
    exact Nat.le_refl _
  have en : (wholeS s.n).n = s.n := rfl
  walk_at "g"
  refine ⟨p, pr, pl, po, s, rfl, la, fun q1 H1 nq1 k1 hq1 => ?_⟩
  have e1 : ((lostL s).map fun (v : Nat) => V.int (v : Int)) = ((lostL s).map fun (v : Nat) => (v : Int)).map V.int := by rw [List.map_map]; rfl
  rw [e1] at hq1
  walk_at "g"
  refine ⟨w, l, r, o, s, rfl, a.k0 k1, fun q2 H2 nq2 k2 hq2 => ?_⟩
  walk_at "g"
  refine ⟨q1, q2, _, rfl, by rw [List.length_map]; omega, k2.at0 hq1, hq2, ?_⟩
  have k12 := k1.trans k2
  walk_at "g"
  refine ⟨p, pr, pl, po, s, rfl, la.k0 k12, fun q3 H3 nq3 k3 hq3 => ?_⟩
  have k13 := k12.trans k3
  walk_at "g"
  refine ⟨w, l, r, o, s, rfl, a.k0 k13, fun q4 H4 nq4 k4 hq4 => ?_⟩
  walk_at "g"
  refine ⟨q3, q4, _, rfl, by omega, k4.at0 hq3, hq4, ?_⟩
  have k14 := k13.trans k4
  have la4 := la.k0 k14
  walk_at "g"
  refine w_me la4 no_m ?_
  walk_at "g"
  refine ⟨p, pr, pl, po, s, rfl, la4, d, fun H5 k5 => ?_⟩
  have k15 := k14.trans k5
  walk_at "g"
  refine ⟨w, l, r, o, s, rfl, a.k0 k15, d, ?_⟩
  walk_at "g"
  refine ⟨_, rfl, ?_⟩
  walk_at "g"
  refine ⟨w, l, r, o, s, rfl, a.k0 k15, fun H6 k6 => ?_⟩
  have k16 := k15.trans k6
  walk_at "g"
  refine w_ixL (SqL.of (a.k0 k16).ob) at_0 ?_
  walk_at "g"
  refine ⟨s.n, rfl, n60, fun w7 l7 r7 o7 H7 _ _ _ _ k7 a7 => ?_⟩
  walk_at "g"
  refine ⟨w7, l7, r7, o7, _, rfl, a7, fun H8 k8 => ?_⟩
  have k18 := k16.trans (k7.trans k8)
  have la8 := la.k0 k18
  walk_at "g"
  rw [dump_whole wf d]
  refine w_me la8 no_m ?_
  walk_at "g"
  refine ⟨p, pr, pl, po, s, rfl, la8, fun H9 k9 => ?_⟩
  have ew : (decide (s.R = (wholeS s.n).R) && (decide (s.L = (wholeS s.n).L) && decide (s.O = (wholeS s.n).O))) = wholeB s := rfl
  rw [ew]
  walk_at "g"
  refine ⟨_, rfl, ?_⟩
  have k19 := k18.trans k9
  have la9 := la.k0 k19
  walk_at "g"
  refine w_me la9 no_m ?_
  walk_at "g"
  refine ⟨p, pr, pl, po, s, rfl, la9, fun HA kA => ?_⟩
  have k1A := k19.trans kA
  walk_at "g"
  refine ⟨w, l, r, o, s, rfl, a.k0 k1A, fun HB kB => ?_⟩
  walk_at "g"
  rw [decide_eq_true rfl]
  exact g HB (k1A.trans kB)
end
end G
set_option Elab.async false
set_option linter.all false
set_option maxRecDepth 100000
set_option maxHeartbeats 2000000
namespace G
--#FAM KW
open PySem PySem.Spec PyProof.Rows L2
local macro_rules
  | `(tactic| walk_at "1") => `(tactic| first
    | with_reducible refine w_seq ?_
    | with_reducible refine w_asg ?_
    | with_reducible refine w_asgS ?_
    | with_reducible refine w_asf ?_
    | with_reducible refine w_drop ?_
    | with_reducible refine w_ret ?_
    | with_reducible refine w_if ?_
    | with_reducible refine w_not ?_
    | with_reducible refine w_and ?_
    | with_reducible refine w_or ?_
    | with_reducible refine w_test ?_
    | with_reducible refine w_tb ?_
    | with_reducible refine w_chain ?_
    | with_reducible refine w_op ?_
    | with_reducible refine w_un ?_
    | with_reducible refine w_andV ?_
    | with_reducible refine w_orV ?_
    | with_reducible refine w_notV ?_
    | with_reducible refine w_ifE ?_
    | with_reducible refine w_cons ?_
    | with_reducible refine w_nil ?_
    | with_reducible refine w_cb ?_
    | with_reducible refine w_cl ?_
    | with_reducible refine w_mt ?_
    | with_reducible refine w_fld ?_
    | with_reducible refine w_tupN ?_
    | with_reducible refine w_lstN ?_
    | with_reducible refine w_bm ?_
    | with_reducible refine w_bm0 ?_
    | with_reducible refine w_for ?_
    | with_reducible refine w_lc ?_
    | with_reducible refine w_iR1 ?_
    | with_reducible refine w_iR2 ?_
    | with_reducible refine w_iL ?_
    | with_reducible refine w_iT ?_
    | with_reducible refine w_iE ?_
    | with_reducible refine w_iZ ?_
    | with_reducible refine w_var (by with_unfolding_all rfl) ?_
    | with_reducible refine w_c ?_
    | with_reducible refine w_next ?_
    | with_reducible refine w_i0 ?_
    | with_reducible refine w_u1 ?_
    | with_reducible refine w_addI ?_
    | with_reducible refine w_eqI ?_
    | with_reducible refine w_eqS ?_
    | with_reducible refine w_eqB ?_
    | with_reducible refine w_neI ?_
    | with_reducible refine w_neS ?_
    | with_reducible refine w_neB ?_
    | with_reducible refine w_abs ?_
    | with_reducible refine w_intI ?_
    | with_reducible refine w_min2 ?_
    | with_reducible refine w_max2 ?_
    | with_reducible refine w_isN0 ?_
    | with_reducible refine w_isN1 ref_ne ?_
    | with_reducible refine w_isN1 int_ne ?_
    | with_reducible refine w_notN0 ?_
    | with_reducible refine w_notN1 ref_ne ?_
    | with_reducible refine w_notN1 int_ne ?_
    | with_reducible refine w_ex1 ?_
    | with_reducible refine w_n1 ?_
    | with_reducible refine w_n2 ?_
    | with_reducible refine w_tT ?_
    | with_reducible refine w_tF ?_
    | with_reducible refine w_nT ?_
    | with_reducible refine w_nF ?_
    | with_reducible refine w_rz ?_
    | with_reducible refine w_mkN ?_
    | with_reducible refine w_lrgN ?_
    | with_reducible refine w_rg1 ?_
    | with_reducible refine w_rg2 ?_
    | with_reducible refine w_sl ?_
    | with_reducible refine w_np ?_
    | with_reducible refine w_pt ?_
    | with_reducible refine w_tr ?_
    | with_reducible refine w_gn ?_
    | with_reducible refine w_yes ?_
    | with_reducible refine w_m1 ?_
    | with_reducible refine w_asu ?_
    | with_reducible refine w_exS ?_
    | with_reducible refine w_iS ?_
    | with_reducible refine w_g1 ?_
    | with_reducible refine w_gc ?_
    | with_reducible refine w_gt (SqT.of upd_same) rfl ?_)
local macro_rules
  | `(tactic| walk_at "g") => `(tactic| repeat walk_at "1")
local macro_rules
  | `(tactic| walk_at "j1") => `(tactic| first
    | with_reducible refine w_seqI ?_
    | walk_at "1")
local macro_rules
  | `(tactic| walk_at "j") => `(tactic| repeat walk_at "j1")
section
variable {K : PySem.W.Frag} {mg : Str → Option Value}
theorem mem_good {c : Nat} (c3 : c ≤ 3) {s : Sd} (w : Wf s) (d : Snd s) (ri : RI c s) {ns : List Int} {v : Nat} (hv : (v : Int) ∈ ns) (h1 : 1 ≤ v) (h2 : v ≤ s.n) : (v : Int) ∈ goodL c s ns ↔ refS c s (legO s v) = "" := by
  unfold goodL
  rw [List.mem_filter, Int.toNat_natCast, mode_step c3 w d ri (legO_ok' h1 h2).1]
  cases harmB c (stepS s (legO s v)) <;> simp [hv]
theorem adm_good {c : Nat} (c3 : c ≤ 3) {s : Sd} (w : Wf s) (d : Snd s) (ri : RI c s) : (goodL c s ((List.range s.n).map fun (i : Nat) => ((i + 1 : Nat) : Int))).map (fun v => legO s v.toNat) = admL c s := by
  unfold goodL admL
  rw [List.filter_map, List.filter_map, List.map_map]
  have e : (fun v : Int => legO s v.toNat) ∘ (fun (i : Nat) => ((i + 1 : Nat) : Int)) = fun (v : Nat) => legO s (v + 1) := by
    funext i
    show legO s (((i + 1 : Nat) : Int)).toNat = _
    rw [Int.toNat_natCast]
  rw [e]
  congr 1
  refine List.filter_congr fun u hu => ?_
  have hu := List.mem_range.mp hu
  show (!harmB c (stepS s (legO s (((u + 1 : Nat) : Int)).toNat))) = decide (refS c s (legO s (u + 1)) = "")
  rw [Int.toNat_natCast, Bool.eq_iff_iff, decide_eq_true_iff, mode_step c3 w d ri (legO_ok' (s := s) (v := u + 1) (by omega) (by omega)).1]
  cases harmB c (stepS s (legO s (u + 1))) <;> simp
theorem good_len (c : Nat) (s : Sd) (ns : List Int) : (goodL c s ns).length ≤ ns.length := List.length_filter_le _ _
theorem w_admittedC {H : Hp} {Q : VK} {E : XK} {p r l o : Addr} {s : Sd} {c : Nat} (c3 : c ≤ 3) (la : LinksAt K H p r l o s) (g : NewL H ((admL c s).map V.int) Q) : sp_admitted K [.ref p, .str (mdN c)] H Q E :=
  ⟨p, r, l, o, s, mdN c, rfl, la, fun c' c3' em => by
    obtain rfl : c = c' := mdN_inj c3 c3' em
    exact g, fun nm => absurd rfl (nm c c3)⟩
theorem len__law_moment (K : PySem.W.Frag) : ∀ vs H Q E, sp13__law_moment K vs H Q E → vs.length = (["book", "held", "word", "nodes"] : List Str).length := by
  rintro vs H Q E ⟨_, _, _, _, _, _, _, _, _, _, _, _, rfl, _⟩
  rfl
theorem rd__law_moment (T : Txt K mg) (vs : List V) (H : Hp) (Q : VK) (E : XK) (h : sp13__law_moment K vs H Q E) : t__law_moment K E { nx := fun _ H' => Q .non H', rt := Q } (start ["book", "held", "word", "nodes", "good", "node"] vs) H := by
  obtain ⟨w, l, r, o, p, pr, pl, po, a, s, c, ns, rfl, c3, bk, la, d, ri, ha, hl, hb, all, g⟩ := h
  unfold t__law_moment
  have wf := bk.wf
  have n60 := wf.n60
  have gl := good_len c s ns
  walk_at "g"
  refine ⟨w, l, r, o, a, s, c, ns, rfl, c3, bk, d, ha, hl, hb, fun q H1 nq k1 hq => ?_⟩
  have ha1 := k1.at0 ha
  walk_at "g"
  refine w_l1 (SqL.of ha1) ?_
  refine lp_lst (xs := ns.map V.int) (fun i σ H' => (∃ u, σ = [some (.ref w), some (.ref p), some (.str (mdN c)), some (.ref a), some (.ref q), u]) ∧ Kp [] H1 H') ⟨⟨_, rfl⟩, Kp.refl _ _⟩ ?_ ?_ ?_
  · rintro i σ' H' hi ⟨_, k⟩
    exact SqL.of (k.at0 ha1)
  · rintro i x σ' H' hx ⟨⟨u, rfl⟩, k⟩
    obtain ⟨vv, hv, rfl⟩ := at_map hx
    have hm := List.mem_of_getElem? hv
    obtain ⟨v1, v2⟩ := hb vv hm
    obtain ⟨v, rfl⟩ : ∃ v : Nat, vv = (v : Int) := ⟨vv.toNat, by omega⟩
    have k01 := k1.trans k
    have mg := mem_good c3 wf d ri hm (by omega) (by omega)
    walk_at "g"
    refine w_clK ?_
    walk_at "g"
    refine ⟨w, l, r, o, s, v, rfl, bk.k0 k01, by omega, ?_⟩
    walk_at "g"
    refine ⟨rfl, rfl, w_admits c c3 rfl (la.k0 k01) (legO_ok' (by omega) (by omega)).1 fun H2 k2 => ?_⟩
    walk_at "g"
    refine w_inZ (k2.at0 (k.at0 hq)) ?_
    walk_at "g"
    refine ⟨_, by rw [if_neg Bool.false_ne_true, decide_eq_decide.mpr mg], ?_⟩
    walk_at "g"
    exact ⟨⟨_, rfl⟩, k.trans k2⟩
  · rintro σ' H' ⟨⟨u, rfl⟩, k⟩
    have k01 := k1.trans k
    walk_at "g"
    refine w_ixL (SqL.of (bk.k0 k01).ob) at_0 ?_
    walk_at "g"
    refine w_iteD (fun c1 => ?_) (fun c1 => ?_)
    · walk_at "g"
      exact g H' k01
    · walk_at "g"
      refine w_clK ?_
      walk_at "g"
      refine ⟨rfl, rfl, w_admittedC c3 (la.k0 k01) fun q2 H2 nq2 k2 hq2 => ?_⟩
      have bk2 := (bk.k0 k01).k0 k2
      have hqq := k2.at0 (k.at0 hq)
      walk_at "g"
      refine w_l1 (SqL.of hqq) ?_
      refine cp_lst (SqL.of hqq) (fun i => (((goodL c s ns).take i).map fun v => legO s v.toNat).map V.int) (fun i hi => sz_lt (by rw [List.length_map, List.length_map, List.length_take]; omega)) rfl (fun i x H'' S N hx kk y no => ?_) (fun q3 H3 nq3 k3 hq3 => ?_)
      · obtain ⟨vv, hv, rfl⟩ := at_map hx
        obtain ⟨v1, v2⟩ := hb vv (List.mem_filter.mp (List.mem_of_getElem? hv)).1
        obtain ⟨v, rfl⟩ : ∃ v : Nat, vv = (v : Int) := ⟨vv.toNat, by omega⟩
        walk_at "g"
        refine ⟨rfl, ?_⟩
        walk_at "g"
        refine ⟨w, l, r, o, s, v, rfl, bk2.k0 kk, by omega, ?_⟩
        refine y _ _ (Kp.refl _ _) ?_
        rw [take_snoc hv, List.map_append, List.map_append] <;> rfl
      rw [List.length_map, List.take_length, all (by omega), adm_good c3 wf d ri] at hq3
      have la' : (admL c s).length ≤ 60 := by
        unfold admL
        refine Nat.le_trans (List.length_filter_le _ _) ?_
        rw [List.length_map, List.length_range]
        exact n60
      walk_at "g"
      refine ⟨q2, q3, _, rfl, by omega, k3.at0 hq2, hq3, ?_⟩
      exact g H3 ((k01.trans k2).trans k3)
theorem nodup_outs (n : Nat) (O : List Bool) : (outN n O).Nodup := by
  unfold outN
  refine List.Pairwise.map _ (R := fun a b : Nat => a ≠ b) (fun a b h z => h (by omega)) ?_
  refine List.Pairwise.filter _ ?_
  refine List.Pairwise.map _ (R := fun a b : Nat => a ≠ b) (fun a b h z => h (by omega)) ?_
  exact List.nodup_range
theorem erase_out {l : List Int} (h : l.Nodup) {i : Nat} {v : Int} (hv : l[i]? = some v) : (l.eraseIdx i).Nodup ∧ v ∉ l.eraseIdx i ∧ (∀ x ∈ l.eraseIdx i, x ∈ l) ∧ (l.eraseIdx i).length + 1 = l.length := by
  have li := (List.getElem?_eq_some_iff.mp hv).1
  have ev := (List.getElem?_eq_some_iff.mp hv).2
  have e : l = l.take i ++ v :: l.drop (i + 1) := by
    rw [← ev, ← List.drop_eq_getElem_cons li, List.take_append_drop]
  have ee : l.eraseIdx i = l.take i ++ l.drop (i + 1) := List.eraseIdx_eq_take_drop_succ ..
  have pm : l.Perm (v :: l.eraseIdx i) := by
    rw [ee]
    exact (List.Perm.of_eq e).trans List.perm_middle
  have nd := (pm.nodup_iff).mp h
  rw [List.nodup_cons] at nd
  exact ⟨nd.2, nd.1, fun x hx => pm.mem_iff.mpr (List.mem_cons_of_mem _ hx), by have := pm.length_eq; rw [List.length_cons] at this; omega⟩
theorem erase_map {α β : Type} (f : α → β) (l : List α) (i : Nat) : (l.map f).eraseIdx i = (l.eraseIdx i).map f := by
  rw [List.eraseIdx_eq_take_drop_succ, List.eraseIdx_eq_take_drop_succ, List.map_append, List.map_take, List.map_drop]
theorem len__law_worse (K : PySem.W.Frag) : ∀ vs H Q E, sp13__law_worse K vs H Q E → vs.length = (["purse", "book", "held", "node", "word"] : List Str).length := by
  rintro vs H Q E ⟨_, _, _, _, _, _, _, _, _, _, _, _, _, rfl, _⟩
  rfl
theorem rd__law_worse (T : Txt K mg) (vs : List V) (H : Hp) (Q : VK) (E : XK) (h : sp13__law_worse K vs H Q E) : t__law_worse K E { nx := fun _ H' => Q .non H', rt := Q } (start ["purse", "book", "held", "node", "word", "other", "after", "outs", "turn", "each"] vs) H := by
  obtain ⟨b, d, w, l, r, o, p, pr, pl, po, s, c, v, rfl, c3, pu, bk, la, sn, v1, v2, hm, dj, g⟩ := h
  unfold t__law_worse
  have wf := bk.wf
  have n60 := wf.n60
  obtain ⟨ok, eop⟩ := legO_ok' (s := s) v1 v2
  have wf' := wf.step ok.1
  have sn' := stepS_snd wf sn ok.1
  walk_at "g"
  refine w_me la no_m ?_
  walk_at "g"
  refine ⟨p, pr, pl, po, s, rfl, la, fun q qr ql qo H1 nq nqr nql nqo k1 lq => ?_⟩
  obtain ⟨qb, qd⟩ := pu.fr nq
  obtain ⟨rb, rd⟩ := pu.fr nqr
  obtain ⟨lb, ld⟩ := pu.fr nql
  obtain ⟨ob, od⟩ := pu.fr nqo
  walk_at "g"
  refine w_me lq no_m ?_
  walk_at "g"
  refine ⟨w, l, r, o, s, v, rfl, bk.k0 k1, by omega, ?_⟩
  walk_at "g"
  refine ⟨q, qr, ql, qo, s, _, rfl, lq, fun _ H2 k2 lq2 => ?_, fun bad => absurd ok bad⟩
  have k02 : Kp [] H H2 := (k1.all.trans k2).cut (by simp [nqr, nql, nqo])
  have en : (stepS s (legO s v)).n = s.n := rfl
  walk_at "g"
  refine ⟨w, l, r, o, s, v, rfl, bk.k0 k02, v1, v2, fun w3 l3 r3 o3 H3 nw3 nl3 nr3 no3 k3 bk3 => ?_⟩
  have lq3 := lq2.k0 k3
  generalize hs2 : stepS s (legO s v) = s2 at *
  walk_at "g"
  refine ⟨w3, l3, r3, o3, q, qr, ql, qo, s2, rfl, bk3, lq3, sn', fun H4 k4 => ?_⟩
  have k24 := k3.trans k4
  have k04 := k02.trans k24
  have lq4 := lq3.k0 k4
  walk_at "g"
  refine w_iteD (fun e => ?_) (fun e => ?_)
  · have : c = 3 := mdN_inj (d := 3) c3 (by omega) e
    subst this
    have hb : sndB s2.n s2.R s2.L s2.O = false := by
      have hm : (!sndB s2.n s2.R s2.L s2.O) = true := hm
      simpa using hm
    walk_at "g"
    refine w_me lq4 no_m ?_
    walk_at "g"
    refine ⟨q, qr, ql, qo, s2, rfl, lq4, sn', fun H5 k5 => ?_⟩
    rw [hb]
    walk_at "g"
    refine w_isB ?_
    rw [decide_eq_true (rfl : false = false)]
    walk_at "g"
    have la5 := la.k0 (k04.trans k5)
    refine w_me la5 no_m ?_
    walk_at "g"
    refine ⟨p, pr, pl, po, s, rfl, la5, fun H6 k6 => ?_⟩
    walk_at "g"
    refine ⟨w, l, r, o, s, rfl, bk.k0 ((k04.trans k5).trans k6), fun H7 k7 => ?_⟩
    walk_at "g"
    rw [decide_eq_true rfl]
    have k07 := (k04.trans k5).trans (k6.trans k7)
    exact g H7 k07.all (pu.k0 k07)
  · have c12 : c = 1 ∨ c = 2 := by
      match c, c3, hm with
      | 0, _, hm => cases hm
      | 1, _, _ => exact .inl rfl
      | 2, _, _ => exact .inr rfl
      | 3, _, _ => exact absurd rfl e
    have nf := harm_nofin c12 hm
    have bk4 := bk3.k0 k4
    walk_at "g"
    refine w_ixL (SqL.of (bk.k0 k04).ob) at_0 ?_
    walk_at "g"
    refine w_r2 (by omega) ?_
    rw [show ((s.n : Int) + 1 - 1).toNat = s.n by omega]
    have lO := wf'.lO
    refine cp_rng (fun i => (outN i s2.O).map V.int) (fun i hi => sz_lt (by
      rw [List.length_map]
      have := outN_len i s2.O
      omega)) rfl (fun i H' S N hi kk yes no => ?_) (fun ou H5 nou k5 hou => ?_)
    · walk_at "g"
      refine ⟨rfl, ?_⟩
      walk_at "g"
      refine w_ixL (SqL.of (kk.at0 bk4.ob)) (i := 3) (v := .ref o3) rfl ?_
      walk_at "g"
      refine w_ixL (SqL.of (kk.at0 bk4.ho)) (at_B (by omega) (by omega)) ?_
      rw [show ((1 : Int) + (i : Int)).toNat = i + 1 by omega]
      walk_at "g"
      refine w_iteB (fun c => ?_) (fun c => ?_)
      · walk_at "g"
        refine yes _ _ (Kp.refl _ _) ?_
        rw [outN_s9, if_pos c, List.map_append, show (1 : Int) + (i : Int) = ((i + 1 : Nat) : Int) by omega] <;> rfl
      · refine no _ (Kp.refl _ _) ?_
        rw [outN_s9, if_neg (by rw [c]; exact Bool.false_ne_true), List.append_nil]
    have lq5 := lq4.k0 k5
    have fou : H ou = none := k04.free0 nou
    obtain ⟨oub, oud⟩ := pu.fr fou
    have mo : ∀ x ∈ outN s.n s2.O, 1 ≤ x ∧ x ≤ s.n ∧ gB s2.O x.toNat = true := fun x hx => by
      have := mem_outs (s := s2) (i := x)
      rw [en] at this
      exact this.mp hx
    have nd := nodup_outs s.n s2.O
    have olen := outN_len s.n s2.O
    generalize outN s.n s2.O = os0 at hou mo nd olen
    obtain ⟨q1, q2, q3⟩ := lq5.pr
    have ouq : ou ≠ q ∧ ou ≠ qr ∧ ou ≠ ql ∧ ou ≠ qo := by
      obtain ⟨dx, hq⟩ := lq4.ob
      exact ⟨fun z => ne_of_none hq nou z.symm, fun z => ne_of_none lq4.hr nou z.symm, fun z => ne_of_none lq4.hl nou z.symm, fun z => ne_of_none lq4.ho nou z.symm⟩
    have k05 := k04.trans k5
    walk_at "g"
    refine w_lenL (SqL.of hou) ?_
    walk_at "g"
    rw [List.length_map]
    refine w_r1 (by omega) ?_
    refine lp_rng0 (fun k σ H' => ∃ (t : Sd) (os : List Int) (x8 : Option V), σ = [some (.ref b), some (.ref w), some (.ref p), some (.int (v : Int)), some (.str (mdN c)), some (.ref q), some (.ref w3), some (.ref ou), x8, none] ∧ Kp [b, d] H H' ∧ Pu H' b d ∧ t.n = s.n ∧ LinksAt K H' q qr ql qo t ∧ ¬ FinP t ∧ H' ou = some (.lst (os.map V.int)) ∧ os.length + k = os0.length ∧ os.Nodup ∧ ∀ x ∈ os, 1 ≤ x ∧ x ≤ s.n ∧ gB t.O x.toNat = true)
      ⟨s2, os0, _, rfl, k05.all, pu.k0 k05, en, lq5, nf, hou, rfl, nd, mo⟩ ?_ ?_
    · rintro k σ' H6 hk ⟨t, os, x8, rfl, k6, pu6, et, lq6, nf6, hou6, ol6, nd6, mo6⟩
      rw [Int.toNat_natCast] at hk
      walk_at "g"
      refine w_me lq6 no_m ?_
      walk_at "g"
      refine ⟨w_ty (SqL.of hou6), ?_⟩
      walk_at "g"
      refine w_lenL (SqL.of hou6) ?_
      walk_at "g"
      rw [List.length_map]
      refine ⟨b, d, _, rfl, by omega, by omega, pu6, fun dr H7 d0 d1 k7 pu7 => ?_⟩
      obtain ⟨i, rfl⟩ : ∃ i : Nat, dr = (i : Int) := ⟨dr.toNat, by omega⟩
      obtain ⟨xx, hx⟩ : ∃ xx, os[i]? = some xx := ⟨os[i]'(by omega), List.getElem?_eq_getElem (by omega)⟩
      obtain ⟨n1, n2, n3, n4⟩ := erase_out nd6 hx
      obtain ⟨x1, x2, x3⟩ := mo6 xx (List.mem_of_getElem? hx)
      obtain ⟨x, rfl⟩ : ∃ x : Nat, xx = (x : Int) := ⟨xx.toNat, by omega⟩
      rw [Int.toNat_natCast] at x3
      have hou7 := k7 _ _ (by simp [oub, oud]) hou6
      have lq7 := lq6.kp k7 (by simp [qb, qd]) (by simp [rb, rd]) (by simp [lb, ld]) (by simp [ob, od])
      walk_at "g"
      refine w_popAt hou7 (k := i) (y := .int (x : Int)) (by omega) (by omega) (by rw [List.length_map, seqIndex_of (by omega) (by omega), Int.toNat_natCast]) (by rw [List.getElem?_map, hx] <;> rfl) fun H8 k8 h8 => ?_
      rw [show (os.map V.int).eraseIdx i = (os.eraseIdx i).map V.int from erase_map .. ] at h8
      have lq8 := lq7.kp k8 (by simpa using Ne.symm ouq.1) (by simpa using Ne.symm ouq.2.1) (by simpa using Ne.symm ouq.2.2.1) (by simpa using Ne.symm ouq.2.2.2)
      have pu8 := pu7.kp k8 (by simpa using Ne.symm oub) (by simpa using Ne.symm oud)
      have okx : OkOp t (x : Int) := ⟨⟨by omega, by omega⟩, by rw [Int.natAbs_natCast, x3]; exact (decide_eq_true (by omega)).symm⟩
      walk_at "g"
      refine ⟨q, qr, ql, qo, t, _, rfl, lq8, fun _ H9 k9 lq9 => ?_, fun bad => absurd okx bad⟩
      walk_at "g"
      refine ⟨stepS t (x : Int), os.eraseIdx i, _, rfl, ?_, pu8.kp k9 (by simp [Ne.symm rb, Ne.symm lb, Ne.symm ob]) (by simp [Ne.symm rd, Ne.symm ld, Ne.symm od]), et, lq9, nofin_rel lq8.wf (by omega) (by omega) x3 nf6, k9 _ _ (by simp [ouq.2.1, ouq.2.2.1, ouq.2.2.2]) h8, by omega, n1, fun y hy => ?_⟩
      · exact ((((k6.trans k7).mono (S' := [b, d, ou, qr, ql, qo]) (by simp)).trans (k8.mono (by simp))).trans (k9.mono (by simp))).cut (by simp [fou, nqr, nql, nqo])
      · obtain ⟨y1, y2, y3⟩ := mo6 y (n3 y hy)
        refine ⟨y1, y2, ?_⟩
        rw [rel_O lq8.wf (by omega) (by omega), if_neg (fun z => n2 (by rwa [show y = (x : Int) by omega] at hy))]
        exact y3
    · rintro σ' H6 ⟨t, os, x8, rfl, k6, pu6, et, lq6, nf6, hou6, ol6, nd6, mo6⟩
      have nw : wholeB t = false := by
        cases e : wholeB t with
        | false => rfl
        | true => exact absurd (wholeB_fin e) nf6
      have nw : (decide (t.R = (wholeS t.n).R) && (decide (t.L = (wholeS t.n).L) && decide (t.O = (wholeS t.n).O))) = false := nw
      walk_at "g"
      refine w_me lq6 no_m ?_
      walk_at "g"
      refine ⟨q, qr, ql, qo, t, rfl, lq6, fun H7 k7 => ?_⟩
      rw [nw]
      walk_at "g"
      refine w_isB ?_
      rw [decide_eq_true (rfl : false = false)]
      walk_at "g"
      have apart : ∀ x ∈ [w, l, r, o, p, pr, pl, po], x ∉ [b, d] := dj
      have la7 := (la.kp k6 (apart _ (by simp)) (apart _ (by simp)) (apart _ (by simp)) (apart _ (by simp))).k0 k7
      have bk7 := (bk.kp k6 (apart _ (by simp)) (apart _ (by simp)) (apart _ (by simp)) (apart _ (by simp))).k0 k7
      refine w_me la7 no_m ?_
      walk_at "g"
      refine ⟨p, pr, pl, po, s, rfl, la7, fun H8 k8 => ?_⟩
      walk_at "g"
      refine ⟨w, l, r, o, s, rfl, bk7.k0 k8, fun H9 k9 => ?_⟩
      walk_at "g"
      rw [decide_eq_true rfl]
      have k69 := k7.trans (k8.trans k9)
      exact g H9 (k6.trans k69.all) (pu6.k0 k69)
end
end G
set_option Elab.async false
set_option linter.all false
set_option maxRecDepth 100000
set_option maxHeartbeats 2000000
namespace G
--#FAM KW
open PySem PySem.Spec PyProof.Rows L2
local macro_rules
  | `(tactic| walk_at "1") => `(tactic| first
    | with_reducible refine w_seq ?_
    | with_reducible refine w_asg ?_
    | with_reducible refine w_asgS ?_
    | with_reducible refine w_asf ?_
    | with_reducible refine w_drop ?_
    | with_reducible refine w_ret ?_
    | with_reducible refine w_if ?_
    | with_reducible refine w_not ?_
    | with_reducible refine w_and ?_
    | with_reducible refine w_or ?_
    | with_reducible refine w_test ?_
    | with_reducible refine w_tb ?_
    | with_reducible refine w_chain ?_
    | with_reducible refine w_op ?_
    | with_reducible refine w_un ?_
    | with_reducible refine w_andV ?_
    | with_reducible refine w_orV ?_
    | with_reducible refine w_notV ?_
    | with_reducible refine w_ifE ?_
    | with_reducible refine w_cons ?_
    | with_reducible refine w_nil ?_
    | with_reducible refine w_cb ?_
    | with_reducible refine w_cl ?_
    | with_reducible refine w_mt ?_
    | with_reducible refine w_fld ?_
    | with_reducible refine w_tupN ?_
    | with_reducible refine w_lstN ?_
    | with_reducible refine w_bm ?_
    | with_reducible refine w_bm0 ?_
    | with_reducible refine w_for ?_
    | with_reducible refine w_lc ?_
    | with_reducible refine w_iR1 ?_
    | with_reducible refine w_iR2 ?_
    | with_reducible refine w_iL ?_
    | with_reducible refine w_iT ?_
    | with_reducible refine w_iE ?_
    | with_reducible refine w_iZ ?_
    | with_reducible refine w_var (by with_unfolding_all rfl) ?_
    | with_reducible refine w_c ?_
    | with_reducible refine w_next ?_
    | with_reducible refine w_i0 ?_
    | with_reducible refine w_u1 ?_
    | with_reducible refine w_addI ?_
    | with_reducible refine w_eqI ?_
    | with_reducible refine w_eqS ?_
    | with_reducible refine w_eqB ?_
    | with_reducible refine w_neI ?_
    | with_reducible refine w_neS ?_
    | with_reducible refine w_neB ?_
    | with_reducible refine w_abs ?_
    | with_reducible refine w_intI ?_
    | with_reducible refine w_min2 ?_
    | with_reducible refine w_max2 ?_
    | with_reducible refine w_isN0 ?_
    | with_reducible refine w_isN1 ref_ne ?_
    | with_reducible refine w_isN1 int_ne ?_
    | with_reducible refine w_notN0 ?_
    | with_reducible refine w_notN1 ref_ne ?_
    | with_reducible refine w_notN1 int_ne ?_
    | with_reducible refine w_ex1 ?_
    | with_reducible refine w_n1 ?_
    | with_reducible refine w_n2 ?_
    | with_reducible refine w_tT ?_
    | with_reducible refine w_tF ?_
    | with_reducible refine w_nT ?_
    | with_reducible refine w_nF ?_
    | with_reducible refine w_rz ?_
    | with_reducible refine w_mkN ?_
    | with_reducible refine w_lrgN ?_
    | with_reducible refine w_rg1 ?_
    | with_reducible refine w_rg2 ?_
    | with_reducible refine w_sl ?_
    | with_reducible refine w_np ?_
    | with_reducible refine w_pt ?_
    | with_reducible refine w_tr ?_
    | with_reducible refine w_gn ?_
    | with_reducible refine w_yes ?_
    | with_reducible refine w_m1 ?_
    | with_reducible refine w_asu ?_
    | with_reducible refine w_exS ?_
    | with_reducible refine w_iS ?_
    | with_reducible refine w_g1 ?_
    | with_reducible refine w_gc ?_
    | with_reducible refine w_gt (SqT.of upd_same) rfl ?_)
local macro_rules
  | `(tactic| walk_at "g") => `(tactic| repeat walk_at "1")
local macro_rules
  | `(tactic| walk_at "j1") => `(tactic| first
    | with_reducible refine w_seqI ?_
    | walk_at "1")
local macro_rules
  | `(tactic| walk_at "j") => `(tactic| repeat walk_at "j1")
section
variable {K : PySem.W.Frag} {mg : Str → Option Value}
theorem len__law_finish (K : PySem.W.Frag) : ∀ vs H Q E, sp13__law_finish K vs H Q E → vs.length = (["purse", "book", "held", "word"] : List Str).length := by
  rintro vs H Q E ⟨_, _, _, _, _, _, _, _, _, _, _, _, rfl, _⟩
  rfl
theorem rd__law_finish (T : Txt K mg) (vs : List V) (H : Hp) (Q : VK) (E : XK) (h : sp13__law_finish K vs H Q E) : t__law_finish K E { nx := fun _ H' => Q .non H', rt := Q } (start ["purse", "book", "held", "word", "turn", "outs", "good", "node"] vs) H := by
  obtain ⟨b, d, w, l, r, o, p, pr, pl, po, s, c, rfl, c23, pu, bk, la, sn, ri, dj, dp, g⟩ := h
  unfold t__law_finish
  have c3 : c ≤ 3 := by omega
  have n60 := bk.wf.n60
  have dp' : ∀ x ∈ [p, pr, pl, po], x ∉ [b, d] := dp
  have bp : b ∉ [p, pr, pl, po] := fun z => dp' b z (by simp)
  have dpp : d ∉ [p, pr, pl, po] := fun z => dp' d z (by simp)
  have lp := la.pr
  simp only [List.mem_cons, List.not_mem_nil, or_false, not_or] at bp dpp
  walk_at "g"
  refine w_ixL (SqL.of bk.ob) at_0 ?_
  walk_at "g"
  refine w_r1 (by omega) ?_
  refine lp_rng0 (fun k σ H' => ∃ (w' l' r' o' : Addr) (t : Sd) (x4 x5 x6 x7 : Option V), σ = [some (.ref b), some (.ref w'), some (.ref p), some (.str (mdN c)), x4, x5, x6, x7] ∧ Kp [b, d, pr, pl, po] H H' ∧ Pu H' b d ∧ Bk5 H' w' l' r' o' t ∧ LinksAt K H' p pr pl po t ∧ Snd t ∧ RI c t ∧ t.n = s.n ∧ (∀ x ∈ [w', l', r', o'], x ∉ [b, d, pr, pl, po]))
    ⟨w, l, r, o, s, _, _, _, _, rfl, Kp.refl _ _, pu, bk, la, sn, ri, rfl, fun x hx z => dj x hx (by simp only [List.mem_cons, List.not_mem_nil, or_false] at z ⊢; rcases z with z | z | z | z | z <;> simp [z])⟩ ?_ ?_
  · rintro k σ' H1 hk ⟨w', l', r', o', t, x4, x5, x6, x7, rfl, k1, pu1, bk1, la1, sn1, ri1, et, dj1⟩
    have wt := bk1.wf
    walk_at "g"
    refine w_ixL (SqL.of bk1.ob) at_0 ?_
    walk_at "g"
    refine w_r2 (by omega) ?_
    rw [show ((t.n : Int) + 1 - 1).toNat = t.n by omega]
    refine cp_rng (fun i => (outN i t.O).map V.int) (fun i hi => sz_lt (by
      rw [List.length_map]
      have := outN_len i t.O
      omega)) rfl (fun i H'' S N hi kk yes no => ?_) (fun ou H2 nou k2 hou => ?_)
    · walk_at "g"
      refine ⟨rfl, ?_⟩
      walk_at "g"
      refine w_ixL (SqL.of (kk.at0 bk1.ob)) (i := 3) (v := .ref o') rfl ?_
      walk_at "g"
      refine w_ixL (SqL.of (kk.at0 bk1.ho)) (at_B (by omega) (by rw [bk1.wf.lO]; omega)) ?_
      rw [show ((1 : Int) + (i : Int)).toNat = i + 1 by omega]
      walk_at "g"
      refine w_iteB (fun c => ?_) (fun c => ?_)
      · walk_at "g"
        refine yes _ _ (Kp.refl _ _) ?_
        rw [outN_s9, if_pos c, List.map_append, show (1 : Int) + (i : Int) = ((i + 1 : Nat) : Int) by omega] <;> rfl
      · refine no _ (Kp.refl _ _) ?_
        rw [outN_s9, if_neg (by rw [c]; exact Bool.false_ne_true), List.append_nil]
    have bk2 := bk1.k0 k2
    have mo : ∀ x ∈ outN t.n t.O, 1 ≤ x ∧ x ≤ t.n := fun x hx => ⟨(mem_outs.mp hx).1, (mem_outs.mp hx).2.1⟩
    have olen := outN_len t.n t.O
    have gl := good_len c t (outN t.n t.O)
    walk_at "g"
    refine ⟨w', l', r', o', ou, t, c, outN t.n t.O, rfl, c3, bk2, sn1, hou, by omega, mo, fun go H3 ngo k3 hgo => ?_⟩
    have k13 := k2.trans k3
    have pu3 := pu1.k0 k13
    obtain ⟨gb, gd⟩ := (pu1.k0 k2).fr ngo
    have fgo : H1 go = none := k2.free0 ngo
    walk_at "g"
    refine w_truL (SqL.of hgo) ?_
    refine w_iteBN (fun ce => ?_) (fun ce => ?_)
    · have g0 : 0 < (goodL c t (outN t.n t.O)).length := by
        cases e : goodL c t (outN t.n t.O) with
        | nil => rw [e] at ce; cases ce
        | cons _ _ => exact Nat.succ_pos _
      walk_at "g"
      refine w_lenL (SqL.of hgo) ?_
      walk_at "g"
      rw [List.length_map]
      refine ⟨b, d, _, rfl, by omega, by omega, pu3, fun dr H4 d0 d1 k4 pu4 => ?_⟩
      obtain ⟨i, rfl⟩ : ∃ i : Nat, dr = (i : Int) := ⟨dr.toNat, by omega⟩
      obtain ⟨xx, hx⟩ : ∃ xx, (goodL c t (outN t.n t.O))[i]? = some xx := ⟨(goodL c t (outN t.n t.O))[i]'(by omega), List.getElem?_eq_getElem (by omega)⟩
      have mg := List.mem_of_getElem? hx
      have mo' := (List.mem_filter.mp mg).1
      obtain ⟨x1, x2, x3⟩ := mem_outs.mp mo'
      obtain ⟨x, rfl⟩ : ∃ x : Nat, xx = (x : Int) := ⟨xx.toNat, by omega⟩
      rw [Int.toNat_natCast] at x3
      have rf := (mem_good c3 wt sn1 ri1 mo' (by omega) (by omega)).mp mg
      have el : legO t x = (x : Int) := by unfold legO; rw [if_pos x3]
      rw [el] at rf
      have okx := (legO_ok' (s := t) (v := x) (by omega) (by omega)).1
      rw [el] at okx
      have sub : ∀ q ∈ [b, d], q ∈ [b, d, pr, pl, po] := fun q hq => by
        simp only [List.mem_cons, List.not_mem_nil, or_false] at hq ⊢
        rcases hq with h | h <;> simp [h]
      have la4 := (la1.k0 k13).kp k4 (dp' _ (by simp)) (dp' _ (by simp)) (dp' _ (by simp)) (dp' _ (by simp))
      have bk4 := (bk1.k0 k13).kp k4 (fun z => dj1 _ (by simp) (sub _ z)) (fun z => dj1 _ (by simp) (sub _ z)) (fun z => dj1 _ (by simp) (sub _ z)) (fun z => dj1 _ (by simp) (sub _ z))
      have hgo4 := k4 _ _ (by simp [gb, gd]) hgo
      walk_at "g"
      refine w_ixL (SqL.of hgo4) (i := (i : Int)) (v := .int (x : Int)) (by rw [at_I (by omega) (by omega), Int.toNat_natCast, gI_of hx]) ?_
      walk_at "g"
      refine w_clK ?_
      walk_at "g"
      refine ⟨rfl, rfl, w_admits c c3 rfl la4 okx fun H5 k5 => ?_⟩
      rw [decide_eq_true rf]
      walk_at "g"
      refine w_isnB ?_
      rw [decide_eq_true (rfl : true = true)]
      walk_at "g"
      have la5 := la4.k0 k5
      refine w_me la5 no_m ?_
      walk_at "g"
      refine ⟨p, pr, pl, po, t, _, rfl, la5, fun _ H6 k6 la6 => ?_, fun bad => absurd okx bad⟩
      have pu6 := (pu4.k0 k5).kp k6 (by simp [bp]) (by simp [dpp])
      have sub3 : ∀ q ∈ [pr, pl, po], q ∈ [b, d, pr, pl, po] := fun q hq => by
        simp only [List.mem_cons, List.not_mem_nil, or_false] at hq ⊢
        rcases hq with h | h | h <;> simp [h]
      have bk6 := (bk4.k0 k5).kp k6 (fun z => dj1 _ (by simp) (sub3 _ z)) (fun z => dj1 _ (by simp) (sub3 _ z)) (fun z => dj1 _ (by simp) (sub3 _ z)) (fun z => dj1 _ (by simp) (sub3 _ z))
      walk_at "g"
      refine ⟨w', l', r', o', t, x, rfl, bk6, by omega, by omega, fun w7 l7 r7 o7 H7 nw7 nl7 nr7 no7 k7 bk7 => ?_⟩
      rw [el] at bk7
      have ri7 : RI c (stepS t (x : Int)) := (harm_ri (stepS_snd wt sn1 okx.1)).mp ((mode_step c3 wt sn1 ri1 okx).mp rf)
      walk_at "g"
      refine ⟨w7, l7, r7, o7, stepS t (x : Int), _, _, _, _, rfl, ?_, pu6.k0 k7, bk7, la6.k0 k7, stepS_snd wt sn1 okx.1, ri7, et, fun q hq => ?_⟩
      · exact (((k1.trans k13.all).trans (k4.mono sub)).trans k5.all).trans ((k6.mono sub3).trans k7.all)
      · have fr : H6 q = none := by
          simp only [List.mem_cons, List.not_mem_nil, or_false] at hq
          rcases hq with rfl | rfl | rfl | rfl <;> assumption
        obtain ⟨e1, e2⟩ := pu6.fr fr
        have e3 : q ≠ pr := fun z => ne_of_none la6.hr fr z.symm
        have e4 : q ≠ pl := fun z => ne_of_none la6.hl fr z.symm
        have e5 : q ≠ po := fun z => ne_of_none la6.ho fr z.symm
        simp [e1, e2, e3, e4, e5]
    · walk_at "g"
      exact ⟨w', l', r', o', t, _, _, _, _, rfl, k1.trans k13.all, pu3, bk1.k0 k13, la1.k0 k13, sn1, ri1, et, dj1⟩
  · rintro σ' H1 ⟨w', l', r', o', t, x4, x5, x6, x7, rfl, k1, pu1, bk1, la1, sn1, ri1, et, dj1⟩
    have wt := bk1.wf
    walk_at "g"
    refine w_ixL (SqL.of bk1.ob) at_0 ?_
    walk_at "g"
    refine w_r2 (by omega) ?_
    rw [show ((t.n : Int) + 1 - 1).toNat = t.n by omega]
    refine cp_rng (fun i => (outN i t.O).map V.int) (fun i hi => sz_lt (by
      rw [List.length_map]
      have := outN_len i t.O
      omega)) rfl (fun i H'' S N hi kk yes no => ?_) (fun ou H2 nou k2 hou => ?_)
    · walk_at "g"
      refine ⟨rfl, ?_⟩
      walk_at "g"
      refine w_ixL (SqL.of (kk.at0 bk1.ob)) (i := 3) (v := .ref o') rfl ?_
      walk_at "g"
      refine w_ixL (SqL.of (kk.at0 bk1.ho)) (at_B (by omega) (by rw [bk1.wf.lO]; omega)) ?_
      rw [show ((1 : Int) + (i : Int)).toNat = i + 1 by omega]
      walk_at "g"
      refine w_iteB (fun c => ?_) (fun c => ?_)
      · walk_at "g"
        refine yes _ _ (Kp.refl _ _) ?_
        rw [outN_s9, if_pos c, List.map_append, show (1 : Int) + (i : Int) = ((i + 1 : Nat) : Int) by omega] <;> rfl
      · refine no _ (Kp.refl _ _) ?_
        rw [outN_s9, if_neg (by rw [c]; exact Bool.false_ne_true), List.append_nil]
    have la2 := la1.k0 k2
    have wo := whole_outs wt sn1 c23 ri1
    have wo : (decide (t.R = (wholeS t.n).R) && (decide (t.L = (wholeS t.n).L) && decide (t.O = (wholeS t.n).O))) = decide (outN t.n t.O = []) := wo
    walk_at "g"
    refine w_me la2 no_m ?_
    walk_at "g"
    refine ⟨p, pr, pl, po, t, rfl, la2, fun H3 k3 => ?_⟩
    rw [wo]
    walk_at "g"
    refine ⟨sz_ok (Nat.zero_le _), G.nw fun e9 H4 ne k4 he => ?_⟩
    have he : H4 e9 = some (.lst (([] : List Int).map V.int)) := he
    refine w_eqLZ (k4.at0 (k3.at0 hou)) he ?_
    walk_at "g"
    refine ⟨_, rfl, ?_⟩
    have k24 := k3.trans k4
    have k14 := k2.trans k24
    walk_at "g"
    refine ⟨w', l', r', o', p, pr, pl, po, t, rfl, bk1.k0 k14, la1.k0 k14, sn1, fun H5 k5 => ?_⟩
    exact g H5 (k1.trans (k14.trans k5).all) (pu1.k0 (k14.trans k5))
theorem len__law_path (K : PySem.W.Frag) : ∀ vs H Q E, sp13__law_path K vs H Q E → vs.length = (["purse", "wide"] : List Str).length := by
  rintro vs H Q E ⟨_, _, _, rfl, _⟩
  rfl
theorem rd__law_path (T : Txt K mg) (vs : List V) (H : Hp) (Q : VK) (E : XK) (h : sp13__law_path K vs H Q E) : t__law_path K E { nx := fun _ H' => Q .non H', rt := Q } (start ["purse", "wide", "paths", "path", "place"] vs) H := by
  obtain ⟨b, c, m, rfl, pu, g⟩ := h
  unfold t__law_path
  walk_at "g"
  refine w_iteD (fun c1 => ?_) (fun c1 => ?_)
  · walk_at "g"
    refine ⟨sz_ok (Nat.zero_le _), G.nw fun q H1 nq k1 hq => ?_⟩
    exact g [] q H1 nq k1.all (pu.k0 k1) hq (Nat.zero_le _)
  · walk_at "g"
    refine ⟨b, c, 2, rfl, by omega, by omega, pu, fun d0 H1 _ _ k1 pu1 => ?_⟩
    walk_at "g"
    refine w_iteD (fun c2 => ?_) (fun c2 => ?_)
    · walk_at "g"
      refine ⟨sz_ok (Nat.zero_le _), G.nw fun q H2 nq k2 hq => ?_⟩
      obtain ⟨q1, q2⟩ := pu1.fr nq
      exact g [] q H2 (k1.free (by simp [q1, q2]) nq) (k1.trans k2.all) (pu1.k0 k2) hq (Nat.zero_le _)
    · walk_at "g"
      refine ⟨sz_ok (by show 5 ≤ 1000000; omega), G.nw fun a1 H2 n1 k2 h1 => ?_⟩
      walk_at "g"
      refine ⟨sz_ok (by show 6 ≤ 1000000; omega), G.nw fun a2 H3 n2 k3 h2 => ?_⟩
      walk_at "g"
      refine ⟨sz_ok (by show 7 ≤ 1000000; omega), G.nw fun a3 H4 n3 k4 h3 => ?_⟩
      walk_at "g"
      refine ⟨sz_ok (by show 8 ≤ 1000000; omega), G.nw fun a4 H5 n4 k5 h4 => ?_⟩
      walk_at "g"
      refine ⟨sz_ok (by show 4 ≤ 1000000; omega), G.nw fun ll H6 nl k6 hl => ?_⟩
      have k12 := k2.trans k3
      have k14 := k12.trans k4
      have k15 := k14.trans k5
      have k16 := k15.trans k6
      have key : ∀ i : Nat, i < 4 → ∃ (q : Addr) (ps : List Int), [V.ref a1, V.ref a2, V.ref a3, V.ref a4][i]? = some (.ref q) ∧ H1 q = none ∧ H6 q = some (.lst (ps.map V.int)) ∧ ps.length ≤ 8 := by
        intro i hi
        match i, hi with
        | 0, _ => exact ⟨a1, [2, 3, 2, 1, 4], rfl, n1, k6.at0 (k5.at0 (k4.at0 (k3.at0 h1))), by show 5 ≤ 8; omega⟩
        | 1, _ => exact ⟨a2, [2, 3, 4, 2, 1, 4], rfl, k2.free0 n2, k6.at0 (k5.at0 (k4.at0 h2)), by show 6 ≤ 8; omega⟩
        | 2, _ => exact ⟨a3, [2, 3, 2, 1, 2, 1, 4], rfl, k12.free0 n3, k6.at0 (k5.at0 h3), by show 7 ≤ 8; omega⟩
        | 3, _ => exact ⟨a4, [2, 3, 4, 2, 1, 2, 1, 4], rfl, k14.free0 n4, k6.at0 h4, by show 8 ≤ 8; omega⟩
      have pu6 := pu1.k0 k16
      obtain ⟨l1, l2⟩ := pu1.fr (k15.free0 nl)
      walk_at "g"
      refine ⟨b, c, 4, rfl, by omega, by omega, pu6, fun d1 H7 e0 e1 k7 pu7 => ?_⟩
      obtain ⟨i, rfl⟩ : ∃ i : Nat, d1 = (i : Int) := ⟨d1.toNat, by omega⟩
      obtain ⟨q, ps, hi, fq, hq, lps⟩ := key i (by omega)
      obtain ⟨q1, q2⟩ := pu1.fr fq
      have hq7 := k7 _ _ (by simp [q1, q2]) hq
      walk_at "g"
      refine w_ixL (SqL.of (k7 _ _ (by simp [l1, l2]) hl)) (i := (i : Int)) (v := .ref q) (by rw [atI_pos (by omega) (by show (i : Int) < 4; omega), Int.toNat_natCast]; exact hi) ?_
      have fqH : H q = none := k1.free (by simp [q1, q2]) fq
      have k07 := (k1.trans k16.all).trans k7
      walk_at "g"
      refine ⟨b, c, 2, rfl, by omega, by omega, pu7, fun d2 H8 _ _ k8 pu8 => ?_⟩
      have hq8 := k8 _ _ (by simp [q1, q2]) hq7
      walk_at "g"
      refine w_iteD (fun c3 => ?_) (fun c3 => ?_)
      · walk_at "g"
        exact g ps q H8 fqH (k07.trans k8) pu8 hq8 lps
      · walk_at "g"
        refine w_l1 (SqL.of hq8) ?_
        refine cp_lst (SqL.of hq8) (fun i => ((ps.take i).map fun v => m + 1 - v).map V.int) (fun i hi => sz_lt (by rw [List.length_map, List.length_map, List.length_take]; omega)) rfl (fun i x H'' S N hx kk y no => ?_) (fun q3 H9 nq3 k9 hq3 => ?_)
        · obtain ⟨v, hv, rfl⟩ := at_map hx
          walk_at "g"
          refine ⟨rfl, ?_⟩
          walk_at "g"
          refine y _ _ (Kp.refl _ _) ?_
          rw [take_snoc hv, List.map_append, List.map_append] <;> rfl
        rw [List.length_map, List.take_length] at hq3
        obtain ⟨z1, z2⟩ := pu8.fr nq3
        exact g _ q3 H9 ((k07.trans k8).free (by simp [z1, z2]) nq3) ((k07.trans k8).trans k9.all) (pu8.k0 k9) hq3 (by rw [List.length_map]; exact lps)
end
end G
set_option Elab.async false
set_option linter.all false
set_option maxRecDepth 100000
set_option maxHeartbeats 2000000
namespace G
--#FAM KW
open PySem PySem.Spec PyProof.Rows L2
local macro_rules
  | `(tactic| walk_at "1") => `(tactic| first
    | with_reducible refine w_seq ?_
    | with_reducible refine w_asg ?_
    | with_reducible refine w_asgS ?_
    | with_reducible refine w_asf ?_
    | with_reducible refine w_drop ?_
    | with_reducible refine w_ret ?_
    | with_reducible refine w_if ?_
    | with_reducible refine w_not ?_
    | with_reducible refine w_and ?_
    | with_reducible refine w_or ?_
    | with_reducible refine w_test ?_
    | with_reducible refine w_tb ?_
    | with_reducible refine w_chain ?_
    | with_reducible refine w_op ?_
    | with_reducible refine w_un ?_
    | with_reducible refine w_andV ?_
    | with_reducible refine w_orV ?_
    | with_reducible refine w_notV ?_
    | with_reducible refine w_ifE ?_
    | with_reducible refine w_cons ?_
    | with_reducible refine w_nil ?_
    | with_reducible refine w_cb ?_
    | with_reducible refine w_cl ?_
    | with_reducible refine w_mt ?_
    | with_reducible refine w_fld ?_
    | with_reducible refine w_tupN ?_
    | with_reducible refine w_lstN ?_
    | with_reducible refine w_bm ?_
    | with_reducible refine w_bm0 ?_
    | with_reducible refine w_for ?_
    | with_reducible refine w_lc ?_
    | with_reducible refine w_iR1 ?_
    | with_reducible refine w_iR2 ?_
    | with_reducible refine w_iL ?_
    | with_reducible refine w_iT ?_
    | with_reducible refine w_iE ?_
    | with_reducible refine w_iZ ?_
    | with_reducible refine w_var (by with_unfolding_all rfl) ?_
    | with_reducible refine w_c ?_
    | with_reducible refine w_next ?_
    | with_reducible refine w_i0 ?_
    | with_reducible refine w_u1 ?_
    | with_reducible refine w_addI ?_
    | with_reducible refine w_eqI ?_
    | with_reducible refine w_eqS ?_
    | with_reducible refine w_eqB ?_
    | with_reducible refine w_neI ?_
    | with_reducible refine w_neS ?_
    | with_reducible refine w_neB ?_
    | with_reducible refine w_abs ?_
    | with_reducible refine w_intI ?_
    | with_reducible refine w_min2 ?_
    | with_reducible refine w_max2 ?_
    | with_reducible refine w_isN0 ?_
    | with_reducible refine w_isN1 ref_ne ?_
    | with_reducible refine w_isN1 int_ne ?_
    | with_reducible refine w_notN0 ?_
    | with_reducible refine w_notN1 ref_ne ?_
    | with_reducible refine w_notN1 int_ne ?_
    | with_reducible refine w_ex1 ?_
    | with_reducible refine w_n1 ?_
    | with_reducible refine w_n2 ?_
    | with_reducible refine w_tT ?_
    | with_reducible refine w_tF ?_
    | with_reducible refine w_nT ?_
    | with_reducible refine w_nF ?_
    | with_reducible refine w_rz ?_
    | with_reducible refine w_mkN ?_
    | with_reducible refine w_lrgN ?_
    | with_reducible refine w_rg1 ?_
    | with_reducible refine w_rg2 ?_
    | with_reducible refine w_sl ?_
    | with_reducible refine w_np ?_
    | with_reducible refine w_pt ?_
    | with_reducible refine w_tr ?_
    | with_reducible refine w_gn ?_
    | with_reducible refine w_yes ?_
    | with_reducible refine w_m1 ?_
    | with_reducible refine w_asu ?_
    | with_reducible refine w_exS ?_
    | with_reducible refine w_iS ?_
    | with_reducible refine w_g1 ?_
    | with_reducible refine w_gc ?_
    | with_reducible refine w_gt (SqT.of upd_same) rfl ?_)
local macro_rules
  | `(tactic| walk_at "g") => `(tactic| repeat walk_at "1")
local macro_rules
  | `(tactic| walk_at "j1") => `(tactic| first
    | with_reducible refine w_seqI ?_
    | walk_at "1")
local macro_rules
  | `(tactic| walk_at "j") => `(tactic| repeat walk_at "j1")
section
variable {K : PySem.W.Frag} {mg : Str → Option Value}
/-- where a run stands -/
structure RnI (K : PySem.W.Frag) (H0 H : Hp) (b d a q p pr pl po w l r o : Addr) (n c : Nat) (ns ps : List Int) (s : Sd) : Prop where
  kp : Kp [b, d] H0 H
  pu : Pu H b d
  ha : H a = some (.lst (ns.map V.int))
  hq : H q = some (.lst (ps.map V.int))
  la : LinksAt K H p pr pl po s
  bk : Bk5 H w l r o s
  sn : Snd s
  ri : RI c s
  en : s.n = n
  fr : H0 pr = none ∧ H0 pl = none ∧ H0 po = none
  ab : ∀ x ∈ [a, q, w, l, r, o, p, pr, pl, po], x ∉ [b, d]
  ap : ∀ x ∈ [a, q, w, l, r, o], x ∉ [pr, pl, po]
section
variable {H0 H H' : Hp} {b d a q p pr pl po w l r o : Addr} {n c : Nat} {ns ps : List Int} {s : Sd}
theorem RnI.k0 (I : RnI K H0 H b d a q p pr pl po w l r o n c ns ps s) (k : Kp [] H H') : RnI K H0 H' b d a q p pr pl po w l r o n c ns ps s :=
  ⟨I.kp.trans k.all, I.pu.k0 k, k.at0 I.ha, k.at0 I.hq, I.la.k0 k, I.bk.k0 k, I.sn, I.ri, I.en, I.fr, I.ab, I.ap⟩
theorem RnI.draw (I : RnI K H0 H b d a q p pr pl po w l r o n c ns ps s) (k : Kp [b, d] H H') (pu : Pu H' b d) : RnI K H0 H' b d a q p pr pl po w l r o n c ns ps s := by
  have ab := I.ab
  exact ⟨I.kp.trans k, pu, k _ _ (ab _ (by simp)) I.ha, k _ _ (ab _ (by simp)) I.hq, I.la.kp k (ab _ (by simp)) (ab _ (by simp)) (ab _ (by simp)) (ab _ (by simp)), I.bk.kp k (ab _ (by simp)) (ab _ (by simp)) (ab _ (by simp)) (ab _ (by simp)), I.sn, I.ri, I.en, I.fr, ab, I.ap⟩
end
theorem sz_at (i : Nat) (h : i < 10) : ∃ z : Int, atI [V.int 0, V.int 1, V.int 2, V.int 3, V.int 3, V.int 4, V.int 4, V.int 5, V.int 5, V.int 6] (i : Int) = some (.int z) ∧ 0 ≤ z ∧ z ≤ 6 := by
  match i, h with
  | 0, _ => exact ⟨0, rfl, by omega, by omega⟩
  | 1, _ => exact ⟨1, rfl, by omega, by omega⟩
  | 2, _ => exact ⟨2, rfl, by omega, by omega⟩
  | 3, _ => exact ⟨3, rfl, by omega, by omega⟩
  | 4, _ => exact ⟨3, rfl, by omega, by omega⟩
  | 5, _ => exact ⟨4, rfl, by omega, by omega⟩
  | 6, _ => exact ⟨4, rfl, by omega, by omega⟩
  | 7, _ => exact ⟨5, rfl, by omega, by omega⟩
  | 8, _ => exact ⟨5, rfl, by omega, by omega⟩
  | 9, _ => exact ⟨6, rfl, by omega, by omega⟩
theorem rg_gen (a b : Int) : rgV a b = (rgI a (b - a).toNat).map V.int := by
  unfold rgV rgI
  rw [List.map_map]
  rfl
theorem mem_rgI {a : Int} {k : Nat} {x : Int} : x ∈ rgI a k ↔ a ≤ x ∧ x < a + k := by
  unfold rgI
  rw [List.mem_map]
  constructor
  · rintro ⟨i, hi, rfl⟩
    have := List.mem_range.mp hi
    omega
  · rintro ⟨h1, h2⟩
    exact ⟨(x - a).toNat, List.mem_range.mpr (by omega), by omega⟩
theorem len__law_run (K : PySem.W.Frag) : ∀ vs H Q E, sp13__law_run K vs H Q E → vs.length = (["purse", "word"] : List Str).length := by
  rintro vs H Q E ⟨_, _, _, rfl, _⟩
  rfl
theorem rd__law_run (T : Txt K mg) (vs : List V) (H : Hp) (Q : VK) (E : XK) (h : sp13__law_run K vs H Q E) : t__law_run K E { nx := fun _ H' => Q .non H', rt := Q } (start ["purse", "word", "wide", "size", "many", "shift", "nodes", "path", "held", "book", "turn", "good", "bad", "node"] vs) H := by
  obtain ⟨b, d, c, rfl, c3, pu, g⟩ := h
  unfold t__law_run
  walk_at "g"
  refine ⟨b, d, 16, rfl, by omega, by omega, pu, fun d1 H1 _ _ k1 pu1 => ?_⟩
  walk_at "g"
  generalize hwd : decide (d1 = 0) = wd
  refine ⟨sz_ok (by show 10 ≤ 1000000; omega), G.nw fun sl H2 nsl k2 hsl => ?_⟩
  obtain ⟨s1, s2⟩ := pu1.fr nsl
  walk_at "g"
  refine ⟨b, d, 10, rfl, by omega, by omega, pu1.k0 k2, fun d2 H3 e0 e1 k3 pu3 => ?_⟩
  obtain ⟨i2, rfl⟩ : ∃ i2 : Nat, d2 = (i2 : Int) := ⟨d2.toNat, by omega⟩
  obtain ⟨z0, hz, z1, z2⟩ := sz_at i2 (by omega)
  walk_at "g"
  refine w_ixL (SqL.of (k3 _ _ (by simp [s1, s2]) hsl)) hz ?_
  walk_at "g"
  refine ⟨b, d, 10, rfl, by omega, by omega, pu3, fun d3 H4 f0 f1 k4 pu4 => ?_⟩
  have k04 : Kp [b, d] H H4 := ((k1.trans k2.all).trans k3).trans k4
  walk_at "j"
  refine w_ifJ (fun σ' H' => ∃ (n : Nat) (mn : Int), σ' = [some (.ref b), some (.str (mdN c)), some (.bl wd), some (.int (n : Int)), some (.int mn), none, none, none, none, none, none, none, none, none] ∧ n ≤ 60 ∧ 0 ≤ mn ∧ mn ≤ 12 ∧ Kp [b, d] H H' ∧ Pu H' b d) (fun N hN => ?_) (fun σ' H5 ⟨n, mn, es, n60, m0, m1, k05, pu5⟩ => ?_)
  · walk_at "g"
    refine w_iteB (fun c1 => ?_) (fun c1 => ?_)
    · walk_at "g"
      refine ⟨b, d, 54, rfl, by omega, by omega, pu4, fun d4 H5 h0 h1 k5 pu5 => ?_⟩
      walk_at "g"
      refine w_ic ⟨by omega, by omega⟩ ?_
      obtain ⟨n, hn⟩ : ∃ n : Nat, 7 + d4 = (n : Int) := ⟨(7 + d4).toNat, by omega⟩
      rw [hn]
      exact hN _ _ ⟨n, _, rfl, by omega, by omega, by omega, k04.trans k5, pu5⟩
    · obtain ⟨n, hn⟩ : ∃ n : Nat, z0 = (n : Int) := ⟨z0.toNat, by omega⟩
      subst hn
      walk_at "g"
      exact hN _ _ ⟨n, _, rfl, by omega, by omega, by omega, k04, pu4⟩
  subst es
  clear k1 k2 k3 k4 k04 pu1 pu3 pu4 hsl nsl s1 s2 pu hz
  walk_at "g"
  obtain ⟨mx, emx, mx1, mx2⟩ : ∃ mx : Int, (if (n : Int) - 5 > 1 then (n : Int) - 5 else 1) = mx ∧ 1 ≤ mx ∧ (mx = 1 ∨ mx = (n : Int) - 5) := ⟨_, rfl, by split <;> omega, by split <;> omega⟩
  rw [emx]
  refine ⟨b, d, mx, rfl, by omega, by omega, pu5, fun sh H6 sh0 sh1 k6 pu6 => ?_⟩
  walk_at "g"
  obtain ⟨kk, ekk, kk1⟩ : ∃ kk : Nat, (if (6 : Int) < (n : Int) then 6 else (n : Int)) = (kk : Int) ∧ ((kk = 6 ∧ 6 < n) ∨ (kk = n ∧ n ≤ 6)) := by
    by_cases c1 : (6 : Int) < (n : Int)
    · exact ⟨6, by rw [if_pos c1]; rfl, .inl ⟨rfl, by omega⟩⟩
    · exact ⟨n, by rw [if_neg c1], .inr ⟨rfl, by omega⟩⟩
  rw [ekk]
  refine ⟨⟨by omega, by omega, by omega, by omega, by omega⟩, G.nw fun a H7 na k7 ha => ?_⟩
  rw [rg_gen, show (1 + sh + (kk : Int) - (1 + sh)).toNat = kk by omega] at ha
  have mns : ∀ x ∈ rgI (1 + sh) kk, 1 ≤ x ∧ x ≤ (n : Int) := fun x hx => by
    have := mem_rgI.mp hx
    omega
  have lns : (rgI (1 + sh) kk).length ≤ 6 := by rw [rgI_len]; omega
  have alln : n ≤ 6 → rgI (1 + sh) kk = (List.range n).map fun (i : Nat) => ((i + 1 : Nat) : Int) := fun h => by
    have e1 : kk = n := by omega
    have e2 : sh = 0 := by omega
    rw [e1, e2]
    unfold rgI
    exact List.map_congr_left fun i _ => by omega
  generalize rgI (1 + sh) kk = ns at ha mns lns alln
  have k07 := (k05.trans k6).trans k7.all
  have pu7 := pu6.k0 k7
  obtain ⟨ab1, ab2⟩ := pu6.fr na
  walk_at "g"
  refine w_lenL (SqL.of ha) ?_
  walk_at "g"
  rw [List.length_map]
  refine ⟨b, d, _, rfl, pu7, fun ps q H8 nq k8 pu8 hq lps => ?_⟩
  have ha8 := k8 _ _ (by simp [ab1, ab2]) ha
  have k08 := k07.trans k8
  obtain ⟨q1, q2⟩ := pu7.fr nq
  walk_at "g"
  refine mk fun p dx H9 np hp9 k9 => ?_
  refine ⟨p, dx, n, rfl, hp9, fun ok pr pl po HA npr npl npo kA laA => ⟨rfl, ?_⟩, fun z => absurd ⟨by omega, by omega⟩ z⟩
  rw [Int.toNat_natCast] at laA
  have k8A : Kp [] H8 HA := (k9.all.trans kA).cut1 np
  walk_at "g"
  refine ⟨n, rfl, n60, fun w l r o HB nw nl nr no kB bkB => ?_⟩
  have k8B := k8A.trans kB
  have fx : ∀ x, H8 x = none → x ∉ [b, d] := fun x hx => by
    obtain ⟨z1, z2⟩ := pu8.fr hx
    simp [z1, z2]
  have f8 : H8 pr = none ∧ H8 pl = none ∧ H8 po = none := ⟨k9.free0 npr, k9.free0 npl, k9.free0 npo⟩
  have I0 : RnI K H HB b d a q p pr pl po w l r o n c ns ps (wholeS n) := by
    refine ⟨k08.trans k8B.all, pu8.k0 k8B, k8B.at0 ha8, k8B.at0 hq, laA.k0 kB, bkB, wholeS_snd n, ri_whole n60 c, rfl, ?_, ?_, ?_⟩
    · exact ⟨k08.free (fx _ f8.1) f8.1, k08.free (fx _ f8.2.1) f8.2.1, k08.free (fx _ f8.2.2) f8.2.2⟩
    · intro x hx
      simp only [List.mem_cons, List.not_mem_nil, or_false] at hx
      rcases hx with rfl | rfl | rfl | rfl | rfl | rfl | rfl | rfl | rfl | rfl
      · simp [ab1, ab2]
      · simp [q1, q2]
      · exact fx _ (k8A.free0 nw)
      · exact fx _ (k8A.free0 nl)
      · exact fx _ (k8A.free0 nr)
      · exact fx _ (k8A.free0 no)
      · exact fx _ np
      · exact fx _ f8.1
      · exact fx _ f8.2.1
      · exact fx _ f8.2.2
    · have old : ∀ x ob, H8 x = some ob → x ∉ [pr, pl, po] := fun x ob hx => by simp [ne_of_none hx f8.1, ne_of_none hx f8.2.1, ne_of_none hx f8.2.2]
      have new : ∀ x, HA x = none → x ∉ [pr, pl, po] := fun x hx => by simp [Ne.symm (ne_of_none laA.hr hx), Ne.symm (ne_of_none laA.hl hx), Ne.symm (ne_of_none laA.ho hx)]
      intro x hx
      simp only [List.mem_cons, List.not_mem_nil, or_false] at hx
      rcases hx with rfl | rfl | rfl | rfl | rfl | rfl
      · exact old _ _ ha8
      · exact old _ _ hq
      · exact new _ nw
      · exact new _ nl
      · exact new _ nr
      · exact new _ no
  clear k8B k8A kB kA k9 k08 k07 k05 k6 k7 k8 pu5 pu6 pu7 pu8 bkB laA hp9 hq ha8 ha fx f8 npr npl npo nw nl nr no np nq na
  have lps' : (ps.length : Int) ≤ 8 := by omega
  walk_at "g"
  refine w_lenL (SqL.of I0.hq) ?_
  walk_at "g"
  rw [List.length_map]
  obtain ⟨m, em, m9⟩ : ∃ m : Nat, (if (ps.length : Int) > mn then (ps.length : Int) else mn) = (m : Int) ∧ m ≤ 12 := ⟨(if (ps.length : Int) > mn then (ps.length : Int) else mn).toNat, by split <;> omega, by split <;> omega⟩
  rw [em]
  refine w_r1 (by omega) ?_
  refine lp_rng0 (fun k σ H' => ∃ (w l r o : Addr) (s : Sd) (xa xb xc xd : Option V), σ = [some (.ref b), some (.str (mdN c)), some (.bl wd), some (.int (n : Int)), some (.int mn), some (.int sh), some (.ref a), some (.ref q), some (.ref p), some (.ref w), xa, xb, xc, xd] ∧ RnI K H H' b d a q p pr pl po w l r o n c ns ps s) ⟨w, l, r, o, _, _, _, _, _, rfl, I0⟩ ?_ ?_
  · rintro k σ' H1 hk ⟨w, l, r, o, s, xa, xb, xc, xd, rfl, I1⟩
    have en := I1.en
    have mns' : ∀ x ∈ ns, 1 ≤ x ∧ x ≤ (s.n : Int) := fun x hx => by rw [en]; exact mns x hx
    have gl := good_len c s ns
    walk_at "g"
    refine ⟨w, l, r, o, p, pr, pl, po, s, rfl, I1.bk, I1.la, I1.sn, fun H2 k2 => ?_⟩
    have I2 := I1.k0 k2
    walk_at "g"
    refine ⟨w, l, r, o, p, pr, pl, po, a, s, c, ns, rfl, c3, I2.bk, I2.la, I2.sn, I2.ri, I2.ha, by omega, mns', fun z => by rw [en] at z ⊢; exact alln z, fun H3 k3 => ?_⟩
    have I3 := I2.k0 k3
    walk_at "g"
    refine ⟨w, l, r, o, a, s, c, ns, rfl, c3, I3.bk, I3.sn, I3.ha, by omega, mns', fun go H4 ngo k4 hgo => ?_⟩
    have I4 := I3.k0 k4
    have fgo := I3.pu.fr ngo
    walk_at "g"
    refine w_l1 (SqL.of I4.ha) ?_
    refine cp_lst (SqL.of I4.ha) (fun i => ((ns.take i).filter fun x => !decide (x ∈ goodL c s ns)).map V.int) (fun i hi => sz_lt (by
      rw [List.length_map]
      have := List.length_filter_le (fun x : Int => !decide (x ∈ goodL c s ns)) (ns.take i)
      rw [List.length_take] at this
      omega)) rfl (fun i x H'' S N hx kk' y no => ?_) (fun bad H5 nbad k5 hbad => ?_)
    · obtain ⟨v, hv, rfl⟩ := at_map hx
      walk_at "g"
      refine ⟨rfl, ?_⟩
      walk_at "g"
      refine w_inZ (neg := true) (kk'.at0 hgo) ?_
      refine ⟨_, rfl, ?_⟩
      show if (!decide (v ∈ goodL c s ns)) = true then _ else _
      refine w_iteN (fun cc => ?_) (fun cc => ?_)
      · walk_at "g"
        refine y _ _ (Kp.refl _ _) ?_
        rw [take_snoc hv, List.filter_append, List.map_append, List.filter_cons_of_pos (p := fun x : Int => !decide (x ∈ goodL c s ns)) (by rw [decide_eq_false cc]; rfl)] <;> rfl
      · refine no _ (Kp.refl _ _) ?_
        rw [take_snoc hv, List.filter_append, List.map_append, List.filter_cons_of_neg (p := fun x : Int => !decide (x ∈ goodL c s ns)) (by rw [decide_eq_true cc]; exact Bool.false_ne_true)]
        exact List.append_nil _
    rw [List.length_map, List.take_length] at hbad
    have I5 := I4.k0 k5
    have hgo5 := k5.at0 hgo
    have fbad := I4.pu.fr nbad
    have lb : (ns.filter fun x => !decide (x ∈ goodL c s ns)).length ≤ 6 := Nat.le_trans (List.length_filter_le _ _) lns
    walk_at "j"
    refine w_ifK (fun H' => Kp [b, d] H5 H' ∧ Pu H' b d) (fun N hN => ?_) (fun H6 ⟨k6, pu6⟩ => ?_)
    · walk_at "g"
      refine w_truL (SqL.of hbad) ?_
      refine w_iteBN (fun ce => ?_) (fun ce => ?_)
      · have b0 : 0 < (ns.filter fun x => !decide (x ∈ goodL c s ns)).length := by
          cases e : (ns.filter fun x => !decide (x ∈ goodL c s ns)) with
          | nil => rw [e] at ce; cases ce
          | cons _ _ => exact Nat.succ_pos _
        walk_at "g"
        refine ⟨b, d, 2, rfl, by omega, by omega, I5.pu, fun d6 H6 _ _ k6 pu6 => ?_⟩
        have I6 := I5.draw k6 pu6
        have hb6 := k6 _ _ (by simp [fbad.1, fbad.2]) hbad
        walk_at "g"
        refine w_iteD (fun c6 => ?_) (fun c6 => ?_)
        · walk_at "g"
          refine w_lenL (SqL.of hb6) ?_
          walk_at "g"
          rw [List.length_map]
          refine ⟨b, d, _, rfl, by omega, by omega, pu6, fun d7 H7 g0 g1 k7 pu7 => ?_⟩
          have I7 := I6.draw k7 pu7
          obtain ⟨i, rfl⟩ : ∃ i : Nat, d7 = (i : Int) := ⟨d7.toNat, by omega⟩
          obtain ⟨vv, hv⟩ : ∃ vv, (ns.filter fun x => !decide (x ∈ goodL c s ns))[i]? = some vv := ⟨(ns.filter fun x => !decide (x ∈ goodL c s ns))[i]'(by omega), List.getElem?_eq_getElem (by omega)⟩
          obtain ⟨mv, nv⟩ := List.mem_filter.mp (List.mem_of_getElem? hv)
          obtain ⟨v1, v2⟩ := mns' vv mv
          obtain ⟨v, rfl⟩ : ∃ v : Nat, vv = (v : Int) := ⟨vv.toNat, by omega⟩
          have hm : harmB c (stepS s (legO s v)) = true := by
            cases e : harmB c (stepS s (legO s v)) with
            | true => rfl
            | false =>
              have : (v : Int) ∈ goodL c s ns := List.mem_filter.mpr ⟨mv, by rw [Int.toNat_natCast, e]; rfl⟩
              rw [decide_eq_true this] at nv
              cases nv
          walk_at "g"
          refine w_ixL (SqL.of (k7 _ _ (by simp [fbad.1, fbad.2]) hb6)) (i := (i : Int)) (v := .int (v : Int)) (by rw [at_I (by omega) (by omega), Int.toNat_natCast, gI_of hv]) ?_
          walk_at "g"
          refine ⟨b, d, w, l, r, o, p, pr, pl, po, s, c, v, rfl, c3, pu7, I7.bk, I7.la, I7.sn, by omega, by omega, hm, fun x hx => I7.ab x (by
            simp only [List.mem_cons, List.not_mem_nil, or_false] at hx ⊢
            rcases hx with z | z | z | z | z | z | z | z <;> simp [z]), fun H8 k8 pu8 => ?_⟩
          walk_at "g"
          exact hN _ ⟨(k6.trans k7).trans k8, pu8⟩
        · walk_at "g"
          exact hN _ ⟨k6, pu6⟩
      · walk_at "g"
        exact hN _ ⟨Kp.refl _ _, I5.pu⟩
    have I6 := I5.draw k6 pu6
    have hgo6 := k6 _ _ (by simp [fgo.1, fgo.2]) hgo5
    clear I1 I2 I3 I4 I5 hgo hgo5 hbad k5 k4 k3 k2
    walk_at "g"
    refine w_truL (SqL.of hgo6) ?_
    refine w_iteBN (fun ce => ?_) (fun ce => ?_)
    · have b0 : 0 < (goodL c s ns).length := by
        cases e : goodL c s ns with
        | nil => rw [e] at ce; cases ce
        | cons _ _ => exact Nat.succ_pos _
      walk_at "g"
      refine w_lenL (SqL.of hgo6) ?_
      walk_at "g"
      rw [List.length_map]
      refine ⟨b, d, _, rfl, by omega, by omega, pu6, fun d7 H7 g0 g1 k7 pu7 => ?_⟩
      have I7 := I6.draw k7 pu7
      have hgo7 := k7 _ _ (by simp [fgo.1, fgo.2]) hgo6
      obtain ⟨i, rfl⟩ : ∃ i : Nat, d7 = (i : Int) := ⟨d7.toNat, by omega⟩
      obtain ⟨vv, hv⟩ : ∃ vv, (goodL c s ns)[i]? = some vv := ⟨(goodL c s ns)[i]'(by omega), List.getElem?_eq_getElem (by omega)⟩
      have mv := List.mem_of_getElem? hv
      walk_at "g"
      refine w_ixL (SqL.of hgo7) (i := (i : Int)) (v := .int vv) (by rw [at_I (by omega) (by omega), Int.toNat_natCast, gI_of hv]) ?_
      walk_at "j"
      refine w_ifJ (fun σ' H' => H' = H7 ∧ ∃ y : Int, y ∈ goodL c s ns ∧ σ' = [some (.ref b), some (.str (mdN c)), some (.bl wd), some (.int (n : Int)), some (.int mn), some (.int sh), some (.ref a), some (.ref q), some (.ref p), some (.ref w), some (.int (k : Int)), some (.ref go), some (.ref bad), some (.int y)]) (fun N hN => ?_) (fun σ' H' ⟨eH, y, my, es⟩ => ?_)
      · walk_at "g"
        refine w_lenL (SqL.of I7.hq) ?_
        walk_at "g"
        rw [List.length_map]
        refine w_iteD (fun c7 => ?_) (fun c7 => ?_)
        · have ix : atI (ps.map V.int) (k : Int) = some (.int (gI ps k)) := by rw [at_I (by omega) (by omega), Int.toNat_natCast]
          walk_at "g"
          refine w_ixL (SqL.of I7.hq) ix ?_
          walk_at "g"
          refine w_inZ hgo7 ?_
          walk_at "g"
          refine w_iteD (fun c8 => ?_) (fun c8 => ?_)
          · walk_at "g"
            refine w_ixL (SqL.of I7.hq) ix ?_
            walk_at "g"
            exact hN _ _ ⟨rfl, _, c8, rfl⟩
          · walk_at "g"
            exact hN _ _ ⟨rfl, _, mv, rfl⟩
        · walk_at "g"
          exact hN _ _ ⟨rfl, _, mv, rfl⟩
      subst es
      subst eH
      have my' := (List.mem_filter.mp my).1
      obtain ⟨y1, y2⟩ := mns' y my'
      obtain ⟨v, rfl⟩ : ∃ v : Nat, y = (v : Int) := ⟨y.toNat, by omega⟩
      obtain ⟨ok, _⟩ := legO_ok' (s := s) (v := v) (by omega) (by omega)
      have rf := (mem_good c3 I7.bk.wf I7.sn I7.ri my' (by omega) (by omega)).mp my
      have hm := (mode_step c3 I7.bk.wf I7.sn I7.ri ok).mp rf
      have sn' := stepS_snd I7.bk.wf I7.sn ok.1
      have ab := I7.ab
      have ap := I7.ap
      walk_at "g"
      refine w_me I7.la no_m ?_
      walk_at "g"
      refine ⟨w, l, r, o, s, v, rfl, I7.bk, by omega, ?_⟩
      walk_at "g"
      refine ⟨p, pr, pl, po, s, _, rfl, I7.la, fun _ H8 k8 la8 => ?_, fun bad => absurd ok bad⟩
      have nb : b ∉ [pr, pl, po] := fun z => by
        simp only [List.mem_cons, List.not_mem_nil, or_false] at z
        rcases z with z | z | z
        · exact ab pr (by simp) (by rw [← z]; exact List.mem_cons_self)
        · exact ab pl (by simp) (by rw [← z]; exact List.mem_cons_self)
        · exact ab po (by simp) (by rw [← z]; exact List.mem_cons_self)
      have nd : d ∉ [pr, pl, po] := fun z => by
        simp only [List.mem_cons, List.not_mem_nil, or_false] at z
        rcases z with z | z | z
        · exact ab pr (by simp) (by rw [← z]; exact List.mem_cons_of_mem _ List.mem_cons_self)
        · exact ab pl (by simp) (by rw [← z]; exact List.mem_cons_of_mem _ List.mem_cons_self)
        · exact ab po (by simp) (by rw [← z]; exact List.mem_cons_of_mem _ List.mem_cons_self)
      have pu8 := I7.pu.kp k8 nb nd
      have bk8 := I7.bk.kp k8 (ap _ (by simp)) (ap _ (by simp)) (ap _ (by simp)) (ap _ (by simp))
      walk_at "g"
      refine ⟨w, l, r, o, s, v, rfl, bk8, by omega, by omega, fun w9 l9 r9 o9 H9 nw9 nl9 nr9 no9 k9 bk9 => ?_⟩
      walk_at "g"
      refine ⟨w9, l9, r9, o9, _, _, _, _, _, rfl, ⟨?_, pu8.k0 k9, k9.at0 (k8 _ _ (ap _ (by simp)) I7.ha), k9.at0 (k8 _ _ (ap _ (by simp)) I7.hq), la8.k0 k9, bk9, sn', (harm_ri sn').mp hm, en, I7.fr, ?_, ?_⟩⟩
      · obtain ⟨f1, f2, f3⟩ := I7.fr
        exact (((I7.kp.mono (S' := [b, d, pr, pl, po]) (by simp)).trans (k8.mono (by simp))).trans k9.all).cut (by simp [f1, f2, f3])
      · intro x hx
        simp only [List.mem_cons, List.not_mem_nil, or_false] at hx
        have nx : ∀ x, H8 x = none → x ∉ [b, d] := fun x hx => by
          obtain ⟨z1, z2⟩ := pu8.fr hx
          simp [z1, z2]
        rcases hx with rfl | rfl | rfl | rfl | rfl | rfl | rfl | rfl | rfl | rfl
        · exact ab _ (by simp)
        · exact ab _ (by simp)
        · exact nx _ nw9
        · exact nx _ nl9
        · exact nx _ nr9
        · exact nx _ no9
        · exact ab _ (by simp)
        · exact ab _ (by simp)
        · exact ab _ (by simp)
        · exact ab _ (by simp)
      · intro x hx
        simp only [List.mem_cons, List.not_mem_nil, or_false] at hx
        have new : ∀ x, H8 x = none → x ∉ [pr, pl, po] := fun x hx => by simp [Ne.symm (ne_of_none la8.hr hx), Ne.symm (ne_of_none la8.hl hx), Ne.symm (ne_of_none la8.ho hx)]
        rcases hx with rfl | rfl | rfl | rfl | rfl | rfl
        · exact ap _ (by simp)
        · exact ap _ (by simp)
        · exact new _ nw9
        · exact new _ nl9
        · exact new _ nr9
        · exact new _ no9
    · walk_at "g"
      exact ⟨w, l, r, o, s, _, _, _, _, rfl, I6⟩
  · rintro σ' H1 ⟨w, l, r, o, s, xa, xb, xc, xd, rfl, I1⟩
    have en := I1.en
    have mns' : ∀ x ∈ ns, 1 ≤ x ∧ x ≤ (s.n : Int) := fun x hx => by rw [en]; exact mns x hx
    walk_at "g"
    refine ⟨w, l, r, o, p, pr, pl, po, s, rfl, I1.bk, I1.la, I1.sn, fun H2 k2 => ?_⟩
    have I2 := I1.k0 k2
    walk_at "g"
    refine ⟨w, l, r, o, p, pr, pl, po, a, s, c, ns, rfl, c3, I2.bk, I2.la, I2.sn, I2.ri, I2.ha, by omega, mns', fun z => by rw [en] at z ⊢; exact alln z, fun H3 k3 => ?_⟩
    have I3 := I2.k0 k3
    have fin : (c = 2 ∨ c = 3) → sp13__law_finish K [.ref b, .ref w, .ref p, .str (mdN c)] H3 Q E := fun c23 => by
      refine ⟨b, d, w, l, r, o, p, pr, pl, po, s, c, rfl, c23, I3.pu, I3.bk, I3.la, I3.sn, I3.ri, fun x hx z => ?_, fun x hx => I3.ab x (by
        simp only [List.mem_cons, List.not_mem_nil, or_false] at hx ⊢
        rcases hx with z | z | z | z <;> simp [z]), fun H4 k4 pu4 => ?_⟩
      · have hx1 : x ∈ [a, q, w, l, r, o, p, pr, pl, po] := by
          simp only [List.mem_cons, List.not_mem_nil, or_false] at hx ⊢
          rcases hx with y | y | y | y <;> simp [y]
        have hx2 : x ∈ [a, q, w, l, r, o] := by
          simp only [List.mem_cons, List.not_mem_nil, or_false] at hx ⊢
          rcases hx with y | y | y | y <;> simp [y]
        have n1 := I3.ab x hx1
        have n2 := I3.ap x hx2
        have n3 : x ≠ p := by
          obtain ⟨dx, hp⟩ := I3.la.ob
          obtain ⟨L', hL, _⟩ := I3.bk.hl
          obtain ⟨R', hR, _⟩ := I3.bk.hr
          simp only [List.mem_cons, List.not_mem_nil, or_false] at hx
          rcases hx with rfl | rfl | rfl | rfl
          · exact fun e => by have h1 := I3.bk.ob; rw [e, hp] at h1; cases h1
          · exact fun e => by rw [e] at hL; rw [hL] at hp; cases hp
          · exact fun e => by rw [e] at hR; rw [hR] at hp; cases hp
          · exact fun e => by have := I3.bk.ho; rw [e, hp] at this; cases this
        simp only [List.mem_cons, List.not_mem_nil, or_false, not_or] at z n1 n2
        rcases z with z | z | z | z | z | z
        · exact n1.1 z
        · exact n1.2 z
        · exact n3 z
        · exact n2.1 z
        · exact n2.2.1 z
        · exact n2.2.2 z
      · obtain ⟨f1, f2, f3⟩ := I3.fr
        exact g H4 (((I3.kp.mono (S' := [b, d, pr, pl, po]) (by simp)).trans k4).cut (by simp [f1, f2, f3])) pu4
    walk_at "g"
    refine w_iteD (fun e => ?_) (fun e => ?_)
    · have : c = 2 := mdN_inj (d := 2) c3 (by omega) e
      walk_at "g"
      exact fin (.inl this)
    · walk_at "g"
      refine w_iteD (fun e2 => ?_) (fun e2 => ?_)
      · have : c = 3 := mdN_inj (d := 3) c3 (by omega) e2
        walk_at "g"
        exact fin (.inr this)
      · walk_at "g"
        exact g H3 I3.kp I3.pu
theorem len_law (K : PySem.W.Frag) : ∀ vs H Q E, sp_law K vs H Q E → vs.length = (["script"] : List Str).length := by
  rintro vs H Q E ⟨_, _, rfl, _⟩
  rfl
theorem rd_law (T : Txt K mg) (vs : List V) (H : Hp) (Q : VK) (E : XK) (h : sp_law K vs H Q E) : t_law K E { nx := fun _ H' => Q .non H', rt := Q } (start ["script", "purse", "word"] vs) H := by
  obtain ⟨a, ns, rfl, hs, hl, g⟩ := h
  unfold t_law
  walk_at "g"
  refine ⟨a, ns, rfl, hs, hl, fun b d H1 nb nd k1 pu1 => ?_⟩
  walk_at "g"
  refine ⟨rfl, fun q H2 nq k2 hq => ?_⟩
  obtain ⟨q1, q2⟩ := pu1.fr nq
  walk_at "g"
  refine w_l1 (SqL.of hq) ?_
  have key : ∀ (i : Nat) (x : V), [V.str (mdN 0), V.str (mdN 1), V.str (mdN 2), V.str (mdN 3)][i]? = some x → i ≤ 3 ∧ x = .str (mdN i) := by
    intro i x hx
    match i, hx with
    | 0, hx => injection hx with hx; exact ⟨by omega, hx.symm⟩
    | 1, hx => injection hx with hx; exact ⟨by omega, hx.symm⟩
    | 2, hx => injection hx with hx; exact ⟨by omega, hx.symm⟩
    | 3, hx => injection hx with hx; exact ⟨by omega, hx.symm⟩
  refine lp_lst (xs := [V.str (mdN 0), V.str (mdN 1), V.str (mdN 2), V.str (mdN 3)]) (fun i σ H' => (∃ u, σ = [some (.ref a), some (.ref b), u]) ∧ Pu H' b d ∧ H' q = some (.lst [.str (mdN 0), .str (mdN 1), .str (mdN 2), .str (mdN 3)])) ⟨⟨_, rfl⟩, pu1.k0 k2, hq⟩ ?_ ?_ ?_
  · rintro i σ' H' hi ⟨_, _, h⟩
    exact SqL.of h
  · rintro i x σ' H' hx ⟨⟨u, rfl⟩, pu', hq'⟩
    obtain ⟨i3, rfl⟩ := key i x hx
    walk_at "g"
    refine ⟨b, d, i, rfl, i3, pu', fun H3 k3 pu3 => ?_⟩
    walk_at "g"
    exact ⟨⟨_, rfl⟩, pu3, k3 _ _ (by simp [q1, q2]) hq'⟩
  · rintro σ' H' ⟨⟨u, rfl⟩, _, _⟩
    walk_at "g"
    exact g H'
end
end G
set_option Elab.async false
set_option linter.all false
set_option maxRecDepth 100000
set_option maxHeartbeats 4000000
namespace G
open PySem PySem.Spec PyProof.Rows L2
section
variable {P : Program} {w : World} {K : PySem.W.Frag} {mg : Str → Option Value} {base : Heap}
theorem ok__law_purse {f : Addr} {fd : FuncData} (T : Txt K mg) (F : FunD K "_law_purse" "_law_purse" (defArgs s__law_purse) (defBody s__law_purse) (defScope s__law_purse) [] [] f fd)  : FnOk P w K mg base (L2N.CX P w) 1 f fd ["script"] (sp13__law_purse K) :=
  F.ok sc__law_purse (len__law_purse K) fun cdv A outer s H vs Q E hr h => ⟨t__law_purse K E, pss_cons (ps_setLc (i := 1) (own := [("cell", 3)]) (g := gName 3) (tt := tTest (tOp rGeA (tCB rAbsA (tCons (tVar 3) (tNil))) (tOp rPowA (tC (.int 10)) (tC (.int 18))))) (te := tCB rAbsA (tCons (tVar 3) (tNil))) rfl sc__law_purse.nd rfl rfl (sw_true rfl rfl rfl (by decide +kernel)) (pi_list (pe_slice sl_list (pv 0) (po_none) (po_some (pe_int)))) (blkOk_by (own := [("cell", 3)]) (N := ["script", "cells", "seed", "cell"]) (sc := defScope s__law_purse) (by decide +kernel)) (fun _ _ _ _ _ => pg_name (i := 3) sc__law_purse.nd rfl (by first | exact Or.inl rfl | exact Or.inr rfl)) (fun _ _ _ _ _ => pts_one (pt_cmpR op_ge (pe_callB call_absA (by rfl) T.b_abs (by decide +kernel) (pa_cons (pv 3) (pa_nil))) (pe_op op_pow (pe_int) (pe_int)) (nomark _))) (fun _ _ _ _ _ => pe_callB call_absA (by rfl) T.b_abs (by decide +kernel) (pa_cons (pv 3) (pa_nil)))) (pss_cons (ps_set (i := 2) sc__law_purse.nd rfl (by first | exact Or.inl rfl | exact Or.inr rfl) (pe_int)) (pss_cons (ps_for (passes_of rfl) rfl (pi_list (pe_slice sl_list (pv 0) (po_none) (po_some (pe_int)))) (pg_name (i := 3) sc__law_purse.nd rfl (by first | exact Or.inl rfl | exact Or.inr rfl)) (pss_one (ps_set (i := 2) sc__law_purse.nd rfl (by first | exact Or.inl rfl | exact Or.inr rfl) (pe_op op_mod (pe_callTy call_intA (by rfl) T.b_int (by decide +kernel) (pa_cons (pe_op op_addA (pe_op op_addA (pe_op op_mulA (pv 2) (pe_int)) (pe_op op_mod (pe_callTy call_intA (by rfl) T.b_int (by decide +kernel) (pa_cons (pv 3) (pa_nil))) (pe_int))) (pe_int)) (pa_nil))) (pe_int))))) (pss_one (ps_ret (pe_lst (pa_cons (pv 1) (pa_cons (pv 2) (pa_cons (pe_int) (pa_cons (pe_int) (pa_nil)))))))))), rd__law_purse T vs H Q E h⟩
theorem ok_check_size {f : Addr} {fd : FuncData} (T : Txt K mg) (F : FunD K "check_size" "check_size" (defArgs s_check_size) (defBody s_check_size) (defScope s_check_size) [] [] f fd) (x_BadSize : ExM P w K mg base 1 "BadSize" (He.ga K "BadSize") ["size"]) : FnOk P w K mg base (L2N.CX P w) 3 f fd ["size"] (sp_check_size K) :=
  F.ok sc_check_size (len_check_size K) fun cdv A outer s H vs Q E hr h => ⟨t_check_size K E, pss_one (ps_if (pt_not (pt_chain op_le op_le (pe_int) (pv 0) (pe_cc T.cc_Links_MOST (pe_own T.g_Links)))) (pss_one (ps_rz x_BadSize rfl (L2N.takes_of rfl rfl rfl rfl) hr (by decide) (pa_cons (pv 0) (pa_nil)))) (pss_nil)), rd_check_size T vs H Q E h⟩
theorem ok_Links___init__ {f : Addr} {fd : FuncData} (T : Txt K mg) (F : FunD K "__init__" "Links.__init__" (defArgs s_Links___init__) (defBody s_Links___init__) (defScope s_Links___init__) [] [] f fd) (c_check_size : Cal P w K mg base 3 "check_size" ["size"] (sp_check_size K)) : FnOk P w K mg base (L2N.CX P w) 4 f fd ["self", "size"] (sp_Links___init__ K) :=
  F.ok sc_Links___init__ (len_Links___init__ K) fun cdv A outer s H vs Q E hr h => ⟨t_Links___init__ K E, pss_cons (ps_expr (pe_cl c_check_size hr (by decide) (pat_of (W := fun cls d _ H => E cls d H) (L2N.takes_of rfl rfl rfl rfl)) (pa_cons (pv 1) (pa_nil)))) (pss_cons (ps_fld (pv 0) (pv 1) rfl) (pss_cons (ps_fld (pv 0) (pe_listRg rfl rfl T.b_list (prg_2 rfl T.b_range (pe_int) (pe_op op_addA (pv 1) (pe_int)))) rfl) (pss_cons (ps_fld (pv 0) (pe_op op_addA (pe_lst (pa_cons (pe_int) (pa_nil))) (pe_listRg rfl rfl T.b_list (prg_1 rfl T.b_range (pe_op op_addA (pv 1) (pe_int))))) rfl) (pss_one (ps_fld (pv 0) (pe_op op_mulA (pe_lst (pa_cons (pe_bl) (pa_nil))) (pe_op op_addA (pv 1) (pe_int))) rfl))))), rd_Links___init__ T vs H Q E h⟩
theorem ok_Links_is_legal {f : Addr} {fd : FuncData} (T : Txt K mg) (F : FunD K "is_legal" "Links.is_legal" (defArgs s_Links_is_legal) (defBody s_Links_is_legal) (defScope s_Links_is_legal) [] [] f fd)  : FnOk P w K mg base (L2N.CX P w) 1 f fd ["self", "operation"] (sp_Links_is_legal K) :=
  F.ok sc_Links_is_legal (len_Links_is_legal K) fun cdv A outer s H vs Q E hr h => ⟨t_Links_is_legal K E, pss_one (ps_ret (pe_cmpR (op_eqA hr) (pe_ix ix_seq (pe_fld (pv 0) rfl) (pe_callB call_absA (by rfl) T.b_abs (by decide +kernel) (pa_cons (pv 1) (pa_nil))) (fun _ _ => rfl)) (pe_cmpR op_gt (pv 1) (pe_int) (nomark _)) (nomark _))), rd_Links_is_legal T vs H Q E h⟩
theorem ok_check_operation {f : Addr} {fd : FuncData} (T : Txt K mg) (F : FunD K "check_operation" "check_operation" (defArgs s_check_operation) (defBody s_check_operation) (defScope s_check_operation) [] [] f fd) (x_BadOperation : ExM P w K mg base 1 "BadOperation" (He.ga K "BadOperation") ["operation", "index"]) : FnOk P w K mg base (L2N.CX P w) 3 f fd ["size", "operation", "index"] (sp_check_operation K) :=
  F.ok sc_check_operation (len_check_operation K) fun cdv A outer s H vs Q E hr h => ⟨t_check_operation K E, pss_one (ps_if (pt_not (pt_chain op_le op_le (pe_int) (pe_callB call_absA (by rfl) T.b_abs (by decide +kernel) (pa_cons (pv 1) (pa_nil))) (pv 0))) (pss_one (ps_rz x_BadOperation rfl (L2N.takes_of rfl rfl rfl rfl) hr (by decide) (pa_cons (pv 1) (pa_cons (pv 2) (pa_nil))))) (pss_nil)), rd_check_operation T vs H Q E h⟩
theorem ok_Links_check {f : Addr} {fd : FuncData} (T : Txt K mg) (F : FunD K "check" "Links.check" (defArgs s_Links_check) (defBody s_Links_check) (defScope s_Links_check) [] [] f fd) (c_Links_is_legal : Met P w K mg base 1 (He.ga K "Links") "is_legal" ["self", "operation"] (sp_Links_is_legal K)) (c_check_operation : Cal P w K mg base 3 "check_operation" ["size", "operation", "index"] (sp_check_operation K)) (x_Illegal : ExM P w K mg base 1 "Illegal" (He.ga K "Illegal") ["operation", "index"]) : FnOk P w K mg base (L2N.CX P w) 4 f fd ["self", "operation", "index"] (sp_Links_check K) :=
  F.ok sc_Links_check (len_Links_check K) fun cdv A outer s H vs Q E hr h => ⟨t_Links_check K E, pss_cons (ps_expr (pe_cl c_check_operation hr (by decide) (pat_of (W := fun cls d _ H => E cls d H) (L2N.takes_of rfl rfl rfl rfl)) (pa_cons (pe_fld (pv 0) rfl) (pa_cons (pv 1) (pa_cons (pv 2) (pa_nil)))))) (pss_one (ps_if (pt_not (pt_val (pe_mt c_Links_is_legal T.cl_Links hr (by decide) (pat_of (W := fun cls d _ H => E cls d H) (L2N.takes_of rfl rfl rfl rfl)) (pv 0) (pa_cons (pv 1) (pa_nil))))) (pss_one (ps_rz x_Illegal rfl (L2N.takes_of rfl rfl rfl rfl) hr (by decide) (pa_cons (pv 1) (pa_cons (pv 2) (pa_nil))))) (pss_nil))), rd_Links_check T vs H Q E h⟩
theorem ok_Links_apply_at {f : Addr} {fd : FuncData} (T : Txt K mg) (F : FunD K "apply_at" "Links.apply_at" (defArgs s_Links_apply_at) (defBody s_Links_apply_at) (defScope s_Links_apply_at) [] [] f fd) (c_Links_check : Met P w K mg base 4 (He.ga K "Links") "check" ["self", "operation", "index"] (sp_Links_check K)) : FnOk P w K mg base (L2N.CX P w) 5 f fd ["self", "operation", "index"] (sp_Links_apply_at K) :=
  F.ok sc_Links_apply_at (len_Links_apply_at K) fun cdv A outer s H vs Q E hr h => ⟨t_Links_apply_at K E, pss_cons (ps_expr (pe_mt c_Links_check T.cl_Links hr (by decide) (pat_of (W := fun cls d _ H => E cls d H) (L2N.takes_of rfl rfl rfl rfl)) (pv 0) (pa_cons (pv 1) (pa_cons (pv 2) (pa_nil))))) (pss_cons (ps_set (i := 3) sc_Links_apply_at.nd rfl (by first | exact Or.inl rfl | exact Or.inr rfl) (pe_callB call_absA (by rfl) T.b_abs (by decide +kernel) (pa_cons (pv 1) (pa_nil)))) (pss_cons (ps_set (i := 4) sc_Links_apply_at.nd rfl (by first | exact Or.inl rfl | exact Or.inr rfl) (pe_ix ix_seq (pe_fld (pv 0) rfl) (pv 3) (fun _ _ => rfl))) (pss_cons (ps_set (i := 5) sc_Links_apply_at.nd rfl (by first | exact Or.inl rfl | exact Or.inr rfl) (pe_ix ix_seq (pe_fld (pv 0) rfl) (pv 3) (fun _ _ => rfl))) (pss_cons (ps_set (i := 6) sc_Links_apply_at.nd rfl (by first | exact Or.inl rfl | exact Or.inr rfl) (pe_cmpR op_lt (pv 1) (pe_int) (nomark _))) (pss_cons (ps_asg (pe_ifExp (pt_val (pv 6)) (pv 5) (pv 3)) (pg_sub (pe_fld (pv 0) rfl) (pv 4) set_list)) (pss_cons (ps_asg (pe_ifExp (pt_val (pv 6)) (pv 4) (pv 3)) (pg_sub (pe_fld (pv 0) rfl) (pv 5) set_list)) (pss_one (ps_asg (pv 6) (pg_sub (pe_fld (pv 0) rfl) (pv 3) set_list))))))))), rd_Links_apply_at T vs H Q E h⟩
theorem ok_Links_apply {f : Addr} {fd : FuncData} (T : Txt K mg) (F : FunD K "apply" "Links.apply" (defArgs s_Links_apply) (defBody s_Links_apply) (defScope s_Links_apply) [] [] f fd) (c_Links_apply_at : Met P w K mg base 5 (He.ga K "Links") "apply_at" ["self", "operation", "index"] (sp_Links_apply_at K)) : FnOk P w K mg base (L2N.CX P w) 6 f fd ["self", "operation"] (sp_Links_apply K) :=
  F.ok sc_Links_apply (len_Links_apply K) fun cdv A outer s H vs Q E hr h => ⟨t_Links_apply K E, pss_one (ps_expr (pe_mt c_Links_apply_at T.cl_Links hr (by decide) (pat_of (W := fun cls d _ H => E cls d H) (L2N.takes_of rfl rfl rfl rfl)) (pv 0) (pa_cons (pv 1) (pa_cons (pe_int) (pa_nil))))), rd_Links_apply T vs H Q E h⟩
theorem ok_Links___eq__ {f : Addr} {fd : FuncData} (T : Txt K mg) (F : FunD K "__eq__" "Links.__eq__" (defArgs s_Links___eq__) (defBody s_Links___eq__) (defScope s_Links___eq__) [] [] f fd)  : FnOk P w K mg base (L2N.CX P w) 1 f fd ["self", "other"] (sp23_Links___eq__ K) :=
  F.ok sc_Links___eq__ (len_Links___eq__ K) fun cdv A outer s H vs Q E hr h => ⟨t_Links___eq__ K E, pss_one (ps_ret (pe_and (pe_callB call_isi (by rfl) T.b_isinstance (by decide +kernel) (pa_cons (pv 1) (pa_cons (pe_own T.g_Links) (pa_nil)))) (pe_and (pe_cmpR (op_eqA hr) (pe_fld (pv 0) rfl) (pe_fld (pv 1) rfl) (nomark _)) (pe_and (pe_cmpR (op_eqA hr) (pe_fld (pv 0) rfl) (pe_fld (pv 1) rfl) (nomark _)) (pe_one (pe_cmpR (op_eqA hr) (pe_fld (pv 0) rfl) (pe_fld (pv 1) rfl) (nomark _))))))), rd_Links___eq__ T vs H Q E h⟩
theorem ok_Links_is_whole {f : Addr} {fd : FuncData} (T : Txt K mg) (F : FunD K "is_whole" "Links.is_whole" (defArgs s_Links_is_whole) (defBody s_Links_is_whole) (defScope s_Links_is_whole) [] [] f fd) (c_Links___eq__ : Met P w K mg base 1 (He.ga K "Links") "__eq__" ["self", "other"] (sp23_Links___eq__ K)) (m_Links : Mak P w K mg base 4 "Links" (He.ga K "Links") ["self", "size"] (sp_Links___init__ K)) : FnOk P w K mg base (L2N.CX P w) 6 f fd ["self"] (sp23_Links_is_whole K) :=
  F.ok sc_Links_is_whole (len_Links_is_whole K) fun cdv A outer s H vs Q E hr h => ⟨t_Links_is_whole K E, pss_one (ps_ret (pe_cmpR (op_eqO (i := 0) c_Links___eq__ hr (by decide) (pat_of (W := fun cls d _ H => E cls d H) (L2N.takes_of rfl rfl rfl rfl))) (pv 0) (pe_mk m_Links hr (by decide) (pat_of (W := fun cls d _ H => E cls d H) (L2N.takes_of rfl rfl rfl rfl)) (pa_cons (pe_fld (pv 0) rfl) (pa_nil))) (nomark _))), rd_Links_is_whole T vs H Q E h⟩
theorem ok__law_holders {f : Addr} {fd : FuncData} (T : Txt K mg) (F : FunD K "_law_holders" "_law_holders" (defArgs s__law_holders) (defBody s__law_holders) (defScope s__law_holders) [] [] f fd)  : FnOk P w K mg base (L2N.CX P w) 1 f fd ["book"] (sp13__law_holders K) :=
  F.ok sc__law_holders (len__law_holders K) fun cdv A outer s H vs Q E hr h => ⟨t__law_holders K E, pss_cons (ps_set (i := 1) sc__law_holders.nd rfl (by first | exact Or.inl rfl | exact Or.inr rfl) (pe_lst (pa_nil))) (pss_cons (ps_for (passes_of rfl) rfl (pi_range2 rfl T.b_range (pa_cons (pe_int) (pa_cons (pe_op op_addA (pe_ix ix_seq (pv 0) (pe_int) (fun _ _ => rfl)) (pe_int)) (pa_nil)))) (pg_name (i := 2) sc__law_holders.nd rfl (by first | exact Or.inl rfl | exact Or.inr rfl)) (pss_cons (ps_set (i := 3) sc__law_holders.nd rfl (by first | exact Or.inl rfl | exact Or.inr rfl) (pe_and (pe_cmpR (op_eqA hr) (pe_ix ix_seq (pe_ix ix_seq (pv 0) (pe_int) (fun _ _ => rfl)) (pv 2) (fun _ _ => rfl)) (pe_op op_sub (pv 2) (pe_int)) (nomark _)) (pe_one (pe_cmpR (op_neA hr) (pe_ix ix_seq (pe_ix ix_seq (pv 0) (pe_int) (fun _ _ => rfl)) (pe_op op_sub (pv 2) (pe_int)) (fun _ _ => rfl)) (pv 2) (nomark _))))) (pss_cons (ps_set (i := 4) sc__law_holders.nd rfl (by first | exact Or.inl rfl | exact Or.inr rfl) (pe_and (pe_cmpR (op_eqA hr) (pe_ix ix_seq (pe_ix ix_seq (pv 0) (pe_int) (fun _ _ => rfl)) (pv 2) (fun _ _ => rfl)) (pe_op op_addA (pv 2) (pe_int)) (nomark _)) (pe_one (pe_cmpR (op_neA hr) (pe_ix ix_seq (pe_ix ix_seq (pv 0) (pe_int) (fun _ _ => rfl)) (pe_op op_addA (pv 2) (pe_int)) (fun _ _ => rfl)) (pv 2) (nomark _))))) (pss_one (ps_if ((pw_or (pt_val (pv 3)) (pw_or1 (pt_val (pv 4)))).pt) (pss_one (ps_expr (pe_bm PySem.F.plainAttrs_list PySem.F.slot_list_append PySem.F.type_list_append mt_append (pv 1) (pa_cons (pv 2) (pa_nil))))) (pss_nil)))))) (pss_one (ps_ret (pv 1)))), rd__law_holders T vs H Q E h⟩
theorem ok__law_lost {f : Addr} {fd : FuncData} (T : Txt K mg) (F : FunD K "_law_lost" "_law_lost" (defArgs s__law_lost) (defBody s__law_lost) (defScope s__law_lost) [] [] f fd)  : FnOk P w K mg base (L2N.CX P w) 1 f fd ["book"] (sp16__law_lost K) :=
  F.ok sc__law_lost (len__law_lost K) fun cdv A outer s H vs Q E hr h => ⟨t__law_lost K E, pss_one (ps_ret (pe_lc (own := [("gap", 1)]) (g := gName 1) (tt := tAnd (tTest (tOp (rNeA K) (tOp (rIx K) (tOp (rIx K) (tVar 0) (tC (.int 2))) (tVar 1)) (tOp rAddA (tVar 1) (tC (.int 1))))) (tTest (tOp (rNeA K) (tOp (rIx K) (tOp (rIx K) (tVar 0) (tC (.int 1))) (tOp rAddA (tVar 1) (tC (.int 1)))) (tVar 1)))) (te := tVar 1) rfl sc__law_lost.nd (pi_range1 rfl T.b_range (pa_cons (pe_op op_addA (pe_ix ix_seq (pv 0) (pe_int) (fun _ _ => rfl)) (pe_int)) (pa_nil))) (blkOk_by (own := [("gap", 1)]) (N := ["book", "gap"]) (sc := defScope s__law_lost) (by decide +kernel)) (fun _ _ _ _ _ => pg_name (i := 1) sc__law_lost.nd rfl (by first | exact Or.inl rfl | exact Or.inr rfl)) (fun _ _ _ _ _ => pts_one ((pw_and (pt_cmpR (op_neA hr) (pe_ix ix_seq (pe_ix ix_seq (pv 0) (pe_int) (fun _ _ => rfl)) (pv 1) (fun _ _ => rfl)) (pe_op op_addA (pv 1) (pe_int)) (nomark _)) (pw_and1 (pt_cmpR (op_neA hr) (pe_ix ix_seq (pe_ix ix_seq (pv 0) (pe_int) (fun _ _ => rfl)) (pe_op op_addA (pv 1) (pe_int)) (fun _ _ => rfl)) (pv 1) (nomark _)))).pt)) (fun _ _ _ _ _ => pv 1))), rd__law_lost T vs H Q E h⟩
theorem ok__law_sound {f : Addr} {fd : FuncData} (T : Txt K mg) (F : FunD K "_law_sound" "_law_sound" (defArgs s__law_sound) (defBody s__law_sound) (defScope s__law_sound) [] [] f fd)  : FnOk P w K mg base (L2N.CX P w) 1 f fd ["book"] (sp13__law_sound K) :=
  F.ok sc__law_sound (len__law_sound K) fun cdv A outer s H vs Q E hr h => ⟨t__law_sound K E, pss_cons (ps_set (i := 1) sc__law_sound.nd rfl (by first | exact Or.inl rfl | exact Or.inr rfl) (pe_int)) (pss_cons (ps_for (passes_of rfl) rfl (pi_range2 rfl T.b_range (pa_cons (pe_int) (pa_cons (pe_op op_addA (pe_ix ix_seq (pv 0) (pe_int) (fun _ _ => rfl)) (pe_int)) (pa_nil)))) (pg_name (i := 2) sc__law_sound.nd rfl (by first | exact Or.inl rfl | exact Or.inr rfl)) (pss_one (ps_if (pt_not (pt_val (pe_ix ix_seq (pe_ix ix_seq (pv 0) (pe_int) (fun _ _ => rfl)) (pv 2) (fun _ _ => rfl)))) (pss_cons (ps_if ((pw_or (pt_cmpR (op_neA hr) (pe_ix ix_seq (pe_ix ix_seq (pv 0) (pe_int) (fun _ _ => rfl)) (pv 1) (fun _ _ => rfl)) (pv 2) (nomark _)) (pw_or1 (pt_cmpR (op_neA hr) (pe_ix ix_seq (pe_ix ix_seq (pv 0) (pe_int) (fun _ _ => rfl)) (pv 2) (fun _ _ => rfl)) (pv 1) (nomark _)))).pt) (pss_one (ps_ret (pe_bl))) (pss_nil)) (pss_one (ps_set (i := 1) sc__law_sound.nd rfl (by first | exact Or.inl rfl | exact Or.inr rfl) (pv 2)))) (pss_nil)))) (pss_one (ps_ret (pe_bl)))), rd__law_sound T vs H Q E h⟩
theorem ok__law_harmed {f : Addr} {fd : FuncData} (T : Txt K mg) (F : FunD K "_law_harmed" "_law_harmed" (defArgs s__law_harmed) (defBody s__law_harmed) (defScope s__law_harmed) [] [] f fd) (c__law_holders : Cal P w K mg base 1 "_law_holders" ["book"] (sp13__law_holders K)) (c__law_lost : Cal P w K mg base 1 "_law_lost" ["book"] (sp16__law_lost K)) (c__law_sound : Cal P w K mg base 1 "_law_sound" ["book"] (sp13__law_sound K)) : FnOk P w K mg base (L2N.CX P w) 2 f fd ["book", "word"] (sp13__law_harmed K) :=
  F.ok sc__law_harmed (len__law_harmed K) fun cdv A outer s H vs Q E hr h => ⟨t__law_harmed K E, pss_cons (ps_if (pt_cmpR (op_eqA hr) (pv 1) (pe_str) (nomark _)) (pss_one (ps_ret (pe_bl))) (pss_nil)) (pss_cons (ps_if (pt_cmpR (op_eqA hr) (pv 1) (pe_str) (nomark _)) (pss_one (ps_ret (pe_not (pe_cl c__law_sound hr (by decide) (pat_of (W := fun cls d _ H => E cls d H) (L2N.takes_of rfl rfl rfl rfl)) (pa_cons (pv 0) (pa_nil)))))) (pss_nil)) (pss_cons (ps_if (pt_tr (pe_cl c__law_lost hr (by decide) (pat_of (W := fun cls d _ H => E cls d H) (L2N.takes_of rfl rfl rfl rfl)) (pa_cons (pv 0) (pa_nil))) (by intro _; rfl)) (pss_one (ps_ret (pe_bl))) (pss_nil)) (pss_one (ps_ret (pe_and (pe_cmpR (op_eqA hr) (pv 1) (pe_str) (nomark _)) (pe_one (pe_cmpR (op_neA hr) (pe_lc (own := [("node", 2)]) (g := gName 2) (tt := tNot (tB (tOp (rIx K) (tOp (rIx K) (tVar 0) (tC (.int 3))) (tVar 2)))) (te := tVar 2) rfl sc__law_harmed.nd (pi_list (pe_cl c__law_holders hr (by decide) (pat_of (W := fun cls d _ H => E cls d H) (L2N.takes_of rfl rfl rfl rfl)) (pa_cons (pv 0) (pa_nil)))) (blkOk_by (own := [("node", 2)]) (N := ["book", "word", "node"]) (sc := defScope s__law_harmed) (by decide +kernel)) (fun _ _ _ _ _ => pg_name (i := 2) sc__law_harmed.nd rfl (by first | exact Or.inl rfl | exact Or.inr rfl)) (fun _ _ _ _ _ => pts_one (pt_not (pt_val (pe_ix ix_seq (pe_ix ix_seq (pv 0) (pe_int) (fun _ _ => rfl)) (pv 2) (fun _ _ => rfl))))) (fun _ _ _ _ _ => pv 2)) (pe_lst (pa_nil)) (nomark _)))))))), rd__law_harmed T vs H Q E h⟩
theorem ok__law_moved {f : Addr} {fd : FuncData} (T : Txt K mg) (F : FunD K "_law_moved" "_law_moved" (defArgs s__law_moved) (defBody s__law_moved) (defScope s__law_moved) [] [] f fd)  : FnOk P w K mg base (L2N.CX P w) 1 f fd ["book", "node"] (sp13__law_moved K) :=
  F.ok sc__law_moved (len__law_moved K) fun cdv A outer s H vs Q E hr h => ⟨t__law_moved K E, pss_cons (ps_set (i := 2) sc__law_moved.nd rfl (by first | exact Or.inl rfl | exact Or.inr rfl) (pe_callTy call_listA (by rfl) T.b_list (by decide +kernel) (pa_cons (pe_ix ix_seq (pv 0) (pe_int) (fun _ _ => rfl)) (pa_nil)))) (pss_cons (ps_set (i := 3) sc__law_moved.nd rfl (by first | exact Or.inl rfl | exact Or.inr rfl) (pe_callTy call_listA (by rfl) T.b_list (by decide +kernel) (pa_cons (pe_ix ix_seq (pv 0) (pe_int) (fun _ _ => rfl)) (pa_nil)))) (pss_cons (ps_set (i := 4) sc__law_moved.nd rfl (by first | exact Or.inl rfl | exact Or.inr rfl) (pe_callTy call_listA (by rfl) T.b_list (by decide +kernel) (pa_cons (pe_ix ix_seq (pv 0) (pe_int) (fun _ _ => rfl)) (pa_nil)))) (pss_cons (ps_set (i := 5) sc__law_moved.nd rfl (by first | exact Or.inl rfl | exact Or.inr rfl) (pe_ix ix_seq (pv 2) (pv 1) (fun _ _ => rfl))) (pss_cons (ps_set (i := 6) sc__law_moved.nd rfl (by first | exact Or.inl rfl | exact Or.inr rfl) (pe_ix ix_seq (pv 3) (pv 1) (fun _ _ => rfl))) (pss_cons (ps_if (pt_val (pe_ix ix_seq (pv 4) (pv 1) (fun _ _ => rfl))) (pss_cons (ps_asg (pv 1) (pg_sub (pv 3) (pv 5) set_list)) (pss_one (ps_asg (pv 1) (pg_sub (pv 2) (pv 6) set_list)))) (pss_cons (ps_asg (pv 6) (pg_sub (pv 3) (pv 5) set_list)) (pss_one (ps_asg (pv 5) (pg_sub (pv 2) (pv 6) set_list))))) (pss_cons (ps_asg (pe_not (pe_ix ix_seq (pv 4) (pv 1) (fun _ _ => rfl))) (pg_sub (pv 4) (pv 1) set_list)) (pss_one (ps_ret (pe_lst (pa_cons (pe_ix ix_seq (pv 0) (pe_int) (fun _ _ => rfl)) (pa_cons (pv 2) (pa_cons (pv 3) (pa_cons (pv 4) (pa_nil)))))))))))))), rd__law_moved T vs H Q E h⟩
theorem ok__law_good {f : Addr} {fd : FuncData} (T : Txt K mg) (F : FunD K "_law_good" "_law_good" (defArgs s__law_good) (defBody s__law_good) (defScope s__law_good) [] [] f fd) (c__law_harmed : Cal P w K mg base 2 "_law_harmed" ["book", "word"] (sp13__law_harmed K)) (c__law_moved : Cal P w K mg base 1 "_law_moved" ["book", "node"] (sp13__law_moved K)) : FnOk P w K mg base (L2N.CX P w) 3 f fd ["book", "word", "nodes"] (sp13__law_good K) :=
  F.ok sc__law_good (len__law_good K) fun cdv A outer s H vs Q E hr h => ⟨t__law_good K E, pss_one (ps_ret (pe_lc (own := [("node", 3)]) (g := gName 3) (tt := tNot (tB (tCl (sp13__law_harmed K) (fun _ => E0) (tCons (tCl (sp13__law_moved K) (fun _ => E0) (tCons (tVar 0) (tCons (tVar 3) (tNil)))) (tCons (tVar 1) (tNil)))))) (te := tVar 3) rfl sc__law_good.nd (pi_list (pv 2)) (blkOk_by (own := [("node", 3)]) (N := ["book", "word", "nodes", "node"]) (sc := defScope s__law_good) (by decide +kernel)) (fun _ _ _ _ _ => pg_name (i := 3) sc__law_good.nd rfl (by first | exact Or.inl rfl | exact Or.inr rfl)) (fun _ _ _ _ _ => pts_one (pt_not (pt_val (pe_cl c__law_harmed hr (by decide) (pat_no) (pa_cons (pe_cl c__law_moved hr (by decide) (pat_no) (pa_cons (pv 0) (pa_cons (pv 3) (pa_nil)))) (pa_cons (pv 1) (pa_nil))))))) (fun _ _ _ _ _ => pv 3))), rd__law_good T vs H Q E h⟩
theorem ok_Links_outs {f : Addr} {fd : FuncData} (T : Txt K mg) (F : FunD K "outs" "Links.outs" (defArgs s_Links_outs) (defBody s_Links_outs) (defScope s_Links_outs) [] [] f fd)  : FnOk P w K mg base (L2N.CX P w) 1 f fd ["self"] (sp_Links_outs K) :=
  F.ok sc_Links_outs (len_Links_outs K) fun cdv A outer s H vs Q E hr h => ⟨t_Links_outs K E, pss_one (ps_ret (pe_lc (own := [("node", 1)]) (g := gName 1) (tt := tB (tOp (rIx K) (tFld K (tVar 0) "_out") (tVar 1))) (te := tVar 1) rfl sc_Links_outs.nd (pi_range2 rfl T.b_range (pa_cons (pe_int) (pa_cons (pe_op op_addA (pe_fld (pv 0) rfl) (pe_int)) (pa_nil)))) (blkOk_by (own := [("node", 1)]) (N := ["self", "node"]) (sc := defScope s_Links_outs) (by decide +kernel)) (fun _ _ _ _ _ => pg_name (i := 1) sc_Links_outs.nd rfl (by first | exact Or.inl rfl | exact Or.inr rfl)) (fun _ _ _ _ _ => pts_one (pt_val (pe_ix ix_seq (pe_fld (pv 0) rfl) (pv 1) (fun _ _ => rfl)))) (fun _ _ _ _ _ => pv 1))), rd_Links_outs T vs H Q E h⟩
theorem ok__joined {f : Addr} {fd : FuncData} (T : Txt K mg) (F : FunD K "_joined" "_joined" (defArgs s__joined) (defBody s__joined) (defScope s__joined) [] [] f fd)  : FnOk P w K mg base (L2N.CX P w) 1 f fd ["numbers"] (sp__joined K) :=
  F.ok sc__joined (len__joined K) fun cdv A outer s H vs Q E hr h => ⟨t__joined K E, pss_one (ps_ret (pe_joinA (pe_str) (pe_lc (own := [("number", 1)]) (g := gName 1) (tt := tYes) (te := tCB rStrA (tCons (tVar 1) (tNil))) rfl sc__joined.nd (pi_list (pv 0)) (blkOk_by (own := [("number", 1)]) (N := ["numbers", "number"]) (sc := defScope s__joined) (by decide +kernel)) (fun _ _ _ _ _ => pg_name (i := 1) sc__joined.nd rfl (by first | exact Or.inl rfl | exact Or.inr rfl)) (fun _ _ _ _ _ => pts_nil) (fun _ _ _ _ _ => pe_callTy call_strA (by rfl) T.b_str (by decide +kernel) (pa_cons (pv 1) (pa_nil)))))), rd__joined T vs H Q E h⟩
theorem ok_dump_of {f : Addr} {fd : FuncData} (T : Txt K mg) (F : FunD K "dump_of" "dump_of" (defArgs s_dump_of) (defBody s_dump_of) (defScope s_dump_of) [] [] f fd) (c__joined : Cal P w K mg base 1 "_joined" ["numbers"] (sp__joined K)) : FnOk P w K mg base (L2N.CX P w) 2 f fd ["rights", "lefts", "outs"] (sp_dump_of K) :=
  F.ok sc_dump_of (len_dump_of K) fun cdv A outer s H vs Q E hr h => ⟨t_dump_of K E, pss_one (ps_ret (pe_joinA (pe_str) (pe_lst (pa_cons (pe_cl c__joined hr (by decide) (pat_of (W := fun cls d _ H => E cls d H) (L2N.takes_of rfl rfl rfl rfl)) (pa_cons (pv 0) (pa_nil))) (pa_cons (pe_cl c__joined hr (by decide) (pat_of (W := fun cls d _ H => E cls d H) (L2N.takes_of rfl rfl rfl rfl)) (pa_cons (pv 1) (pa_nil))) (pa_cons (pe_ifExp (pt_tr (pv 2) (by intro _; rfl)) (pe_cl c__joined hr (by decide) (pat_of (W := fun cls d _ H => E cls d H) (L2N.takes_of rfl rfl rfl rfl)) (pa_cons (pv 2) (pa_nil))) (pe_str)) (pa_nil))))))), rd_dump_of T vs H Q E h⟩
theorem ok_Links_dump {f : Addr} {fd : FuncData} (T : Txt K mg) (F : FunD K "dump" "Links.dump" (defArgs s_Links_dump) (defBody s_Links_dump) (defScope s_Links_dump) [] [] f fd) (c_Links_outs : Met P w K mg base 1 (He.ga K "Links") "outs" ["self"] (sp_Links_outs K)) (c_dump_of : Cal P w K mg base 2 "dump_of" ["rights", "lefts", "outs"] (sp_dump_of K)) : FnOk P w K mg base (L2N.CX P w) 3 f fd ["self"] (sp_Links_dump K) :=
  F.ok sc_Links_dump (len_Links_dump K) fun cdv A outer s H vs Q E hr h => ⟨t_Links_dump K E, pss_one (ps_ret (pe_cl c_dump_of hr (by decide) (pat_of (W := fun cls d _ H => E cls d H) (L2N.takes_of rfl rfl rfl rfl)) (pa_cons (pe_fld (pv 0) rfl) (pa_cons (pe_slice sl_list (pe_fld (pv 0) rfl) (po_some (pe_int)) (po_none)) (pa_cons (pe_mt0 c_Links_outs T.cl_Links hr (by decide) (pat_of (W := fun cls d _ H => E cls d H) (L2N.takes_of rfl rfl rfl rfl)) (pv 0)) (pa_nil)))))), rd_Links_dump T vs H Q E h⟩
theorem ok_Links_is_sound {f : Addr} {fd : FuncData} (T : Txt K mg) (F : FunD K "is_sound" "Links.is_sound" (defArgs s_Links_is_sound) (defBody s_Links_is_sound) (defScope s_Links_is_sound) [] [] f fd)  : FnOk P w K mg base (L2N.CX P w) 1 f fd ["self"] (sp04_Links_is_sound K) :=
  F.ok sc_Links_is_sound (len_Links_is_sound K) fun cdv A outer s H vs Q E hr h => ⟨t_Links_is_sound K E, pss_cons (ps_setLc (i := 1) (own := [("node", 2)]) (g := gName 2) (tt := tNot (tB (tOp (rIx K) (tFld K (tVar 0) "_out") (tVar 2)))) (te := tVar 2) rfl sc_Links_is_sound.nd rfl rfl (sw_true rfl rfl rfl (by decide +kernel)) (pi_range1 rfl T.b_range (pa_cons (pe_op op_addA (pe_fld (pv 0) rfl) (pe_int)) (pa_nil))) (blkOk_by (own := [("node", 2)]) (N := ["self", "present", "node", "low", "high"]) (sc := defScope s_Links_is_sound) (by decide +kernel)) (fun _ _ _ _ _ => pg_name (i := 2) sc_Links_is_sound.nd rfl (by first | exact Or.inl rfl | exact Or.inr rfl)) (fun _ _ _ _ _ => pts_one (pt_not (pt_val (pe_ix ix_seq (pe_fld (pv 0) rfl) (pv 2) (fun _ _ => rfl))))) (fun _ _ _ _ _ => pv 2)) (pss_one (ps_ret (pe_callB (cr_all rfl) (by rfl) T.b_all (by decide +kernel) (pa_cons (pe_lc (own := [("low", 3), ("high", 4)]) (g := gTup K 2 (gCons (gName 3) (gCons (gName 4) (gNil)))) (tt := tYes) (te := tAndV (tOp (rEqA K) (tOp (rIx K) (tFld K (tVar 0) "_rights") (tVar 3)) (tVar 4)) (tOp (rEqA K) (tOp (rIx K) (tFld K (tVar 0) "_lefts") (tVar 4)) (tVar 3))) rfl sc_Links_is_sound.nd (pi_zip (by rfl) T.b_zip (pa_cons (pv 1) (pa_cons (pe_slice sl_list (pv 1) (po_some (pe_int)) (po_none)) (pa_nil)))) (blkOk_by (own := [("low", 3), ("high", 4)]) (N := ["self", "present", "node", "low", "high"]) (sc := defScope s_Links_is_sound) (by decide +kernel)) (fun _ _ _ _ _ => pg_tup (by rfl) (pgs_cons (pg_name (i := 3) sc_Links_is_sound.nd rfl (by first | exact Or.inl rfl | exact Or.inr rfl)) (pgs_cons (pg_name (i := 4) sc_Links_is_sound.nd rfl (by first | exact Or.inl rfl | exact Or.inr rfl)) (pgs_nil)))) (fun _ _ _ _ _ => pts_nil) (fun _ _ _ _ _ => pe_and (pe_cmpR (op_eqA hr) (pe_ix ix_seq (pe_fld (pv 0) rfl) (pv 3) (fun _ _ => rfl)) (pv 4) (nomark _)) (pe_one (pe_cmpR (op_eqA hr) (pe_ix ix_seq (pe_fld (pv 0) rfl) (pv 4) (fun _ _ => rfl)) (pv 3) (nomark _))))) (pa_nil))))), rd_Links_is_sound T vs H Q E h⟩
theorem ok__law_dump {f : Addr} {fd : FuncData} (T : Txt K mg) (F : FunD K "_law_dump" "_law_dump" (defArgs s__law_dump) (defBody s__law_dump) (defScope s__law_dump) [] [] f fd)  : FnOk P w K mg base (L2N.CX P w) 1 f fd ["book"] (sp13__law_dump K) :=
  F.ok sc__law_dump (len__law_dump K) fun cdv A outer s H vs Q E hr h => ⟨t__law_dump K E, pss_cons (ps_set (i := 1) sc__law_dump.nd rfl (by first | exact Or.inl rfl | exact Or.inr rfl) (pe_ix ix_seq (pv 0) (pe_int) (fun _ _ => rfl))) (pss_cons (ps_set (i := 2) sc__law_dump.nd rfl (by first | exact Or.inl rfl | exact Or.inr rfl) (pe_joinA (pe_str) (pe_lc (own := [("link", 6)]) (g := gName 6) (tt := tYes) (te := tCB rStrA (tCons (tVar 6) (tNil))) rfl sc__law_dump.nd (pi_list (pe_slice sl_list (pe_ix ix_seq (pv 0) (pe_int) (fun _ _ => rfl)) (po_none) (po_some (pe_op op_addA (pv 1) (pe_int))))) (blkOk_by (own := [("link", 6)]) (N := ["book", "size", "first", "second", "outs", "third", "link", "node"]) (sc := defScope s__law_dump) (by decide +kernel)) (fun _ _ _ _ _ => pg_name (i := 6) sc__law_dump.nd rfl (by first | exact Or.inl rfl | exact Or.inr rfl)) (fun _ _ _ _ _ => pts_nil) (fun _ _ _ _ _ => pe_callTy call_strA (by rfl) T.b_str (by decide +kernel) (pa_cons (pv 6) (pa_nil)))))) (pss_cons (ps_set (i := 3) sc__law_dump.nd rfl (by first | exact Or.inl rfl | exact Or.inr rfl) (pe_joinA (pe_str) (pe_lc (own := [("link", 6)]) (g := gName 6) (tt := tYes) (te := tCB rStrA (tCons (tVar 6) (tNil))) rfl sc__law_dump.nd (pi_list (pe_slice sl_list (pe_ix ix_seq (pv 0) (pe_int) (fun _ _ => rfl)) (po_some (pe_int)) (po_none))) (blkOk_by (own := [("link", 6)]) (N := ["book", "size", "first", "second", "outs", "third", "link", "node"]) (sc := defScope s__law_dump) (by decide +kernel)) (fun _ _ _ _ _ => pg_name (i := 6) sc__law_dump.nd rfl (by first | exact Or.inl rfl | exact Or.inr rfl)) (fun _ _ _ _ _ => pts_nil) (fun _ _ _ _ _ => pe_callTy call_strA (by rfl) T.b_str (by decide +kernel) (pa_cons (pv 6) (pa_nil)))))) (pss_cons (ps_setLc (i := 4) (own := [("node", 7)]) (g := gName 7) (tt := tB (tOp (rIx K) (tOp (rIx K) (tVar 0) (tC (.int 3))) (tVar 7))) (te := tCB rStrA (tCons (tVar 7) (tNil))) rfl sc__law_dump.nd rfl rfl (sw_true rfl rfl rfl (by decide +kernel)) (pi_range2 rfl T.b_range (pa_cons (pe_int) (pa_cons (pe_op op_addA (pv 1) (pe_int)) (pa_nil)))) (blkOk_by (own := [("node", 7)]) (N := ["book", "size", "first", "second", "outs", "third", "link", "node"]) (sc := defScope s__law_dump) (by decide +kernel)) (fun _ _ _ _ _ => pg_name (i := 7) sc__law_dump.nd rfl (by first | exact Or.inl rfl | exact Or.inr rfl)) (fun _ _ _ _ _ => pts_one (pt_val (pe_ix ix_seq (pe_ix ix_seq (pv 0) (pe_int) (fun _ _ => rfl)) (pv 7) (fun _ _ => rfl)))) (fun _ _ _ _ _ => pe_callTy call_strA (by rfl) T.b_str (by decide +kernel) (pa_cons (pv 7) (pa_nil)))) (pss_cons (ps_set (i := 5) sc__law_dump.nd rfl (by first | exact Or.inl rfl | exact Or.inr rfl) (pe_str)) (pss_cons (ps_if (pt_tr (pv 4) (by intro _; rfl)) (pss_one (ps_set (i := 5) sc__law_dump.nd rfl (by first | exact Or.inl rfl | exact Or.inr rfl) (pe_joinA (pe_str) (pv 4)))) (pss_nil)) (pss_one (ps_ret (pe_op op_addA (pe_op op_addA (pe_op op_addA (pe_op op_addA (pv 2) (pe_str)) (pv 3)) (pe_str)) (pv 5))))))))), rd__law_dump T vs H Q E h⟩
theorem ok__law_is {f : Addr} {fd : FuncData} (T : Txt K mg) (F : FunD K "_law_is" "_law_is" (defArgs s__law_is) (defBody s__law_is) (defScope s__law_is) [] [] f fd)  : FnOk P w K mg base (L2N.CX P w) 1 f fd ["told", "due"] (sp13__law_is K) :=
  F.ok sc__law_is (len__law_is K) fun cdv A outer s H vs Q E hr h => ⟨t__law_is K E, pss_one (ps_ret (pe_and (pe_callB call_isi (by rfl) T.b_isinstance (by decide +kernel) (pa_cons (pv 0) (pa_cons (pe_ty "int" T.b_int (by decide +kernel)) (pa_nil)))) (pe_and (pe_not (pe_callB call_isi (by rfl) T.b_isinstance (by decide +kernel) (pa_cons (pv 0) (pa_cons (pe_ty "bool" T.b_bool (by decide +kernel)) (pa_nil))))) (pe_one (pe_cmpR (op_eqA hr) (pv 0) (pv 1) (nomark _)))))), rd__law_is T vs H Q E h⟩
theorem ok__law_ints {f : Addr} {fd : FuncData} (T : Txt K mg) (F : FunD K "_law_ints" "_law_ints" (defArgs s__law_ints) (defBody s__law_ints) (defScope s__law_ints) [] [] f fd) (c__law_is : Cal P w K mg base 1 "_law_is" ["told", "due"] (sp13__law_is K)) : FnOk P w K mg base (L2N.CX P w) 2 f fd ["told", "due"] (sp13__law_ints K) :=
  F.ok sc__law_ints (len__law_ints K) fun cdv A outer s H vs Q E hr h => ⟨t__law_ints K E, pss_cons (ps_if ((pw_or (pt_not (pt_val (pe_callB call_isi (by rfl) T.b_isinstance (by decide +kernel) (pa_cons (pv 0) (pa_cons (pe_ty "list" T.b_list (by decide +kernel)) (pa_nil)))))) (pw_or1 (pt_cmpR (op_neA hr) (pe_callB call_lenA (by rfl) T.b_len (by decide +kernel) (pa_cons (pv 0) (pa_nil))) (pe_callB call_lenA (by rfl) T.b_len (by decide +kernel) (pa_cons (pv 1) (pa_nil))) (nomark _)))).pt) (pss_one (ps_ret (pe_bl))) (pss_nil)) (pss_cons (ps_for (passes_of rfl) rfl (pi_range1 rfl T.b_range (pa_cons (pe_callB call_lenA (by rfl) T.b_len (by decide +kernel) (pa_cons (pv 1) (pa_nil))) (pa_nil))) (pg_name (i := 2) sc__law_ints.nd rfl (by first | exact Or.inl rfl | exact Or.inr rfl)) (pss_one (ps_if (pt_not (pt_val (pe_cl c__law_is hr (by decide) (pat_of (W := fun cls d _ H => E cls d H) (L2N.takes_of rfl rfl rfl rfl)) (pa_cons (pe_ix ix_seq (pv 0) (pv 2) (fun _ _ => rfl)) (pa_cons (pe_ix ix_seq (pv 1) (pv 2) (fun _ _ => rfl)) (pa_nil)))))) (pss_one (ps_ret (pe_bl))) (pss_nil)))) (pss_one (ps_ret (pe_bl)))), rd__law_ints T vs H Q E h⟩
theorem ok__law_truth {f : Addr} {fd : FuncData} (T : Txt K mg) (F : FunD K "_law_truth" "_law_truth" (defArgs s__law_truth) (defBody s__law_truth) (defScope s__law_truth) [] [] f fd)  : FnOk P w K mg base (L2N.CX P w) 1 f fd ["told", "due"] (sp13__law_truth K) :=
  F.ok sc__law_truth (len__law_truth K) fun cdv A outer s H vs Q E hr h => ⟨t__law_truth K E, pss_cons (ps_if (pt_val (pv 1)) (pss_one (ps_ret (pe_cmpR op_isB (pv 0) (pe_bl) (nomark _)))) (pss_nil)) (pss_one (ps_ret (pe_cmpR op_isB (pv 0) (pe_bl) (nomark _)))), rd__law_truth T vs H Q E h⟩
theorem ok__law_whole {f : Addr} {fd : FuncData} (T : Txt K mg) (F : FunD K "_law_whole" "_law_whole" (defArgs s__law_whole) (defBody s__law_whole) (defScope s__law_whole) [] [] f fd)  : FnOk P w K mg base (L2N.CX P w) 1 f fd ["size"] (sp13__law_whole K) :=
  F.ok sc__law_whole (len__law_whole K) fun cdv A outer s H vs Q E hr h => ⟨t__law_whole K E, pss_cons (ps_setLc (i := 1) (own := [("node", 3)]) (g := gName 3) (tt := tYes) (te := tOp rSubA (tVar 3) (tC (.int 1))) rfl sc__law_whole.nd rfl rfl (sw_true rfl rfl rfl (by decide +kernel)) (pi_range1 rfl T.b_range (pa_cons (pe_op op_addA (pv 0) (pe_int)) (pa_nil))) (blkOk_by (own := [("node", 3)]) (N := ["size", "lefts", "rights", "node"]) (sc := defScope s__law_whole) (by decide +kernel)) (fun _ _ _ _ _ => pg_name (i := 3) sc__law_whole.nd rfl (by first | exact Or.inl rfl | exact Or.inr rfl)) (fun _ _ _ _ _ => pts_nil) (fun _ _ _ _ _ => pe_op op_sub (pv 3) (pe_int))) (pss_cons (ps_setLc (i := 2) (own := [("node", 3)]) (g := gName 3) (tt := tYes) (te := tOp rAddA (tVar 3) (tC (.int 1))) rfl sc__law_whole.nd rfl rfl (sw_true rfl rfl rfl (by decide +kernel)) (pi_range1 rfl T.b_range (pa_cons (pe_op op_addA (pv 0) (pe_int)) (pa_nil))) (blkOk_by (own := [("node", 3)]) (N := ["size", "lefts", "rights", "node"]) (sc := defScope s__law_whole) (by decide +kernel)) (fun _ _ _ _ _ => pg_name (i := 3) sc__law_whole.nd rfl (by first | exact Or.inl rfl | exact Or.inr rfl)) (fun _ _ _ _ _ => pts_nil) (fun _ _ _ _ _ => pe_op op_addA (pv 3) (pe_int))) (pss_one (ps_ret (pe_lst (pa_cons (pv 0) (pa_cons (pv 1) (pa_cons (pv 2) (pa_cons (pe_lc (own := [("node", 3)]) (g := gName 3) (tt := tYes) (te := tC (.bl false)) rfl sc__law_whole.nd (pi_range1 rfl T.b_range (pa_cons (pe_op op_addA (pv 0) (pe_int)) (pa_nil))) (blkOk_by (own := [("node", 3)]) (N := ["size", "lefts", "rights", "node"]) (sc := defScope s__law_whole) (by decide +kernel)) (fun _ _ _ _ _ => pg_name (i := 3) sc__law_whole.nd rfl (by first | exact Or.inl rfl | exact Or.inr rfl)) (fun _ _ _ _ _ => pts_nil) (fun _ _ _ _ _ => pe_bl)) (pa_nil))))))))), rd__law_whole T vs H Q E h⟩
theorem ok_Links_left {f : Addr} {fd : FuncData} (T : Txt K mg) (F : FunD K "left" "Links.left" (defArgs s_Links_left) (defBody s_Links_left) (defScope s_Links_left) [] [] f fd) (x_BadNode : ExM P w K mg base 1 "BadNode" (He.ga K "BadNode") ["node"]) : FnOk P w K mg base (L2N.CX P w) 3 f fd ["self", "node"] (sp_Links_left K) :=
  F.ok sc_Links_left (len_Links_left K) fun cdv A outer s H vs Q E hr h => ⟨t_Links_left K E, pss_cons (ps_if (pt_not (pt_chain op_le op_le (pe_int) (pv 1) (pe_op op_addA (pe_fld (pv 0) rfl) (pe_int)))) (pss_one (ps_rz x_BadNode rfl (L2N.takes_of rfl rfl rfl rfl) hr (by decide) (pa_cons (pv 1) (pa_nil)))) (pss_nil)) (pss_one (ps_ret (pe_ix ix_seq (pe_fld (pv 0) rfl) (pv 1) (fun _ _ => rfl)))), rd_Links_left T vs H Q E h⟩
theorem ok_Links_right {f : Addr} {fd : FuncData} (T : Txt K mg) (F : FunD K "right" "Links.right" (defArgs s_Links_right) (defBody s_Links_right) (defScope s_Links_right) [] [] f fd) (x_BadNode : ExM P w K mg base 1 "BadNode" (He.ga K "BadNode") ["node"]) : FnOk P w K mg base (L2N.CX P w) 3 f fd ["self", "node"] (sp_Links_right K) :=
  F.ok sc_Links_right (len_Links_right K) fun cdv A outer s H vs Q E hr h => ⟨t_Links_right K E, pss_cons (ps_if (pt_not (pt_chain op_le op_le (pe_int) (pv 1) (pe_fld (pv 0) rfl))) (pss_one (ps_rz x_BadNode rfl (L2N.takes_of rfl rfl rfl rfl) hr (by decide) (pa_cons (pv 1) (pa_nil)))) (pss_nil)) (pss_one (ps_ret (pe_ix ix_seq (pe_fld (pv 0) rfl) (pv 1) (fun _ _ => rfl)))), rd_Links_right T vs H Q E h⟩
theorem ok_check_gap {f : Addr} {fd : FuncData} (T : Txt K mg) (F : FunD K "check_gap" "check_gap" (defArgs s_check_gap) (defBody s_check_gap) (defScope s_check_gap) [] [] f fd) (x_BadGap : ExM P w K mg base 1 "BadGap" (He.ga K "BadGap") ["gap"]) : FnOk P w K mg base (L2N.CX P w) 3 f fd ["size", "gap"] (sp_check_gap K) :=
  F.ok sc_check_gap (len_check_gap K) fun cdv A outer s H vs Q E hr h => ⟨t_check_gap K E, pss_one (ps_if (pt_not (pt_chain op_le op_le (pe_int) (pv 1) (pv 0))) (pss_one (ps_rz x_BadGap rfl (L2N.takes_of rfl rfl rfl rfl) hr (by decide) (pa_cons (pv 1) (pa_nil)))) (pss_nil)), rd_check_gap T vs H Q E h⟩
theorem ok_gap_state {f : Addr} {fd : FuncData} (T : Txt K mg) (F : FunD K "gap_state" "gap_state" (defArgs s_gap_state) (defBody s_gap_state) (defScope s_gap_state) [] [] f fd) (c_Links_left : Met P w K mg base 3 (He.ga K "Links") "left" ["self", "node"] (sp_Links_left K)) (c_Links_right : Met P w K mg base 3 (He.ga K "Links") "right" ["self", "node"] (sp_Links_right K)) (c_check_gap : Cal P w K mg base 3 "check_gap" ["size", "gap"] (sp_check_gap K)) : FnOk P w K mg base (L2N.CX P w) 4 f fd ["links", "gap"] (sp_gap_state K) :=
  F.ok sc_gap_state (len_gap_state K) fun cdv A outer s H vs Q E hr h => ⟨t_gap_state K E, pss_cons (ps_expr (pe_cl c_check_gap hr (by decide) (pat_of (W := fun cls d _ H => E cls d H) (L2N.takes_of rfl rfl rfl rfl)) (pa_cons (pe_fld (pv 0) rfl) (pa_cons (pv 1) (pa_nil))))) (pss_cons (ps_set (i := 2) sc_gap_state.nd rfl (by first | exact Or.inl rfl | exact Or.inr rfl) (pe_cmpR (op_eqA hr) (pe_mt c_Links_right T.cl_Links hr (by decide) (pat_of (W := fun cls d _ H => E cls d H) (L2N.takes_of rfl rfl rfl rfl)) (pv 0) (pa_cons (pv 1) (pa_nil))) (pe_op op_addA (pv 1) (pe_int)) (nomark _))) (pss_cons (ps_set (i := 3) sc_gap_state.nd rfl (by first | exact Or.inl rfl | exact Or.inr rfl) (pe_cmpR (op_eqA hr) (pe_mt c_Links_left T.cl_Links hr (by decide) (pat_of (W := fun cls d _ H => E cls d H) (L2N.takes_of rfl rfl rfl rfl)) (pv 0) (pa_cons (pe_op op_addA (pv 1) (pe_int)) (pa_nil))) (pv 1) (nomark _))) (pss_cons (ps_if (pt_val (pv 2)) (pss_one (ps_ret (pe_ifExp (pt_val (pv 3)) (pe_str) (pe_str)))) (pss_nil)) (pss_one (ps_ret (pe_ifExp (pt_val (pv 3)) (pe_str) (pe_str))))))), rd_gap_state T vs H Q E h⟩
theorem ok_gap_states {f : Addr} {fd : FuncData} (T : Txt K mg) (F : FunD K "gap_states" "gap_states" (defArgs s_gap_states) (defBody s_gap_states) (defScope s_gap_states) [] [] f fd) (c_gap_state : Cal P w K mg base 4 "gap_state" ["links", "gap"] (sp_gap_state K)) : FnOk P w K mg base (L2N.CX P w) 5 f fd ["links"] (sp_gap_states K) :=
  F.ok sc_gap_states (len_gap_states K) fun cdv A outer s H vs Q E hr h => ⟨t_gap_states K E, pss_one (ps_ret (pe_lc (own := [("gap", 1)]) (g := gName 1) (tt := tYes) (te := tCl (sp_gap_state K) (fun _ => E0) (tCons (tVar 0) (tCons (tVar 1) (tNil)))) rfl sc_gap_states.nd (pi_range1 rfl T.b_range (pa_cons (pe_op op_addA (pe_fld (pv 0) rfl) (pe_int)) (pa_nil))) (blkOk_by (own := [("gap", 1)]) (N := ["links", "gap"]) (sc := defScope s_gap_states) (by decide +kernel)) (fun _ _ _ _ _ => pg_name (i := 1) sc_gap_states.nd rfl (by first | exact Or.inl rfl | exact Or.inr rfl)) (fun _ _ _ _ _ => pts_nil) (fun _ _ _ _ _ => pe_cl c_gap_state hr (by decide) (pat_no) (pa_cons (pv 0) (pa_cons (pv 1) (pa_nil)))))), rd_gap_states T vs H Q E h⟩
theorem ok_lost_gaps {f : Addr} {fd : FuncData} (T : Txt K mg) (F : FunD K "lost_gaps" "lost_gaps" (defArgs s_lost_gaps) (defBody s_lost_gaps) (defScope s_lost_gaps) [] [] f fd) (c_gap_states : Cal P w K mg base 5 "gap_states" ["links"] (sp_gap_states K)) : FnOk P w K mg base (L2N.CX P w) 6 f fd ["links"] (sp_lost_gaps K) :=
  F.ok sc_lost_gaps (len_lost_gaps K) fun cdv A outer s H vs Q E hr h => ⟨t_lost_gaps K E, pss_one (ps_ret (pe_lc (own := [("gap", 1), ("state", 2)]) (g := gTup K 2 (gCons (gName 1) (gCons (gName 2) (gNil)))) (tt := tTest (tOp (rEqA K) (tVar 2) (tC (.str "lost")))) (te := tVar 1) rfl sc_lost_gaps.nd (pi_enum (by rfl) T.b_enumerate (pa_cons (pe_cl c_gap_states hr (by decide) (pat_of (W := fun cls d _ H => E cls d H) (L2N.takes_of rfl rfl rfl rfl)) (pa_cons (pv 0) (pa_nil))) (pa_nil))) (blkOk_by (own := [("gap", 1), ("state", 2)]) (N := ["links", "gap", "state"]) (sc := defScope s_lost_gaps) (by decide +kernel)) (fun _ _ _ _ _ => pg_tup (by rfl) (pgs_cons (pg_name (i := 1) sc_lost_gaps.nd rfl (by first | exact Or.inl rfl | exact Or.inr rfl)) (pgs_cons (pg_name (i := 2) sc_lost_gaps.nd rfl (by first | exact Or.inl rfl | exact Or.inr rfl)) (pgs_nil)))) (fun _ _ _ _ _ => pts_one (pt_cmpR (op_eqA hr) (pv 2) (pe_str) (nomark _))) (fun _ _ _ _ _ => pv 1))), rd_lost_gaps T vs H Q E h⟩
theorem ok_sole_holders {f : Addr} {fd : FuncData} (T : Txt K mg) (F : FunD K "sole_holders" "sole_holders" (defArgs s_sole_holders) (defBody s_sole_holders) (defScope s_sole_holders) [] [] f fd) (c_gap_states : Cal P w K mg base 5 "gap_states" ["links"] (sp_gap_states K)) : FnOk P w K mg base (L2N.CX P w) 6 f fd ["links"] (sp_sole_holders K) :=
  F.ok sc_sole_holders (len_sole_holders K) fun cdv A outer s H vs Q E hr h => ⟨t_sole_holders K w E, pss_cons (ps_set (i := 1) sc_sole_holders.nd rfl (by first | exact Or.inl rfl | exact Or.inr rfl) (pe_callTy0 cr_set0 (by rfl) T.b_set (by decide +kernel))) (pss_cons (ps_for (passes_of rfl) rfl (pi_enum (by rfl) T.b_enumerate (pa_cons (pe_cl c_gap_states hr (by decide) (pat_of (W := fun cls d _ H => E cls d H) (L2N.takes_of rfl rfl rfl rfl)) (pa_cons (pv 0) (pa_nil))) (pa_nil))) (pg_tup (by rfl) (pgs_cons (pg_name (i := 2) sc_sole_holders.nd rfl (by first | exact Or.inl rfl | exact Or.inr rfl)) (pgs_cons (pg_name (i := 3) sc_sole_holders.nd rfl (by first | exact Or.inl rfl | exact Or.inr rfl)) (pgs_nil)))) (pss_one (ps_if (pt_cmpR op_in_seq (pv 3) (pe_tup (pa_cons (pe_str) (pa_cons (pe_str) (pa_nil)))) (rfl)) (pss_one (ps_expr (pe_sadd (pv 1) (pa_cons (pe_ifExp (pt_cmpR (op_eqA hr) (pv 3) (pe_str) (nomark _)) (pv 2) (pe_op op_addA (pv 2) (pe_int))) (pa_nil))))) (pss_nil)))) (pss_one (ps_ret (pe_callB (cr_sortedSet rfl) (by rfl) T.b_sorted (by decide +kernel) (pa_cons (pv 1) (pa_nil)))))), rd_sole_holders w T vs H Q E h⟩
theorem ok__law_judged {f : Addr} {fd : FuncData} (T : Txt K mg) (F : FunD K "_law_judged" "_law_judged" (defArgs s__law_judged) (defBody s__law_judged) (defScope s__law_judged) [] [] f fd) (c_Links_dump : Met P w K mg base 3 (He.ga K "Links") "dump" ["self"] (sp_Links_dump K)) (c_Links_is_sound : Met P w K mg base 1 (He.ga K "Links") "is_sound" ["self"] (sp04_Links_is_sound K)) (c_Links_is_whole : Met P w K mg base 6 (He.ga K "Links") "is_whole" ["self"] (sp23_Links_is_whole K)) (c__law_dump : Cal P w K mg base 1 "_law_dump" ["book"] (sp13__law_dump K)) (c__law_holders : Cal P w K mg base 1 "_law_holders" ["book"] (sp13__law_holders K)) (c__law_ints : Cal P w K mg base 2 "_law_ints" ["told", "due"] (sp13__law_ints K)) (c__law_lost : Cal P w K mg base 1 "_law_lost" ["book"] (sp16__law_lost K)) (c__law_sound : Cal P w K mg base 1 "_law_sound" ["book"] (sp13__law_sound K)) (c__law_truth : Cal P w K mg base 1 "_law_truth" ["told", "due"] (sp13__law_truth K)) (c__law_whole : Cal P w K mg base 1 "_law_whole" ["size"] (sp13__law_whole K)) (c_lost_gaps : Cal P w K mg base 6 "lost_gaps" ["links"] (sp_lost_gaps K)) (c_sole_holders : Cal P w K mg base 6 "sole_holders" ["links"] (sp_sole_holders K)) : FnOk P w K mg base (L2N.CX P w) 7 f fd ["book", "held"] (sp13__law_judged K) :=
  F.ok sc__law_judged (len__law_judged K) fun cdv A outer s H vs Q E hr h => ⟨t__law_judged K E, pss_cons (ps_if (pt_not (pt_val (pe_cl c__law_ints hr (by decide) (pat_of (W := fun cls d _ H => E cls d H) (L2N.takes_of rfl rfl rfl rfl)) (pa_cons (pe_cl c_lost_gaps hr (by decide) (pat_of (W := fun cls d _ H => E cls d H) (L2N.takes_of rfl rfl rfl rfl)) (pa_cons (pv 1) (pa_nil))) (pa_cons (pe_cl c__law_lost hr (by decide) (pat_of (W := fun cls d _ H => E cls d H) (L2N.takes_of rfl rfl rfl rfl)) (pa_cons (pv 0) (pa_nil))) (pa_nil)))))) (pss_one (ps_ret (pe_bl))) (pss_nil)) (pss_cons (ps_if (pt_not (pt_val (pe_cl c__law_ints hr (by decide) (pat_of (W := fun cls d _ H => E cls d H) (L2N.takes_of rfl rfl rfl rfl)) (pa_cons (pe_cl c_sole_holders hr (by decide) (pat_of (W := fun cls d _ H => E cls d H) (L2N.takes_of rfl rfl rfl rfl)) (pa_cons (pv 1) (pa_nil))) (pa_cons (pe_cl c__law_holders hr (by decide) (pat_of (W := fun cls d _ H => E cls d H) (L2N.takes_of rfl rfl rfl rfl)) (pa_cons (pv 0) (pa_nil))) (pa_nil)))))) (pss_one (ps_ret (pe_bl))) (pss_nil)) (pss_cons (ps_if (pt_not (pt_val (pe_cl c__law_truth hr (by decide) (pat_of (W := fun cls d _ H => E cls d H) (L2N.takes_of rfl rfl rfl rfl)) (pa_cons (pe_mt0 c_Links_is_sound T.cl_Links hr (by decide) (pat_of (W := fun cls d _ H => E cls d H) (L2N.takes_of rfl rfl rfl rfl)) (pv 1)) (pa_cons (pe_cl c__law_sound hr (by decide) (pat_of (W := fun cls d _ H => E cls d H) (L2N.takes_of rfl rfl rfl rfl)) (pa_cons (pv 0) (pa_nil))) (pa_nil)))))) (pss_one (ps_ret (pe_bl))) (pss_nil)) (pss_cons (ps_set (i := 2) sc__law_judged.nd rfl (by first | exact Or.inl rfl | exact Or.inr rfl) (pe_cmpR (op_eqA hr) (pe_cl c__law_dump hr (by decide) (pat_of (W := fun cls d _ H => E cls d H) (L2N.takes_of rfl rfl rfl rfl)) (pa_cons (pv 0) (pa_nil))) (pe_cl c__law_dump hr (by decide) (pat_of (W := fun cls d _ H => E cls d H) (L2N.takes_of rfl rfl rfl rfl)) (pa_cons (pe_cl c__law_whole hr (by decide) (pat_of (W := fun cls d _ H => E cls d H) (L2N.takes_of rfl rfl rfl rfl)) (pa_cons (pe_ix ix_seq (pv 0) (pe_int) (fun _ _ => rfl)) (pa_nil))) (pa_nil))) (nomark _))) (pss_one (ps_ret (pe_and (pe_cl c__law_truth hr (by decide) (pat_of (W := fun cls d _ H => E cls d H) (L2N.takes_of rfl rfl rfl rfl)) (pa_cons (pe_mt0 c_Links_is_whole T.cl_Links hr (by decide) (pat_of (W := fun cls d _ H => E cls d H) (L2N.takes_of rfl rfl rfl rfl)) (pv 1)) (pa_cons (pv 2) (pa_nil)))) (pe_one (pe_cmpR (op_eqA hr) (pe_mt0 c_Links_dump T.cl_Links hr (by decide) (pat_of (W := fun cls d _ H => E cls d H) (L2N.takes_of rfl rfl rfl rfl)) (pv 1)) (pe_cl c__law_dump hr (by decide) (pat_of (W := fun cls d _ H => E cls d H) (L2N.takes_of rfl rfl rfl rfl)) (pa_cons (pv 0) (pa_nil))) (nomark _))))))))), rd__law_judged T vs H Q E h⟩
theorem ok__law_take {f : Addr} {fd : FuncData} (T : Txt K mg) (F : FunD K "_law_take" "_law_take" (defArgs s__law_take) (defBody s__law_take) (defScope s__law_take) [] [] f fd)  : FnOk P w K mg base (L2N.CX P w) 1 f fd ["purse", "many"] (sp13__law_take K) :=
  F.ok sc__law_take (len__law_take K) fun cdv A outer s H vs Q E hr h => ⟨t__law_take K E, pss_cons (ps_asg (pe_op op_addA (pe_ix ix_seq (pv 0) (pe_int) (fun _ _ => rfl)) (pe_int)) (pg_sub (pv 0) (pe_int) set_list)) (pss_cons (ps_set (i := 2) sc__law_take.nd rfl (by first | exact Or.inl rfl | exact Or.inr rfl) (pe_ix ix_seq (pv 0) (pe_int) (fun _ _ => rfl))) (pss_cons (ps_if (pt_tr (pv 2) (by intro _; rfl)) (pss_cons (ps_set (i := 3) sc__law_take.nd rfl (by first | exact Or.inl rfl | exact Or.inr rfl) (pe_op op_mod (pe_callTy call_intA (by rfl) T.b_int (by decide +kernel) (pa_cons (pe_ix ix_seq (pv 2) (pe_int) (fun _ _ => rfl)) (pa_nil))) (pv 1))) (pss_cons (ps_asg (pe_op op_fdiv (pe_ix ix_seq (pv 2) (pe_int) (fun _ _ => rfl)) (pv 1)) (pg_sub (pv 2) (pe_int) set_list)) (pss_cons (ps_if (pt_cmpR (op_eqA hr) (pe_ix ix_seq (pv 2) (pe_int) (fun _ _ => rfl)) (pe_int) (nomark _)) (pss_one (ps_expr (pe_bm PySem.F.plainAttrs_list PySem.F.slot_list_pop PySem.F.type_list_pop mt_popAt (pv 2) (pa_cons (pe_int) (pa_nil))))) (pss_nil)) (pss_one (ps_ret (pv 3)))))) (pss_nil)) (pss_cons (ps_asg (pe_op op_mod (pe_callTy call_intA (by rfl) T.b_int (by decide +kernel) (pa_cons (pe_op op_addA (pe_op op_addA (pe_op op_mulA (pe_ix ix_seq (pv 0) (pe_int) (fun _ _ => rfl)) (pe_int)) (pe_op op_mulA (pe_ix ix_seq (pv 0) (pe_int) (fun _ _ => rfl)) (pe_int))) (pe_int)) (pa_nil))) (pe_int)) (pg_sub (pv 0) (pe_int) set_list)) (pss_cons (ps_asg (pe_op op_mod (pe_callTy call_intA (by rfl) T.b_int (by decide +kernel) (pa_cons (pe_op op_addA (pe_op op_addA (pe_op op_mulA (pe_ix ix_seq (pv 0) (pe_int) (fun _ _ => rfl)) (pe_int)) (pe_op op_fdiv (pe_ix ix_seq (pv 0) (pe_int) (fun _ _ => rfl)) (pe_int))) (pe_int)) (pa_nil))) (pe_int)) (pg_sub (pv 0) (pe_int) set_list)) (pss_one (ps_ret (pe_op op_mod (pe_callTy call_intA (by rfl) T.b_int (by decide +kernel) (pa_cons (pe_op op_addA (pe_op op_fdiv (pe_ix ix_seq (pv 0) (pe_int) (fun _ _ => rfl)) (pe_int)) (pe_ix ix_seq (pv 0) (pe_int) (fun _ _ => rfl))) (pa_nil))) (pv 1)))))))), rd__law_take T vs H Q E h⟩
theorem ok_Links_is_out {f : Addr} {fd : FuncData} (T : Txt K mg) (F : FunD K "is_out" "Links.is_out" (defArgs s_Links_is_out) (defBody s_Links_is_out) (defScope s_Links_is_out) [] [] f fd) (x_BadNode : ExM P w K mg base 1 "BadNode" (He.ga K "BadNode") ["node"]) : FnOk P w K mg base (L2N.CX P w) 3 f fd ["self", "node"] (sp03_Links_is_out K) :=
  F.ok sc_Links_is_out (len_Links_is_out K) fun cdv A outer s H vs Q E hr h => ⟨t_Links_is_out K E, pss_cons (ps_if (pt_not (pt_chain op_le op_le (pe_int) (pv 1) (pe_op op_addA (pe_fld (pv 0) rfl) (pe_int)))) (pss_one (ps_rz x_BadNode rfl (L2N.takes_of rfl rfl rfl rfl) hr (by decide) (pa_cons (pv 1) (pa_nil)))) (pss_nil)) (pss_one (ps_ret (pe_ix ix_seq (pe_fld (pv 0) rfl) (pv 1) (fun _ _ => rfl)))), rd_Links_is_out T vs H Q E h⟩
theorem ok__has_fitting_neighbours {f : Addr} {fd : FuncData} (T : Txt K mg) (F : FunD K "_has_fitting_neighbours" "_has_fitting_neighbours" (defArgs s__has_fitting_neighbours) (defBody s__has_fitting_neighbours) (defScope s__has_fitting_neighbours) [] [] f fd) (c_Links_is_out : Met P w K mg base 3 (He.ga K "Links") "is_out" ["self", "node"] (sp03_Links_is_out K)) (c_Links_left : Met P w K mg base 3 (He.ga K "Links") "left" ["self", "node"] (sp_Links_left K)) (c_Links_right : Met P w K mg base 3 (He.ga K "Links") "right" ["self", "node"] (sp_Links_right K)) : FnOk P w K mg base (L2N.CX P w) 4 f fd ["links", "operation"] (sp__has_fitting_neighbours K) :=
  F.ok sc__has_fitting_neighbours (len__has_fitting_neighbours K) fun cdv A outer s H vs Q E hr h => ⟨t__has_fitting_neighbours K E, pss_cons (ps_set (i := 2) sc__has_fitting_neighbours.nd rfl (by first | exact Or.inl rfl | exact Or.inr rfl) (pe_callB call_absA (by rfl) T.b_abs (by decide +kernel) (pa_cons (pv 1) (pa_nil)))) (pss_cons (ps_set (i := 3) sc__has_fitting_neighbours.nd rfl (by first | exact Or.inl rfl | exact Or.inr rfl) (pe_mt c_Links_left T.cl_Links hr (by decide) (pat_of (W := fun cls d _ H => E cls d H) (L2N.takes_of rfl rfl rfl rfl)) (pv 0) (pa_cons (pv 2) (pa_nil)))) (pss_cons (ps_set (i := 4) sc__has_fitting_neighbours.nd rfl (by first | exact Or.inl rfl | exact Or.inr rfl) (pe_mt c_Links_right T.cl_Links hr (by decide) (pat_of (W := fun cls d _ H => E cls d H) (L2N.takes_of rfl rfl rfl rfl)) (pv 0) (pa_cons (pv 2) (pa_nil)))) (pss_cons (ps_if ((pw_or (pt_val (pe_mt c_Links_is_out T.cl_Links hr (by decide) (pat_of (W := fun cls d _ H => E cls d H) (L2N.takes_of rfl rfl rfl rfl)) (pv 0) (pa_cons (pv 3) (pa_nil)))) (pw_or1 (pt_val (pe_mt c_Links_is_out T.cl_Links hr (by decide) (pat_of (W := fun cls d _ H => E cls d H) (L2N.takes_of rfl rfl rfl rfl)) (pv 0) (pa_cons (pv 4) (pa_nil)))))).pt) (pss_one (ps_ret (pe_bl))) (pss_nil)) (pss_cons (ps_if (pt_cmpR op_lt (pv 1) (pe_int) (nomark _)) (pss_one (ps_ret (pe_and (pe_cmpR (op_eqA hr) (pe_mt c_Links_right T.cl_Links hr (by decide) (pat_of (W := fun cls d _ H => E cls d H) (L2N.takes_of rfl rfl rfl rfl)) (pv 0) (pa_cons (pv 3) (pa_nil))) (pv 2) (nomark _)) (pe_one (pe_cmpR (op_eqA hr) (pe_mt c_Links_left T.cl_Links hr (by decide) (pat_of (W := fun cls d _ H => E cls d H) (L2N.takes_of rfl rfl rfl rfl)) (pv 0) (pa_cons (pv 4) (pa_nil))) (pv 2) (nomark _)))))) (pss_nil)) (pss_one (ps_ret (pe_and (pe_cmpR (op_eqA hr) (pe_mt c_Links_right T.cl_Links hr (by decide) (pat_of (W := fun cls d _ H => E cls d H) (L2N.takes_of rfl rfl rfl rfl)) (pv 0) (pa_cons (pv 3) (pa_nil))) (pv 4) (nomark _)) (pe_one (pe_cmpR (op_eqA hr) (pe_mt c_Links_left T.cl_Links hr (by decide) (pat_of (W := fun cls d _ H => E cls d H) (L2N.takes_of rfl rfl rfl rfl)) (pv 0) (pa_cons (pv 4) (pa_nil))) (pv 3) (nomark _)))))))))), rd__has_fitting_neighbours T vs H Q E h⟩
theorem ok_foreign_writes {f : Addr} {fd : FuncData} (T : Txt K mg) (F : FunD K "foreign_writes" "foreign_writes" (defArgs s_foreign_writes) (defBody s_foreign_writes) (defScope s_foreign_writes) [] [] f fd) (c_Links_check : Met P w K mg base 4 (He.ga K "Links") "check" ["self", "operation", "index"] (sp_Links_check K)) (c_Links_left : Met P w K mg base 3 (He.ga K "Links") "left" ["self", "node"] (sp_Links_left K)) (c_Links_right : Met P w K mg base 3 (He.ga K "Links") "right" ["self", "node"] (sp_Links_right K)) : FnOk P w K mg base (L2N.CX P w) 5 f fd ["links", "operation"] (sp_foreign_writes K) :=
  F.ok sc_foreign_writes (len_foreign_writes K) fun cdv A outer s H vs Q E hr h => ⟨t_foreign_writes K E, pss_cons (ps_expr (pe_mt c_Links_check T.cl_Links hr (by decide) (pat_of (W := fun cls d _ H => E cls d H) (L2N.takes_of rfl rfl rfl rfl)) (pv 0) (pa_cons (pv 1) (pa_cons (pe_int) (pa_nil))))) (pss_cons (ps_set (i := 2) sc_foreign_writes.nd rfl (by first | exact Or.inl rfl | exact Or.inr rfl) (pe_callB call_absA (by rfl) T.b_abs (by decide +kernel) (pa_cons (pv 1) (pa_nil)))) (pss_cons (ps_set (i := 3) sc_foreign_writes.nd rfl (by first | exact Or.inl rfl | exact Or.inr rfl) (pe_mt c_Links_left T.cl_Links hr (by decide) (pat_of (W := fun cls d _ H => E cls d H) (L2N.takes_of rfl rfl rfl rfl)) (pv 0) (pa_cons (pv 2) (pa_nil)))) (pss_cons (ps_set (i := 4) sc_foreign_writes.nd rfl (by first | exact Or.inl rfl | exact Or.inr rfl) (pe_mt c_Links_right T.cl_Links hr (by decide) (pat_of (W := fun cls d _ H => E cls d H) (L2N.takes_of rfl rfl rfl rfl)) (pv 0) (pa_cons (pv 2) (pa_nil)))) (pss_cons (ps_set (i := 5) sc_foreign_writes.nd rfl (by first | exact Or.inl rfl | exact Or.inr rfl) (pe_lst (pa_nil))) (pss_cons (ps_if ((pw_and (pt_cmpR (op_neA hr) (pv 3) (pe_op op_sub (pv 2) (pe_int)) (nomark _)) (pw_and1 (pt_cmpR (op_eqA hr) (pe_mt c_Links_right T.cl_Links hr (by decide) (pat_of (W := fun cls d _ H => E cls d H) (L2N.takes_of rfl rfl rfl rfl)) (pv 0) (pa_cons (pv 3) (pa_nil))) (pe_op op_addA (pv 3) (pe_int)) (nomark _)))).pt) (pss_one (ps_expr (pe_bm PySem.F.plainAttrs_list PySem.F.slot_list_append PySem.F.type_list_append mt_append (pv 5) (pa_cons (pv 3) (pa_nil))))) (pss_nil)) (pss_cons (ps_if ((pw_and (pt_cmpR (op_neA hr) (pv 4) (pe_op op_addA (pv 2) (pe_int)) (nomark _)) (pw_and1 (pt_cmpR (op_eqA hr) (pe_mt c_Links_left T.cl_Links hr (by decide) (pat_of (W := fun cls d _ H => E cls d H) (L2N.takes_of rfl rfl rfl rfl)) (pv 0) (pa_cons (pv 4) (pa_nil))) (pe_op op_sub (pv 4) (pe_int)) (nomark _)))).pt) (pss_one (ps_expr (pe_bm PySem.F.plainAttrs_list PySem.F.slot_list_append PySem.F.type_list_append mt_append (pv 5) (pa_cons (pe_op op_sub (pv 4) (pe_int)) (pa_nil))))) (pss_nil)) (pss_one (ps_ret (pv 5))))))))), rd_foreign_writes T vs H Q E h⟩
theorem ok_left_to {f : Addr} {fd : FuncData} (T : Txt K mg) (F : FunD K "left_to" "left_to" (defArgs s_left_to) (defBody s_left_to) (defScope s_left_to) [] [] f fd)  : FnOk P w K mg base (L2N.CX P w) 1 f fd ["operation", "gap"] (sp17_left_to K) :=
  F.ok sc_left_to (len_left_to K) fun cdv A outer s H vs Q E hr h => ⟨t_left_to K E, pss_one (ps_ret (pe_ifExp (pt_cmpR op_lt (pv 1) (pe_callB call_absA (by rfl) T.b_abs (by decide +kernel) (pa_cons (pv 0) (pa_nil))) (nomark _)) (pe_op op_addA (pv 1) (pe_int)) (pv 1))), rd_left_to T vs H Q E h⟩
theorem ok__leaves_a_gap_to_a_holder_that_is_in {f : Addr} {fd : FuncData} (T : Txt K mg) (F : FunD K "_leaves_a_gap_to_a_holder_that_is_in" "_leaves_a_gap_to_a_holder_that_is_in" (defArgs s__leaves_a_gap_to_a_holder_that_is_in) (defBody s__leaves_a_gap_to_a_holder_that_is_in) (defScope s__leaves_a_gap_to_a_holder_that_is_in) [] [] f fd) (c_Links_is_out : Met P w K mg base 3 (He.ga K "Links") "is_out" ["self", "node"] (sp03_Links_is_out K)) (c_foreign_writes : Cal P w K mg base 5 "foreign_writes" ["links", "operation"] (sp_foreign_writes K)) (c_left_to : Cal P w K mg base 1 "left_to" ["operation", "gap"] (sp17_left_to K)) : FnOk P w K mg base (L2N.CX P w) 6 f fd ["links", "operation"] (sp__leaves_a_gap_to_a_holder_that_is_in K) :=
  F.ok sc__leaves_a_gap_to_a_holder_that_is_in (len__leaves_a_gap_to_a_holder_that_is_in K) fun cdv A outer s H vs Q E hr h => ⟨t__leaves_a_gap_to_a_holder_that_is_in K E, pss_one (ps_ret (pe_callB (cr_any rfl) (by rfl) T.b_any (by decide +kernel) (pa_cons (pe_lc (own := [("gap", 2)]) (g := gName 2) (tt := tYes) (te := tNotV (tMt (He.ga K "Links") "is_out" (sp03_Links_is_out K) (fun _ => E0) (tVar 0) (tCons (tCl (sp17_left_to K) (fun _ => E0) (tCons (tVar 1) (tCons (tVar 2) (tNil)))) (tNil)))) rfl sc__leaves_a_gap_to_a_holder_that_is_in.nd (pi_list (pe_cl c_foreign_writes hr (by decide) (pat_of (W := fun cls d _ H => E cls d H) (L2N.takes_of rfl rfl rfl rfl)) (pa_cons (pv 0) (pa_cons (pv 1) (pa_nil))))) (blkOk_by (own := [("gap", 2)]) (N := ["links", "operation", "gap"]) (sc := defScope s__leaves_a_gap_to_a_holder_that_is_in) (by decide +kernel)) (fun _ _ _ _ _ => pg_name (i := 2) sc__leaves_a_gap_to_a_holder_that_is_in.nd rfl (by first | exact Or.inl rfl | exact Or.inr rfl)) (fun _ _ _ _ _ => pts_nil) (fun _ _ _ _ _ => pe_not (pe_mt c_Links_is_out T.cl_Links hr (by decide) (pat_no) (pv 0) (pa_cons (pe_cl c_left_to hr (by decide) (pat_no) (pa_cons (pv 1) (pa_cons (pv 2) (pa_nil)))) (pa_nil))))) (pa_nil)))), rd__leaves_a_gap_to_a_holder_that_is_in T vs H Q E h⟩
theorem ok__loses_a_gap {f : Addr} {fd : FuncData} (T : Txt K mg) (F : FunD K "_loses_a_gap" "_loses_a_gap" (defArgs s__loses_a_gap) (defBody s__loses_a_gap) (defScope s__loses_a_gap) [] [] f fd) (c_foreign_writes : Cal P w K mg base 5 "foreign_writes" ["links", "operation"] (sp_foreign_writes K)) (c_gap_state : Cal P w K mg base 4 "gap_state" ["links", "gap"] (sp_gap_state K)) : FnOk P w K mg base (L2N.CX P w) 6 f fd ["links", "operation"] (sp__loses_a_gap K) :=
  F.ok sc__loses_a_gap (len__loses_a_gap K) fun cdv A outer s H vs Q E hr h => ⟨t__loses_a_gap K E, pss_one (ps_ret (pe_callB (cr_any rfl) (by rfl) T.b_any (by decide +kernel) (pa_cons (pe_lc (own := [("gap", 2)]) (g := gName 2) (tt := tYes) (te := tOp (rNeA K) (tCl (sp_gap_state K) (fun _ => E0) (tCons (tVar 0) (tCons (tVar 2) (tNil)))) (tC (.str "joined"))) rfl sc__loses_a_gap.nd (pi_list (pe_cl c_foreign_writes hr (by decide) (pat_of (W := fun cls d _ H => E cls d H) (L2N.takes_of rfl rfl rfl rfl)) (pa_cons (pv 0) (pa_cons (pv 1) (pa_nil))))) (blkOk_by (own := [("gap", 2)]) (N := ["links", "operation", "gap"]) (sc := defScope s__loses_a_gap) (by decide +kernel)) (fun _ _ _ _ _ => pg_name (i := 2) sc__loses_a_gap.nd rfl (by first | exact Or.inl rfl | exact Or.inr rfl)) (fun _ _ _ _ _ => pts_nil) (fun _ _ _ _ _ => pe_cmpR (op_neA hr) (pe_cl c_gap_state hr (by decide) (pat_no) (pa_cons (pv 0) (pa_cons (pv 2) (pa_nil)))) (pe_str) (nomark _))) (pa_nil)))), rd__loses_a_gap T vs H Q E h⟩
theorem ok_FreeMode_refusal {f : Addr} {fd : FuncData} (T : Txt K mg) (F : FunD K "refusal" "FreeMode.refusal" (defArgs s_FreeMode_refusal) (defBody s_FreeMode_refusal) (defScope s_FreeMode_refusal) [] [] f fd) (c_Links_check : Met P w K mg base 4 (He.ga K "Links") "check" ["self", "operation", "index"] (sp_Links_check K)) : FnOk P w K mg base (L2N.CX P w) 5 f fd ["self", "links", "operation"] (sp_FreeMode_refusal K) :=
  F.ok sc_FreeMode_refusal (len_FreeMode_refusal K) fun cdv A outer s H vs Q E hr h => ⟨t_FreeMode_refusal K E, pss_cons (ps_expr (pe_mt c_Links_check T.cl_Links hr (by decide) (pat_of (W := fun cls d _ H => E cls d H) (L2N.takes_of rfl rfl rfl rfl)) (pv 1) (pa_cons (pv 2) (pa_cons (pe_int) (pa_nil))))) (pss_one (ps_ret (pe_str))), rd_FreeMode_refusal T vs H Q E h⟩
theorem ok_SavingMode_refusal {f : Addr} {fd : FuncData} (T : Txt K mg) (F : FunS K P "refusal" "SavingMode.refusal" (defArgs s_SavingMode_refusal) (defBody s_SavingMode_refusal) (defScope s_SavingMode_refusal) (He.ga K "SavingMode") f fd) {fdp : FuncData} (o_par : FnOk P w K mg base (L2N.CX P w) 5 (He.fAd K ("FreeMode", some "refusal")) fdp ["self", "links", "operation"] (sp_FreeMode_refusal K)) (b_par : Binds K fdp ["self", "links", "operation"] []) (htop : (P.main.scope.names.lookup ("super" : Str)).isSome = false) (c__loses_a_gap : Cal P w K mg base 6 "_loses_a_gap" ["links", "operation"] (sp__loses_a_gap K)) : FnOk P w K mg base (L2N.CX P w) 7 f fd ["self", "links", "operation"] (sp_SavingMode_refusal K) :=
  FunS.okT (sf := "self") (y := "refusing") (i := 4) F sc_SavingMode_refusal (len_SavingMode_refusal K) (by decide) rfl o_par (by decide) b_par rfl rfl rfl rfl rfl T.b_super htop (by decide) rfl rfl (fun X hX => ⟨rfl, rfl, ⟨_, rfl⟩, by rfl⟩) fun c cc A outer s H vs Q E hr hs => ⟨_, _, pa_cons (pv 1) (pa_cons (pv 2) (pa_nil)), pss_cons (ps_if ((pw_and (pt_cmpR (op_eqA hr) (pv 4) (pe_str) (nomark _)) (pw_and1 (pt_val (pe_cl c__loses_a_gap hr (by decide) (pat_of (W := fun cls d _ H => E cls d H) (L2N.takes_of rfl rfl rfl rfl)) (pa_cons (pv 1) (pa_cons (pv 2) (pa_nil))))))).pt) (pss_one (ps_ret (pe_cc T.cc_SavingMode_NAME (pe_own T.g_SavingMode)))) (pss_nil)) (pss_one (ps_ret (pv 4))), pat_of (W := fun cls d _ H => E cls d H) (L2N.takes_of rfl rfl rfl rfl), rd_SavingMode_refusal T vs H Q E hs⟩
theorem ok_GuardedMode_refusal {f : Addr} {fd : FuncData} (T : Txt K mg) (F : FunS K P "refusal" "GuardedMode.refusal" (defArgs s_GuardedMode_refusal) (defBody s_GuardedMode_refusal) (defScope s_GuardedMode_refusal) (He.ga K "GuardedMode") f fd) {fdp : FuncData} (o_par : FnOk P w K mg base (L2N.CX P w) 7 (He.fAd K ("SavingMode", some "refusal")) fdp ["self", "links", "operation"] (sp_SavingMode_refusal K)) (b_par : Binds K fdp ["self", "links", "operation"] []) (htop : (P.main.scope.names.lookup ("super" : Str)).isSome = false) (c__leaves_a_gap_to_a_holder_that_is_in : Cal P w K mg base 6 "_leaves_a_gap_to_a_holder_that_is_in" ["links", "operation"] (sp__leaves_a_gap_to_a_holder_that_is_in K)) : FnOk P w K mg base (L2N.CX P w) 8 f fd ["self", "links", "operation"] (sp_GuardedMode_refusal K) :=
  FunS.okT (sf := "self") (y := "refusing") (i := 4) F sc_GuardedMode_refusal (len_GuardedMode_refusal K) (by decide) rfl o_par (by decide) b_par rfl rfl rfl rfl rfl T.b_super htop (by decide) rfl rfl (fun X hX => ⟨rfl, rfl, ⟨_, rfl⟩, by rfl⟩) fun c cc A outer s H vs Q E hr hs => ⟨_, _, pa_cons (pv 1) (pa_cons (pv 2) (pa_nil)), pss_cons (ps_if ((pw_and (pt_cmpR (op_eqA hr) (pv 4) (pe_str) (nomark _)) (pw_and1 (pt_val (pe_cl c__leaves_a_gap_to_a_holder_that_is_in hr (by decide) (pat_of (W := fun cls d _ H => E cls d H) (L2N.takes_of rfl rfl rfl rfl)) (pa_cons (pv 1) (pa_cons (pv 2) (pa_nil))))))).pt) (pss_one (ps_ret (pe_cc T.cc_GuardedMode_NAME (pe_own T.g_GuardedMode)))) (pss_nil)) (pss_one (ps_ret (pv 4))), pat_of (W := fun cls d _ H => E cls d H) (L2N.takes_of rfl rfl rfl rfl), rd_GuardedMode_refusal T vs H Q E hs⟩
theorem ok_CheckedMode_refusal {f : Addr} {fd : FuncData} (T : Txt K mg) (F : FunS K P "refusal" "CheckedMode.refusal" (defArgs s_CheckedMode_refusal) (defBody s_CheckedMode_refusal) (defScope s_CheckedMode_refusal) (He.ga K "CheckedMode") f fd) {fdp : FuncData} (o_par : FnOk P w K mg base (L2N.CX P w) 8 (He.fAd K ("GuardedMode", some "refusal")) fdp ["self", "links", "operation"] (sp_GuardedMode_refusal K)) (b_par : Binds K fdp ["self", "links", "operation"] []) (htop : (P.main.scope.names.lookup ("super" : Str)).isSome = false) (c__has_fitting_neighbours : Cal P w K mg base 4 "_has_fitting_neighbours" ["links", "operation"] (sp__has_fitting_neighbours K)) : FnOk P w K mg base (L2N.CX P w) 9 f fd ["self", "links", "operation"] (sp_CheckedMode_refusal K) :=
  FunS.okT (sf := "self") (y := "refusing") (i := 4) F sc_CheckedMode_refusal (len_CheckedMode_refusal K) (by decide) rfl o_par (by decide) b_par rfl rfl rfl rfl rfl T.b_super htop (by decide) rfl rfl (fun X hX => ⟨rfl, rfl, ⟨_, rfl⟩, by rfl⟩) fun c cc A outer s H vs Q E hr hs => ⟨_, _, pa_cons (pv 1) (pa_cons (pv 2) (pa_nil)), pss_cons (ps_if ((pw_and (pt_cmpR (op_eqA hr) (pv 4) (pe_str) (nomark _)) (pw_and1 (pt_not (pt_val (pe_cl c__has_fitting_neighbours hr (by decide) (pat_of (W := fun cls d _ H => E cls d H) (L2N.takes_of rfl rfl rfl rfl)) (pa_cons (pv 1) (pa_cons (pv 2) (pa_nil)))))))).pt) (pss_one (ps_ret (pe_cc T.cc_CheckedMode_NAME (pe_own T.g_CheckedMode)))) (pss_nil)) (pss_one (ps_ret (pv 4))), pat_of (W := fun cls d _ H => E cls d H) (L2N.takes_of rfl rfl rfl rfl), rd_CheckedMode_refusal T vs H Q E hs⟩
theorem ok_all_modes {f : Addr} {fd : FuncData} (T : Txt K mg) (F : FunD K "all_modes" "all_modes" (defArgs s_all_modes) (defBody s_all_modes) (defScope s_all_modes) [] [] f fd)  : FnOk P w K mg base (L2N.CX P w) 1 f fd [] (sp_all_modes K) :=
  F.ok sc_all_modes (len_all_modes K) fun cdv A outer s H vs Q E hr h => ⟨t_all_modes K E, pss_one (ps_ret (pe_lst (pa_cons (pe_mk0 T.mk0_FreeMode T.g_FreeMode) (pa_cons (pe_mk0 T.mk0_SavingMode T.g_SavingMode) (pa_cons (pe_mk0 T.mk0_GuardedMode T.g_GuardedMode) (pa_cons (pe_mk0 T.mk0_CheckedMode T.g_CheckedMode) (pa_nil))))))), rd_all_modes T vs H Q E h⟩
theorem ok_mode_named {f : Addr} {fd : FuncData} (T : Txt K mg) (F : FunD K "mode_named" "mode_named" (defArgs s_mode_named) (defBody s_mode_named) (defScope s_mode_named) [] [] f fd) (c_all_modes : Cal P w K mg base 1 "all_modes" [] (sp_all_modes K)) (x_BadMode : ExM P w K mg base 1 "BadMode" (He.ga K "BadMode") ["name"]) : FnOk P w K mg base (L2N.CX P w) 3 f fd ["mode"] (sp_mode_named K) :=
  F.ok sc_mode_named (len_mode_named K) fun cdv A outer s H vs Q E hr h => ⟨t_mode_named K E, pss_cons (ps_for (passes_of rfl) rfl (pi_list (pe_cl0 c_all_modes hr (by decide) (pat_of (W := fun cls d _ H => E cls d H) (L2N.takes_of rfl rfl rfl rfl)))) (pg_name (i := 1) sc_mode_named.nd rfl (by first | exact Or.inl rfl | exact Or.inr rfl)) (pss_one (ps_if (pt_cmpR (op_eqA hr) (pe_con (pv 1) rfl) (pv 0) (nomark _)) (pss_one (ps_ret (pv 1))) (pss_nil)))) (pss_one (ps_rz x_BadMode rfl (L2N.takes_of rfl rfl rfl rfl) hr (by decide) (pa_cons (pv 0) (pa_nil)))), rd_mode_named T vs H Q E h⟩
theorem ok_admits {f : Addr} {fd : FuncData} (T : Txt K mg) (F : FunD K "admits" "admits" (defArgs s_admits) (defBody s_admits) (defScope s_admits) [] [("mode", .str "free")] f fd) (c_CheckedMode_refusal : Met P w K mg base 9 (He.ga K "CheckedMode") "refusal" ["self", "links", "operation"] (sp_CheckedMode_refusal K)) (c_FreeMode_refusal : Met P w K mg base 5 (He.ga K "FreeMode") "refusal" ["self", "links", "operation"] (sp_FreeMode_refusal K)) (c_GuardedMode_refusal : Met P w K mg base 8 (He.ga K "GuardedMode") "refusal" ["self", "links", "operation"] (sp_GuardedMode_refusal K)) (c_SavingMode_refusal : Met P w K mg base 7 (He.ga K "SavingMode") "refusal" ["self", "links", "operation"] (sp_SavingMode_refusal K)) (c_mode_named : Cal P w K mg base 3 "mode_named" ["mode"] (sp_mode_named K)) : FnOk P w K mg base (L2N.CX P w) 10 f fd ["links", "operation", "mode"] (sp_admits K) :=
  F.ok sc_admits (len_admits K) fun cdv A outer s H vs Q E hr h => ⟨t_admits K E, pss_one (ps_ret (pe_cmpR (op_eqA hr) (pe_mtD (L := L_refusal K) (poly4 c_FreeMode_refusal T.cl_FreeMode c_SavingMode_refusal T.cl_SavingMode c_GuardedMode_refusal T.cl_GuardedMode c_CheckedMode_refusal T.cl_CheckedMode (by decide) (by decide) (by decide)) hr (by decide) (pat_of (W := fun cls d _ H => E cls d H) (L2N.takes_of rfl rfl rfl rfl)) (pe_cl c_mode_named hr (by decide) (pat_of (W := fun cls d _ H => E cls d H) (L2N.takes_of rfl rfl rfl rfl)) (pa_cons (pv 2) (pa_nil))) (pa_cons (pv 0) (pa_cons (pv 1) (pa_nil)))) (pe_str) (nomark _))), rd_admits T vs H Q E h⟩
theorem ok__law_finish {f : Addr} {fd : FuncData} (T : Txt K mg) (F : FunD K "_law_finish" "_law_finish" (defArgs s__law_finish) (defBody s__law_finish) (defScope s__law_finish) [] [] f fd) (c_Links_apply : Met P w K mg base 6 (He.ga K "Links") "apply" ["self", "operation"] (sp_Links_apply K)) (c_Links_is_whole : Met P w K mg base 6 (He.ga K "Links") "is_whole" ["self"] (sp23_Links_is_whole K)) (c__law_good : Cal P w K mg base 3 "_law_good" ["book", "word", "nodes"] (sp13__law_good K)) (c__law_judged : Cal P w K mg base 7 "_law_judged" ["book", "held"] (sp13__law_judged K)) (c__law_moved : Cal P w K mg base 1 "_law_moved" ["book", "node"] (sp13__law_moved K)) (c__law_take : Cal P w K mg base 1 "_law_take" ["purse", "many"] (sp13__law_take K)) (c__law_truth : Cal P w K mg base 1 "_law_truth" ["told", "due"] (sp13__law_truth K)) (c_admits : CalK P w K mg base 10 "admits" ["links", "operation", "mode"] 2 ["mode"] (sp_admits K)) : FnOk P w K mg base (L2N.CX P w) 11 f fd ["purse", "book", "held", "word"] (sp13__law_finish K) :=
  F.ok sc__law_finish (len__law_finish K) fun cdv A outer s H vs Q E hr h => ⟨t__law_finish K E, pss_cons (ps_for (passes_of rfl) rfl (pi_range1 rfl T.b_range (pa_cons (pe_ix ix_seq (pv 1) (pe_int) (fun _ _ => rfl)) (pa_nil))) (pg_name (i := 4) sc__law_finish.nd rfl (by first | exact Or.inl rfl | exact Or.inr rfl)) (pss_cons (ps_setLc (i := 5) (own := [("node", 7)]) (g := gName 7) (tt := tB (tOp (rIx K) (tOp (rIx K) (tVar 1) (tC (.int 3))) (tVar 7))) (te := tVar 7) rfl sc__law_finish.nd rfl rfl (sw_true rfl rfl rfl (by decide +kernel)) (pi_range2 rfl T.b_range (pa_cons (pe_int) (pa_cons (pe_op op_addA (pe_ix ix_seq (pv 1) (pe_int) (fun _ _ => rfl)) (pe_int)) (pa_nil)))) (blkOk_by (own := [("node", 7)]) (N := ["purse", "book", "held", "word", "turn", "outs", "good", "node"]) (sc := defScope s__law_finish) (by decide +kernel)) (fun _ _ _ _ _ => pg_name (i := 7) sc__law_finish.nd rfl (by first | exact Or.inl rfl | exact Or.inr rfl)) (fun _ _ _ _ _ => pts_one (pt_val (pe_ix ix_seq (pe_ix ix_seq (pv 1) (pe_int) (fun _ _ => rfl)) (pv 7) (fun _ _ => rfl)))) (fun _ _ _ _ _ => pv 7)) (pss_cons (ps_set (i := 6) sc__law_finish.nd rfl (by first | exact Or.inl rfl | exact Or.inr rfl) (pe_cl c__law_good hr (by decide) (pat_of (W := fun cls d _ H => E cls d H) (L2N.takes_of rfl rfl rfl rfl)) (pa_cons (pv 1) (pa_cons (pv 3) (pa_cons (pv 5) (pa_nil)))))) (pss_one (ps_if (pt_tr (pv 6) (by intro _; rfl)) (pss_cons (ps_set (i := 7) sc__law_finish.nd rfl (by first | exact Or.inl rfl | exact Or.inr rfl) (pe_ix ix_seq (pv 6) (pe_cl c__law_take hr (by decide) (pat_of (W := fun cls d _ H => E cls d H) (L2N.takes_of rfl rfl rfl rfl)) (pa_cons (pv 0) (pa_cons (pe_callB call_lenA (by rfl) T.b_len (by decide +kernel) (pa_cons (pv 6) (pa_nil))) (pa_nil)))) (fun _ _ => rfl))) (pss_cons (ps_if (pt_cmpR op_isnotB (pe_clK c_admits hr (by decide) (pat_of (W := fun cls d _ H => E cls d H) (L2N.takes_of rfl rfl rfl rfl)) (pa_cons (pv 2) (pa_cons (pv 7) (pa_nil))) (pk_cons (pv 3) (pk_nil))) (pe_bl) (nomark _)) (pss_one (ps_ret (pe_bl))) (pss_nil)) (pss_cons (ps_expr (pe_mt c_Links_apply T.cl_Links hr (by decide) (pat_of (W := fun cls d _ H => E cls d H) (L2N.takes_of rfl rfl rfl rfl)) (pv 2) (pa_cons (pv 7) (pa_nil)))) (pss_one (ps_set (i := 1) sc__law_finish.nd rfl (by first | exact Or.inl rfl | exact Or.inr rfl) (pe_cl c__law_moved hr (by decide) (pat_of (W := fun cls d _ H => E cls d H) (L2N.takes_of rfl rfl rfl rfl)) (pa_cons (pv 1) (pa_cons (pv 7) (pa_nil))))))))) (pss_nil)))))) (pss_cons (ps_setLc (i := 5) (own := [("node", 7)]) (g := gName 7) (tt := tB (tOp (rIx K) (tOp (rIx K) (tVar 1) (tC (.int 3))) (tVar 7))) (te := tVar 7) rfl sc__law_finish.nd rfl rfl (sw_true rfl rfl rfl (by decide +kernel)) (pi_range2 rfl T.b_range (pa_cons (pe_int) (pa_cons (pe_op op_addA (pe_ix ix_seq (pv 1) (pe_int) (fun _ _ => rfl)) (pe_int)) (pa_nil)))) (blkOk_by (own := [("node", 7)]) (N := ["purse", "book", "held", "word", "turn", "outs", "good", "node"]) (sc := defScope s__law_finish) (by decide +kernel)) (fun _ _ _ _ _ => pg_name (i := 7) sc__law_finish.nd rfl (by first | exact Or.inl rfl | exact Or.inr rfl)) (fun _ _ _ _ _ => pts_one (pt_val (pe_ix ix_seq (pe_ix ix_seq (pv 1) (pe_int) (fun _ _ => rfl)) (pv 7) (fun _ _ => rfl)))) (fun _ _ _ _ _ => pv 7)) (pss_one (ps_ret (pe_and (pe_cl c__law_truth hr (by decide) (pat_of (W := fun cls d _ H => E cls d H) (L2N.takes_of rfl rfl rfl rfl)) (pa_cons (pe_mt0 c_Links_is_whole T.cl_Links hr (by decide) (pat_of (W := fun cls d _ H => E cls d H) (L2N.takes_of rfl rfl rfl rfl)) (pv 2)) (pa_cons (pe_cmpR (op_eqA hr) (pv 5) (pe_lst (pa_nil)) (nomark _)) (pa_nil)))) (pe_one (pe_cl c__law_judged hr (by decide) (pat_of (W := fun cls d _ H => E cls d H) (L2N.takes_of rfl rfl rfl rfl)) (pa_cons (pv 1) (pa_cons (pv 2) (pa_nil))))))))), rd__law_finish T vs H Q E h⟩
theorem ok__law_operation {f : Addr} {fd : FuncData} (T : Txt K mg) (F : FunD K "_law_operation" "_law_operation" (defArgs s__law_operation) (defBody s__law_operation) (defScope s__law_operation) [] [] f fd)  : FnOk P w K mg base (L2N.CX P w) 1 f fd ["book", "node"] (sp__law_operation K) :=
  F.ok sc__law_operation (len__law_operation K) fun cdv A outer s H vs Q E hr h => ⟨t__law_operation K E, pss_cons (ps_if (pt_val (pe_ix ix_seq (pe_ix ix_seq (pv 0) (pe_int) (fun _ _ => rfl)) (pv 1) (fun _ _ => rfl))) (pss_one (ps_ret (pv 1))) (pss_nil)) (pss_one (ps_ret (pe_un un_neg (pv 1)))), rd__law_operation T vs H Q E h⟩
theorem ok_admitted {f : Addr} {fd : FuncData} (T : Txt K mg) (F : FunD K "admitted" "admitted" (defArgs s_admitted) (defBody s_admitted) (defScope s_admitted) [] [("mode", .str "free")] f fd) (c_Links_is_out : Met P w K mg base 3 (He.ga K "Links") "is_out" ["self", "node"] (sp03_Links_is_out K)) (c_admits : CalK P w K mg base 10 "admits" ["links", "operation", "mode"] 2 ["mode"] (sp_admits K)) (c_mode_named : Cal P w K mg base 3 "mode_named" ["mode"] (sp_mode_named K)) : FnOk P w K mg base (L2N.CX P w) 11 f fd ["links", "mode"] (sp_admitted K) :=
  F.ok sc_admitted (len_admitted K) fun cdv A outer s H vs Q E hr h => ⟨t_admitted K E, pss_cons (ps_expr (pe_cl c_mode_named hr (by decide) (pat_of (W := fun cls d _ H => E cls d H) (L2N.takes_of rfl rfl rfl rfl)) (pa_cons (pv 1) (pa_nil)))) (pss_cons (ps_setLc (i := 2) (own := [("node", 3)]) (g := gName 3) (tt := tYes) (te := tIf (tB (tMt (He.ga K "Links") "is_out" (sp03_Links_is_out K) (fun _ => E0) (tVar 0) (tCons (tVar 3) (tNil)))) (tVar 3) (tUn rNegA (tVar 3))) rfl sc_admitted.nd rfl rfl (sw_true rfl rfl rfl (by decide +kernel)) (pi_range2 rfl T.b_range (pa_cons (pe_int) (pa_cons (pe_op op_addA (pe_fld (pv 0) rfl) (pe_int)) (pa_nil)))) (blkOk_by (own := [("node", 3)]) (N := ["links", "mode", "legal", "node", "operation"]) (sc := defScope s_admitted) (by decide +kernel)) (fun _ _ _ _ _ => pg_name (i := 3) sc_admitted.nd rfl (by first | exact Or.inl rfl | exact Or.inr rfl)) (fun _ _ _ _ _ => pts_nil) (fun _ _ _ _ _ => pe_ifExp (pt_val (pe_mt c_Links_is_out T.cl_Links hr (by decide) (pat_no) (pv 0) (pa_cons (pv 3) (pa_nil)))) (pv 3) (pe_un un_neg (pv 3)))) (pss_one (ps_ret (pe_lc (own := [("operation", 4)]) (g := gName 4) (tt := tB (tClK 2 (["mode"] : List Str).length (sp_admits K) (fun _ => E0) (tCons (tVar 0) (tCons (tVar 4) (tNil))) (tCons (tVar 1) (tNil)))) (te := tVar 4) rfl sc_admitted.nd (pi_list (pv 2)) (blkOk_by (own := [("operation", 4)]) (N := ["links", "mode", "legal", "node", "operation"]) (sc := defScope s_admitted) (by decide +kernel)) (fun _ _ _ _ _ => pg_name (i := 4) sc_admitted.nd rfl (by first | exact Or.inl rfl | exact Or.inr rfl)) (fun _ _ _ _ _ => pts_one (pt_val (pe_clK c_admits hr (by decide) (pat_no) (pa_cons (pv 0) (pa_cons (pv 4) (pa_nil))) (pk_cons (pv 1) (pk_nil))))) (fun _ _ _ _ _ => pv 4))))), rd_admitted T vs H Q E h⟩
theorem ok__law_moment {f : Addr} {fd : FuncData} (T : Txt K mg) (F : FunD K "_law_moment" "_law_moment" (defArgs s__law_moment) (defBody s__law_moment) (defScope s__law_moment) [] [] f fd) (c__law_good : Cal P w K mg base 3 "_law_good" ["book", "word", "nodes"] (sp13__law_good K)) (c__law_ints : Cal P w K mg base 2 "_law_ints" ["told", "due"] (sp13__law_ints K)) (c__law_operation : Cal P w K mg base 1 "_law_operation" ["book", "node"] (sp__law_operation K)) (c__law_truth : Cal P w K mg base 1 "_law_truth" ["told", "due"] (sp13__law_truth K)) (c_admits : CalK P w K mg base 10 "admits" ["links", "operation", "mode"] 2 ["mode"] (sp_admits K)) (c_admitted : CalK P w K mg base 11 "admitted" ["links", "mode"] 1 ["mode"] (sp_admitted K)) : FnOk P w K mg base (L2N.CX P w) 12 f fd ["book", "held", "word", "nodes"] (sp13__law_moment K) :=
  F.ok sc__law_moment (len__law_moment K) fun cdv A outer s H vs Q E hr h => ⟨t__law_moment K E, pss_cons (ps_set (i := 4) sc__law_moment.nd rfl (by first | exact Or.inl rfl | exact Or.inr rfl) (pe_cl c__law_good hr (by decide) (pat_of (W := fun cls d _ H => E cls d H) (L2N.takes_of rfl rfl rfl rfl)) (pa_cons (pv 0) (pa_cons (pv 2) (pa_cons (pv 3) (pa_nil)))))) (pss_cons (ps_for (passes_of rfl) rfl (pi_list (pv 3)) (pg_name (i := 5) sc__law_moment.nd rfl (by first | exact Or.inl rfl | exact Or.inr rfl)) (pss_one (ps_if (pt_not (pt_val (pe_cl c__law_truth hr (by decide) (pat_of (W := fun cls d _ H => E cls d H) (L2N.takes_of rfl rfl rfl rfl)) (pa_cons (pe_clK c_admits hr (by decide) (pat_of (W := fun cls d _ H => E cls d H) (L2N.takes_of rfl rfl rfl rfl)) (pa_cons (pv 1) (pa_cons (pe_cl c__law_operation hr (by decide) (pat_of (W := fun cls d _ H => E cls d H) (L2N.takes_of rfl rfl rfl rfl)) (pa_cons (pv 0) (pa_cons (pv 5) (pa_nil)))) (pa_nil))) (pk_cons (pv 2) (pk_nil))) (pa_cons (pe_cmpR op_in_seq (pv 5) (pv 4) (rfl)) (pa_nil)))))) (pss_one (ps_ret (pe_bl))) (pss_nil)))) (pss_cons (ps_if (pt_cmpR op_gt (pe_ix ix_seq (pv 0) (pe_int) (fun _ _ => rfl)) (pe_int) (nomark _)) (pss_one (ps_ret (pe_bl))) (pss_nil)) (pss_one (ps_ret (pe_cl c__law_ints hr (by decide) (pat_of (W := fun cls d _ H => E cls d H) (L2N.takes_of rfl rfl rfl rfl)) (pa_cons (pe_clK c_admitted hr (by decide) (pat_of (W := fun cls d _ H => E cls d H) (L2N.takes_of rfl rfl rfl rfl)) (pa_cons (pv 1) (pa_nil)) (pk_cons (pv 2) (pk_nil))) (pa_cons (pe_lc (own := [("node", 5)]) (g := gName 5) (tt := tYes) (te := tCl (sp__law_operation K) (fun _ => E0) (tCons (tVar 0) (tCons (tVar 5) (tNil)))) rfl sc__law_moment.nd (pi_list (pv 4)) (blkOk_by (own := [("node", 5)]) (N := ["book", "held", "word", "nodes", "good", "node"]) (sc := defScope s__law_moment) (by decide +kernel)) (fun _ _ _ _ _ => pg_name (i := 5) sc__law_moment.nd rfl (by first | exact Or.inl rfl | exact Or.inr rfl)) (fun _ _ _ _ _ => pts_nil) (fun _ _ _ _ _ => pe_cl c__law_operation hr (by decide) (pat_no) (pa_cons (pv 0) (pa_cons (pv 5) (pa_nil))))) (pa_nil)))))))), rd__law_moment T vs H Q E h⟩
theorem ok__law_path {f : Addr} {fd : FuncData} (T : Txt K mg) (F : FunD K "_law_path" "_law_path" (defArgs s__law_path) (defBody s__law_path) (defScope s__law_path) [] [] f fd) (c__law_take : Cal P w K mg base 1 "_law_take" ["purse", "many"] (sp13__law_take K)) : FnOk P w K mg base (L2N.CX P w) 2 f fd ["purse", "wide"] (sp13__law_path K) :=
  F.ok sc__law_path (len__law_path K) fun cdv A outer s H vs Q E hr h => ⟨t__law_path K E, pss_cons (ps_if ((pw_or (pt_cmpR op_lt (pv 1) (pe_int) (nomark _)) (pw_or1 (pt_cmpR (op_eqA hr) (pe_cl c__law_take hr (by decide) (pat_of (W := fun cls d _ H => E cls d H) (L2N.takes_of rfl rfl rfl rfl)) (pa_cons (pv 0) (pa_cons (pe_int) (pa_nil)))) (pe_int) (nomark _)))).pt) (pss_one (ps_ret (pe_lst (pa_nil)))) (pss_nil)) (pss_cons (ps_set (i := 2) sc__law_path.nd rfl (by first | exact Or.inl rfl | exact Or.inr rfl) (pe_lst (pa_cons (pe_lst (pa_cons (pe_int) (pa_cons (pe_int) (pa_cons (pe_int) (pa_cons (pe_int) (pa_cons (pe_int) (pa_nil))))))) (pa_cons (pe_lst (pa_cons (pe_int) (pa_cons (pe_int) (pa_cons (pe_int) (pa_cons (pe_int) (pa_cons (pe_int) (pa_cons (pe_int) (pa_nil)))))))) (pa_cons (pe_lst (pa_cons (pe_int) (pa_cons (pe_int) (pa_cons (pe_int) (pa_cons (pe_int) (pa_cons (pe_int) (pa_cons (pe_int) (pa_cons (pe_int) (pa_nil))))))))) (pa_cons (pe_lst (pa_cons (pe_int) (pa_cons (pe_int) (pa_cons (pe_int) (pa_cons (pe_int) (pa_cons (pe_int) (pa_cons (pe_int) (pa_cons (pe_int) (pa_cons (pe_int) (pa_nil)))))))))) (pa_nil))))))) (pss_cons (ps_set (i := 3) sc__law_path.nd rfl (by first | exact Or.inl rfl | exact Or.inr rfl) (pe_ix ix_seq (pv 2) (pe_cl c__law_take hr (by decide) (pat_of (W := fun cls d _ H => E cls d H) (L2N.takes_of rfl rfl rfl rfl)) (pa_cons (pv 0) (pa_cons (pe_int) (pa_nil)))) (fun _ _ => rfl))) (pss_cons (ps_if (pt_cmpR (op_eqA hr) (pe_cl c__law_take hr (by decide) (pat_of (W := fun cls d _ H => E cls d H) (L2N.takes_of rfl rfl rfl rfl)) (pa_cons (pv 0) (pa_cons (pe_int) (pa_nil)))) (pe_int) (nomark _)) (pss_one (ps_ret (pv 3))) (pss_nil)) (pss_one (ps_ret (pe_lc (own := [("place", 4)]) (g := gName 4) (tt := tYes) (te := tOp rSubA (tOp rAddA (tVar 1) (tC (.int 1))) (tVar 4)) rfl sc__law_path.nd (pi_list (pv 3)) (blkOk_by (own := [("place", 4)]) (N := ["purse", "wide", "paths", "path", "place"]) (sc := defScope s__law_path) (by decide +kernel)) (fun _ _ _ _ _ => pg_name (i := 4) sc__law_path.nd rfl (by first | exact Or.inl rfl | exact Or.inr rfl)) (fun _ _ _ _ _ => pts_nil) (fun _ _ _ _ _ => pe_op op_sub (pe_op op_addA (pv 1) (pe_int)) (pv 4)))))))), rd__law_path T vs H Q E h⟩
theorem ok_Links_copy {f : Addr} {fd : FuncData} (T : Txt K mg) (F : FunD K "copy" "Links.copy" (defArgs s_Links_copy) (defBody s_Links_copy) (defScope s_Links_copy) [] [] f fd) (m_Links : Mak P w K mg base 4 "Links" (He.ga K "Links") ["self", "size"] (sp_Links___init__ K)) : FnOk P w K mg base (L2N.CX P w) 6 f fd ["self"] (sp_Links_copy K) :=
  F.ok sc_Links_copy (len_Links_copy K) fun cdv A outer s H vs Q E hr h => ⟨t_Links_copy K E, pss_cons (ps_set (i := 1) sc_Links_copy.nd rfl (by first | exact Or.inl rfl | exact Or.inr rfl) (pe_mk m_Links hr (by decide) (pat_of (W := fun cls d _ H => E cls d H) (L2N.takes_of rfl rfl rfl rfl)) (pa_cons (pe_fld (pv 0) rfl) (pa_nil)))) (pss_cons (ps_fld (pv 1) (pe_callTy call_listA (by rfl) T.b_list (by decide +kernel) (pa_cons (pe_fld (pv 0) rfl) (pa_nil))) rfl) (pss_cons (ps_fld (pv 1) (pe_callTy call_listA (by rfl) T.b_list (by decide +kernel) (pa_cons (pe_fld (pv 0) rfl) (pa_nil))) rfl) (pss_cons (ps_fld (pv 1) (pe_callTy call_listA (by rfl) T.b_list (by decide +kernel) (pa_cons (pe_fld (pv 0) rfl) (pa_nil))) rfl) (pss_one (ps_ret (pv 1)))))), rd_Links_copy T vs H Q E h⟩
theorem ok__law_worse {f : Addr} {fd : FuncData} (T : Txt K mg) (F : FunD K "_law_worse" "_law_worse" (defArgs s__law_worse) (defBody s__law_worse) (defScope s__law_worse) [] [] f fd) (c_Links_apply : Met P w K mg base 6 (He.ga K "Links") "apply" ["self", "operation"] (sp_Links_apply K)) (c_Links_copy : Met P w K mg base 6 (He.ga K "Links") "copy" ["self"] (sp_Links_copy K)) (c_Links_dump : Met P w K mg base 3 (He.ga K "Links") "dump" ["self"] (sp_Links_dump K)) (c_Links_is_sound : Met P w K mg base 1 (He.ga K "Links") "is_sound" ["self"] (sp04_Links_is_sound K)) (c_Links_is_whole : Met P w K mg base 6 (He.ga K "Links") "is_whole" ["self"] (sp23_Links_is_whole K)) (c__law_dump : Cal P w K mg base 1 "_law_dump" ["book"] (sp13__law_dump K)) (c__law_judged : Cal P w K mg base 7 "_law_judged" ["book", "held"] (sp13__law_judged K)) (c__law_moved : Cal P w K mg base 1 "_law_moved" ["book", "node"] (sp13__law_moved K)) (c__law_operation : Cal P w K mg base 1 "_law_operation" ["book", "node"] (sp__law_operation K)) (c__law_take : Cal P w K mg base 1 "_law_take" ["purse", "many"] (sp13__law_take K)) : FnOk P w K mg base (L2N.CX P w) 8 f fd ["purse", "book", "held", "node", "word"] (sp13__law_worse K) :=
  F.ok sc__law_worse (len__law_worse K) fun cdv A outer s H vs Q E hr h => ⟨t__law_worse K E, pss_cons (ps_set (i := 5) sc__law_worse.nd rfl (by first | exact Or.inl rfl | exact Or.inr rfl) (pe_mt0 c_Links_copy T.cl_Links hr (by decide) (pat_of (W := fun cls d _ H => E cls d H) (L2N.takes_of rfl rfl rfl rfl)) (pv 2))) (pss_cons (ps_expr (pe_mt c_Links_apply T.cl_Links hr (by decide) (pat_of (W := fun cls d _ H => E cls d H) (L2N.takes_of rfl rfl rfl rfl)) (pv 5) (pa_cons (pe_cl c__law_operation hr (by decide) (pat_of (W := fun cls d _ H => E cls d H) (L2N.takes_of rfl rfl rfl rfl)) (pa_cons (pv 1) (pa_cons (pv 3) (pa_nil)))) (pa_nil)))) (pss_cons (ps_set (i := 6) sc__law_worse.nd rfl (by first | exact Or.inl rfl | exact Or.inr rfl) (pe_cl c__law_moved hr (by decide) (pat_of (W := fun cls d _ H => E cls d H) (L2N.takes_of rfl rfl rfl rfl)) (pa_cons (pv 1) (pa_cons (pv 3) (pa_nil))))) (pss_cons (ps_if (pt_not (pt_val (pe_cl c__law_judged hr (by decide) (pat_of (W := fun cls d _ H => E cls d H) (L2N.takes_of rfl rfl rfl rfl)) (pa_cons (pv 6) (pa_cons (pv 5) (pa_nil)))))) (pss_one (ps_ret (pe_bl))) (pss_nil)) (pss_cons (ps_if (pt_cmpR (op_eqA hr) (pv 4) (pe_str) (nomark _)) (pss_one (ps_ret (pe_and (pe_cmpR op_isB (pe_mt0 c_Links_is_sound T.cl_Links hr (by decide) (pat_of (W := fun cls d _ H => E cls d H) (L2N.takes_of rfl rfl rfl rfl)) (pv 5)) (pe_bl) (nomark _)) (pe_one (pe_cmpR (op_eqA hr) (pe_mt0 c_Links_dump T.cl_Links hr (by decide) (pat_of (W := fun cls d _ H => E cls d H) (L2N.takes_of rfl rfl rfl rfl)) (pv 2)) (pe_cl c__law_dump hr (by decide) (pat_of (W := fun cls d _ H => E cls d H) (L2N.takes_of rfl rfl rfl rfl)) (pa_cons (pv 1) (pa_nil))) (nomark _)))))) (pss_nil)) (pss_cons (ps_setLc (i := 7) (own := [("each", 9)]) (g := gName 9) (tt := tB (tOp (rIx K) (tOp (rIx K) (tVar 6) (tC (.int 3))) (tVar 9))) (te := tVar 9) rfl sc__law_worse.nd rfl rfl (sw_true rfl rfl rfl (by decide +kernel)) (pi_range2 rfl T.b_range (pa_cons (pe_int) (pa_cons (pe_op op_addA (pe_ix ix_seq (pv 1) (pe_int) (fun _ _ => rfl)) (pe_int)) (pa_nil)))) (blkOk_by (own := [("each", 9)]) (N := ["purse", "book", "held", "node", "word", "other", "after", "outs", "turn", "each"]) (sc := defScope s__law_worse) (by decide +kernel)) (fun _ _ _ _ _ => pg_name (i := 9) sc__law_worse.nd rfl (by first | exact Or.inl rfl | exact Or.inr rfl)) (fun _ _ _ _ _ => pts_one (pt_val (pe_ix ix_seq (pe_ix ix_seq (pv 6) (pe_int) (fun _ _ => rfl)) (pv 9) (fun _ _ => rfl)))) (fun _ _ _ _ _ => pv 9)) (pss_cons (ps_for (passes_of rfl) rfl (pi_range1 rfl T.b_range (pa_cons (pe_callB call_lenA (by rfl) T.b_len (by decide +kernel) (pa_cons (pv 7) (pa_nil))) (pa_nil))) (pg_name (i := 8) sc__law_worse.nd rfl (by first | exact Or.inl rfl | exact Or.inr rfl)) (pss_one (ps_expr (pe_mt c_Links_apply T.cl_Links hr (by decide) (pat_of (W := fun cls d _ H => E cls d H) (L2N.takes_of rfl rfl rfl rfl)) (pv 5) (pa_cons (pe_bm PySem.F.plainAttrs_list PySem.F.slot_list_pop PySem.F.type_list_pop mt_popAt (pv 7) (pa_cons (pe_cl c__law_take hr (by decide) (pat_of (W := fun cls d _ H => E cls d H) (L2N.takes_of rfl rfl rfl rfl)) (pa_cons (pv 0) (pa_cons (pe_callB call_lenA (by rfl) T.b_len (by decide +kernel) (pa_cons (pv 7) (pa_nil))) (pa_nil)))) (pa_nil))) (pa_nil)))))) (pss_one (ps_ret (pe_and (pe_cmpR op_isB (pe_mt0 c_Links_is_whole T.cl_Links hr (by decide) (pat_of (W := fun cls d _ H => E cls d H) (L2N.takes_of rfl rfl rfl rfl)) (pv 5)) (pe_bl) (nomark _)) (pe_one (pe_cmpR (op_eqA hr) (pe_mt0 c_Links_dump T.cl_Links hr (by decide) (pat_of (W := fun cls d _ H => E cls d H) (L2N.takes_of rfl rfl rfl rfl)) (pv 2)) (pe_cl c__law_dump hr (by decide) (pat_of (W := fun cls d _ H => E cls d H) (L2N.takes_of rfl rfl rfl rfl)) (pa_cons (pv 1) (pa_nil))) (nomark _)))))))))))), rd__law_worse T vs H Q E h⟩
theorem ok__law_run {f : Addr} {fd : FuncData} (T : Txt K mg) (F : FunD K "_law_run" "_law_run" (defArgs s__law_run) (defBody s__law_run) (defScope s__law_run) [] [] f fd) (m_Links : Mak P w K mg base 4 "Links" (He.ga K "Links") ["self", "size"] (sp_Links___init__ K)) (c_Links_apply : Met P w K mg base 6 (He.ga K "Links") "apply" ["self", "operation"] (sp_Links_apply K)) (c__law_finish : Cal P w K mg base 11 "_law_finish" ["purse", "book", "held", "word"] (sp13__law_finish K)) (c__law_good : Cal P w K mg base 3 "_law_good" ["book", "word", "nodes"] (sp13__law_good K)) (c__law_judged : Cal P w K mg base 7 "_law_judged" ["book", "held"] (sp13__law_judged K)) (c__law_moment : Cal P w K mg base 12 "_law_moment" ["book", "held", "word", "nodes"] (sp13__law_moment K)) (c__law_moved : Cal P w K mg base 1 "_law_moved" ["book", "node"] (sp13__law_moved K)) (c__law_operation : Cal P w K mg base 1 "_law_operation" ["book", "node"] (sp__law_operation K)) (c__law_path : Cal P w K mg base 2 "_law_path" ["purse", "wide"] (sp13__law_path K)) (c__law_take : Cal P w K mg base 1 "_law_take" ["purse", "many"] (sp13__law_take K)) (c__law_whole : Cal P w K mg base 1 "_law_whole" ["size"] (sp13__law_whole K)) (c__law_worse : Cal P w K mg base 8 "_law_worse" ["purse", "book", "held", "node", "word"] (sp13__law_worse K)) : FnOk P w K mg base (L2N.CX P w) 13 f fd ["purse", "word"] (sp13__law_run K) :=
  F.ok sc__law_run (len__law_run K) fun cdv A outer s H vs Q E hr h => ⟨t__law_run K E, pss_cons (ps_set (i := 2) sc__law_run.nd rfl (by first | exact Or.inl rfl | exact Or.inr rfl) (pe_cmpR (op_eqA hr) (pe_cl c__law_take hr (by decide) (pat_of (W := fun cls d _ H => E cls d H) (L2N.takes_of rfl rfl rfl rfl)) (pa_cons (pv 0) (pa_cons (pe_int) (pa_nil)))) (pe_int) (nomark _))) (pss_cons (ps_set (i := 3) sc__law_run.nd rfl (by first | exact Or.inl rfl | exact Or.inr rfl) (pe_ix ix_seq (pe_lst (pa_cons (pe_int) (pa_cons (pe_int) (pa_cons (pe_int) (pa_cons (pe_int) (pa_cons (pe_int) (pa_cons (pe_int) (pa_cons (pe_int) (pa_cons (pe_int) (pa_cons (pe_int) (pa_cons (pe_int) (pa_nil)))))))))))) (pe_cl c__law_take hr (by decide) (pat_of (W := fun cls d _ H => E cls d H) (L2N.takes_of rfl rfl rfl rfl)) (pa_cons (pv 0) (pa_cons (pe_int) (pa_nil)))) (fun _ _ => rfl))) (pss_cons (ps_set (i := 4) sc__law_run.nd rfl (by first | exact Or.inl rfl | exact Or.inr rfl) (pe_op op_addA (pe_int) (pe_cl c__law_take hr (by decide) (pat_of (W := fun cls d _ H => E cls d H) (L2N.takes_of rfl rfl rfl rfl)) (pa_cons (pv 0) (pa_cons (pe_int) (pa_nil)))))) (pss_cons (ps_if (pt_val (pv 2)) (pss_cons (ps_set (i := 3) sc__law_run.nd rfl (by first | exact Or.inl rfl | exact Or.inr rfl) (pe_op op_addA (pe_int) (pe_cl c__law_take hr (by decide) (pat_of (W := fun cls d _ H => E cls d H) (L2N.takes_of rfl rfl rfl rfl)) (pa_cons (pv 0) (pa_cons (pe_int) (pa_nil)))))) (pss_one (ps_set (i := 4) sc__law_run.nd rfl (by first | exact Or.inl rfl | exact Or.inr rfl) (pe_op op_fdiv (pv 4) (pe_int))))) (pss_nil)) (pss_cons (ps_set (i := 5) sc__law_run.nd rfl (by first | exact Or.inl rfl | exact Or.inr rfl) (pe_cl c__law_take hr (by decide) (pat_of (W := fun cls d _ H => E cls d H) (L2N.takes_of rfl rfl rfl rfl)) (pa_cons (pv 0) (pa_cons (pe_callB (call_max2A rfl) (by rfl) T.b_max (by decide +kernel) (pa_cons (pe_int) (pa_cons (pe_op op_sub (pv 3) (pe_int)) (pa_nil)))) (pa_nil))))) (pss_cons (ps_set (i := 6) sc__law_run.nd rfl (by first | exact Or.inl rfl | exact Or.inr rfl) (pe_listRg rfl rfl T.b_list (prg_2 rfl T.b_range (pe_op op_addA (pe_int) (pv 5)) (pe_op op_addA (pe_op op_addA (pe_int) (pv 5)) (pe_callB (call_min2A rfl) (by rfl) T.b_min (by decide +kernel) (pa_cons (pv 3) (pa_cons (pe_int) (pa_nil)))))))) (pss_cons (ps_set (i := 7) sc__law_run.nd rfl (by first | exact Or.inl rfl | exact Or.inr rfl) (pe_cl c__law_path hr (by decide) (pat_of (W := fun cls d _ H => E cls d H) (L2N.takes_of rfl rfl rfl rfl)) (pa_cons (pv 0) (pa_cons (pe_callB call_lenA (by rfl) T.b_len (by decide +kernel) (pa_cons (pv 6) (pa_nil))) (pa_nil))))) (pss_cons (ps_set (i := 8) sc__law_run.nd rfl (by first | exact Or.inl rfl | exact Or.inr rfl) (pe_mk m_Links hr (by decide) (pat_of (W := fun cls d _ H => E cls d H) (L2N.takes_of rfl rfl rfl rfl)) (pa_cons (pv 3) (pa_nil)))) (pss_cons (ps_set (i := 9) sc__law_run.nd rfl (by first | exact Or.inl rfl | exact Or.inr rfl) (pe_cl c__law_whole hr (by decide) (pat_of (W := fun cls d _ H => E cls d H) (L2N.takes_of rfl rfl rfl rfl)) (pa_cons (pv 3) (pa_nil)))) (pss_cons (ps_for (passes_of rfl) rfl (pi_range1 rfl T.b_range (pa_cons (pe_callB (call_max2A rfl) (by rfl) T.b_max (by decide +kernel) (pa_cons (pv 4) (pa_cons (pe_callB call_lenA (by rfl) T.b_len (by decide +kernel) (pa_cons (pv 7) (pa_nil))) (pa_nil)))) (pa_nil))) (pg_name (i := 10) sc__law_run.nd rfl (by first | exact Or.inl rfl | exact Or.inr rfl)) (pss_cons (ps_if ((pw_or (pt_not (pt_val (pe_cl c__law_judged hr (by decide) (pat_of (W := fun cls d _ H => E cls d H) (L2N.takes_of rfl rfl rfl rfl)) (pa_cons (pv 9) (pa_cons (pv 8) (pa_nil)))))) (pw_or1 (pt_not (pt_val (pe_cl c__law_moment hr (by decide) (pat_of (W := fun cls d _ H => E cls d H) (L2N.takes_of rfl rfl rfl rfl)) (pa_cons (pv 9) (pa_cons (pv 8) (pa_cons (pv 1) (pa_cons (pv 6) (pa_nil)))))))))).pt) (pss_one (ps_ret (pe_bl))) (pss_nil)) (pss_cons (ps_set (i := 11) sc__law_run.nd rfl (by first | exact Or.inl rfl | exact Or.inr rfl) (pe_cl c__law_good hr (by decide) (pat_of (W := fun cls d _ H => E cls d H) (L2N.takes_of rfl rfl rfl rfl)) (pa_cons (pv 9) (pa_cons (pv 1) (pa_cons (pv 6) (pa_nil)))))) (pss_cons (ps_setLc (i := 12) (own := [("node", 13)]) (g := gName 13) (tt := tTest (tOp (rIn K true) (tVar 13) (tVar 11))) (te := tVar 13) rfl sc__law_run.nd rfl rfl (sw_true rfl rfl rfl (by decide +kernel)) (pi_list (pv 6)) (blkOk_by (own := [("node", 13)]) (N := ["purse", "word", "wide", "size", "many", "shift", "nodes", "path", "held", "book", "turn", "good", "bad", "node"]) (sc := defScope s__law_run) (by decide +kernel)) (fun _ _ _ _ _ => pg_name (i := 13) sc__law_run.nd rfl (by first | exact Or.inl rfl | exact Or.inr rfl)) (fun _ _ _ _ _ => pts_one (pt_cmpR op_notIn_seq (pv 13) (pv 11) (rfl))) (fun _ _ _ _ _ => pv 13)) (pss_cons (ps_if ((pw_and (pt_tr (pv 12) (by intro _; rfl)) (pw_and1 (pt_cmpR (op_eqA hr) (pe_cl c__law_take hr (by decide) (pat_of (W := fun cls d _ H => E cls d H) (L2N.takes_of rfl rfl rfl rfl)) (pa_cons (pv 0) (pa_cons (pe_int) (pa_nil)))) (pe_int) (nomark _)))).pt) (pss_one (ps_if (pt_not (pt_val (pe_cl c__law_worse hr (by decide) (pat_of (W := fun cls d _ H => E cls d H) (L2N.takes_of rfl rfl rfl rfl)) (pa_cons (pv 0) (pa_cons (pv 9) (pa_cons (pv 8) (pa_cons (pe_ix ix_seq (pv 12) (pe_cl c__law_take hr (by decide) (pat_of (W := fun cls d _ H => E cls d H) (L2N.takes_of rfl rfl rfl rfl)) (pa_cons (pv 0) (pa_cons (pe_callB call_lenA (by rfl) T.b_len (by decide +kernel) (pa_cons (pv 12) (pa_nil))) (pa_nil)))) (fun _ _ => rfl)) (pa_cons (pv 1) (pa_nil))))))))) (pss_one (ps_ret (pe_bl))) (pss_nil))) (pss_nil)) (pss_one (ps_if (pt_tr (pv 11) (by intro _; rfl)) (pss_cons (ps_set (i := 13) sc__law_run.nd rfl (by first | exact Or.inl rfl | exact Or.inr rfl) (pe_ix ix_seq (pv 11) (pe_cl c__law_take hr (by decide) (pat_of (W := fun cls d _ H => E cls d H) (L2N.takes_of rfl rfl rfl rfl)) (pa_cons (pv 0) (pa_cons (pe_callB call_lenA (by rfl) T.b_len (by decide +kernel) (pa_cons (pv 11) (pa_nil))) (pa_nil)))) (fun _ _ => rfl))) (pss_cons (ps_if ((pw_and (pt_cmpR op_lt (pv 10) (pe_callB call_lenA (by rfl) T.b_len (by decide +kernel) (pa_cons (pv 7) (pa_nil))) (nomark _)) (pw_and1 (pt_cmpR op_in_seq (pe_op op_addA (pv 5) (pe_ix ix_seq (pv 7) (pv 10) (fun _ _ => rfl))) (pv 11) (rfl)))).pt) (pss_one (ps_set (i := 13) sc__law_run.nd rfl (by first | exact Or.inl rfl | exact Or.inr rfl) (pe_op op_addA (pv 5) (pe_ix ix_seq (pv 7) (pv 10) (fun _ _ => rfl))))) (pss_nil)) (pss_cons (ps_expr (pe_mt c_Links_apply T.cl_Links hr (by decide) (pat_of (W := fun cls d _ H => E cls d H) (L2N.takes_of rfl rfl rfl rfl)) (pv 8) (pa_cons (pe_cl c__law_operation hr (by decide) (pat_of (W := fun cls d _ H => E cls d H) (L2N.takes_of rfl rfl rfl rfl)) (pa_cons (pv 9) (pa_cons (pv 13) (pa_nil)))) (pa_nil)))) (pss_one (ps_set (i := 9) sc__law_run.nd rfl (by first | exact Or.inl rfl | exact Or.inr rfl) (pe_cl c__law_moved hr (by decide) (pat_of (W := fun cls d _ H => E cls d H) (L2N.takes_of rfl rfl rfl rfl)) (pa_cons (pv 9) (pa_cons (pv 13) (pa_nil))))))))) (pss_nil)))))))) (pss_cons (ps_if ((pw_or (pt_not (pt_val (pe_cl c__law_judged hr (by decide) (pat_of (W := fun cls d _ H => E cls d H) (L2N.takes_of rfl rfl rfl rfl)) (pa_cons (pv 9) (pa_cons (pv 8) (pa_nil)))))) (pw_or1 (pt_not (pt_val (pe_cl c__law_moment hr (by decide) (pat_of (W := fun cls d _ H => E cls d H) (L2N.takes_of rfl rfl rfl rfl)) (pa_cons (pv 9) (pa_cons (pv 8) (pa_cons (pv 1) (pa_cons (pv 6) (pa_nil)))))))))).pt) (pss_one (ps_ret (pe_bl))) (pss_nil)) (pss_cons (ps_if ((pw_or (pt_cmpR (op_eqA hr) (pv 1) (pe_str) (nomark _)) (pw_or1 (pt_cmpR (op_eqA hr) (pv 1) (pe_str) (nomark _)))).pt) (pss_one (ps_ret (pe_cl c__law_finish hr (by decide) (pat_of (W := fun cls d _ H => E cls d H) (L2N.takes_of rfl rfl rfl rfl)) (pa_cons (pv 0) (pa_cons (pv 9) (pa_cons (pv 8) (pa_cons (pv 1) (pa_nil)))))))) (pss_nil)) (pss_one (ps_ret (pe_bl)))))))))))))), rd__law_run T vs H Q E h⟩
theorem ok__law_words {f : Addr} {fd : FuncData} (T : Txt K mg) (F : FunD K "_law_words" "_law_words" (defArgs s__law_words) (defBody s__law_words) (defScope s__law_words) [] [] f fd)  : FnOk P w K mg base (L2N.CX P w) 1 f fd [] (sp13__law_words K) :=
  F.ok sc__law_words (len__law_words K) fun cdv A outer s H vs Q E hr h => ⟨t__law_words K E, pss_one (ps_ret (pe_lst (pa_cons (pe_str) (pa_cons (pe_str) (pa_cons (pe_str) (pa_cons (pe_str) (pa_nil))))))), rd__law_words T vs H Q E h⟩
theorem ok_law {f : Addr} {fd : FuncData} (T : Txt K mg) (F : FunD K "law" "law" (defArgs s_law) (defBody s_law) (defScope s_law) [] [] f fd) (c__law_purse : Cal P w K mg base 1 "_law_purse" ["script"] (sp13__law_purse K)) (c__law_run : Cal P w K mg base 13 "_law_run" ["purse", "word"] (sp13__law_run K)) (c__law_words : Cal P w K mg base 1 "_law_words" [] (sp13__law_words K)) : FnOk P w K mg base (L2N.CX P w) 14 f fd ["script"] (sp_law K) :=
  F.ok sc_law (len_law K) fun cdv A outer s H vs Q E hr h => ⟨t_law K E, pss_cons (ps_set (i := 1) sc_law.nd rfl (by first | exact Or.inl rfl | exact Or.inr rfl) (pe_cl c__law_purse hr (by decide) (pat_of (W := fun cls d _ H => E cls d H) (L2N.takes_of rfl rfl rfl rfl)) (pa_cons (pv 0) (pa_nil)))) (pss_cons (ps_for (passes_of rfl) rfl (pi_list (pe_cl0 c__law_words hr (by decide) (pat_of (W := fun cls d _ H => E cls d H) (L2N.takes_of rfl rfl rfl rfl)))) (pg_name (i := 2) sc_law.nd rfl (by first | exact Or.inl rfl | exact Or.inr rfl)) (pss_one (ps_if (pt_not (pt_val (pe_cl c__law_run hr (by decide) (pat_of (W := fun cls d _ H => E cls d H) (L2N.takes_of rfl rfl rfl rfl)) (pa_cons (pv 1) (pa_cons (pv 2) (pa_nil)))))) (pss_one (ps_ret (pe_bl))) (pss_nil)))) (pss_one (ps_ret (pe_bl)))), rd_law T vs H Q E h⟩
end
end G
set_option Elab.async false
set_option linter.all false
set_option maxRecDepth 100000
set_option maxHeartbeats 4000000
namespace G
open PySem PySem.Spec PyProof.Rows L2
theorem facts {P : Program} {w : World} {K : PySem.W.Frag} {h : Heap} {mg : Str → Option Value} {f : Addr} (X : K.In h) (G : h.Ns mainGlobals mg) (hfa : mg ("law" : Str) = some (.ref f)) (c : SaysS chkL fnL fsL K) (hfile : ((P.main.file : Str) == PySem.Challenge.pw_latelink_k13_whole_modes_keep.main.file) = true) (htop : (P.main.scope.names.lookup ("super" : Str)).isSome = false) :
    ∃ fd : FuncData, (∀ (s : Shared) (v : Value), BindsTo s fd ⟨[v], []⟩ [("script", v)]) ∧ ∀ base : Heap, K.In base → base.Ns mainGlobals mg → FnOk P w K mg base (L2N.CX P w) 14 f fd ["script"] (sp_law K) := by
  have T := txt_of X G c.toY
  obtain ⟨fd__law_purse, F__law_purse⟩ := c.toY.def_ 0 (d := d__law_purse) rfl
  obtain ⟨fd_check_size, F_check_size⟩ := c.toY.def_ 1 (d := d_check_size) rfl
  obtain ⟨fd_Links___init__, F_Links___init__⟩ := c.toY.def_ 2 (d := d_Links___init__) rfl
  obtain ⟨fd_Links_is_legal, F_Links_is_legal⟩ := c.toY.def_ 3 (d := d_Links_is_legal) rfl
  obtain ⟨fd_check_operation, F_check_operation⟩ := c.toY.def_ 4 (d := d_check_operation) rfl
  obtain ⟨fd_Links_check, F_Links_check⟩ := c.toY.def_ 5 (d := d_Links_check) rfl
  obtain ⟨fd_Links_apply_at, F_Links_apply_at⟩ := c.toY.def_ 6 (d := d_Links_apply_at) rfl
  obtain ⟨fd_Links_apply, F_Links_apply⟩ := c.toY.def_ 7 (d := d_Links_apply) rfl
  obtain ⟨fd_Links___eq__, F_Links___eq__⟩ := c.toY.def_ 8 (d := d_Links___eq__) rfl
  obtain ⟨fd_Links_is_whole, F_Links_is_whole⟩ := c.toY.def_ 9 (d := d_Links_is_whole) rfl
  obtain ⟨fd__law_holders, F__law_holders⟩ := c.toY.def_ 10 (d := d__law_holders) rfl
  obtain ⟨fd__law_lost, F__law_lost⟩ := c.toY.def_ 11 (d := d__law_lost) rfl
  obtain ⟨fd__law_sound, F__law_sound⟩ := c.toY.def_ 12 (d := d__law_sound) rfl
  obtain ⟨fd__law_harmed, F__law_harmed⟩ := c.toY.def_ 13 (d := d__law_harmed) rfl
  obtain ⟨fd__law_moved, F__law_moved⟩ := c.toY.def_ 14 (d := d__law_moved) rfl
  obtain ⟨fd__law_good, F__law_good⟩ := c.toY.def_ 15 (d := d__law_good) rfl
  obtain ⟨fd_Links_outs, F_Links_outs⟩ := c.toY.def_ 16 (d := d_Links_outs) rfl
  obtain ⟨fd__joined, F__joined⟩ := c.toY.def_ 17 (d := d__joined) rfl
  obtain ⟨fd_dump_of, F_dump_of⟩ := c.toY.def_ 18 (d := d_dump_of) rfl
  obtain ⟨fd_Links_dump, F_Links_dump⟩ := c.toY.def_ 19 (d := d_Links_dump) rfl
  obtain ⟨fd_Links_is_sound, F_Links_is_sound⟩ := c.toY.def_ 20 (d := d_Links_is_sound) rfl
  obtain ⟨fd__law_dump, F__law_dump⟩ := c.toY.def_ 21 (d := d__law_dump) rfl
  obtain ⟨fd__law_is, F__law_is⟩ := c.toY.def_ 22 (d := d__law_is) rfl
  obtain ⟨fd__law_ints, F__law_ints⟩ := c.toY.def_ 23 (d := d__law_ints) rfl
  obtain ⟨fd__law_truth, F__law_truth⟩ := c.toY.def_ 24 (d := d__law_truth) rfl
  obtain ⟨fd__law_whole, F__law_whole⟩ := c.toY.def_ 25 (d := d__law_whole) rfl
  obtain ⟨fd_Links_left, F_Links_left⟩ := c.toY.def_ 26 (d := d_Links_left) rfl
  obtain ⟨fd_Links_right, F_Links_right⟩ := c.toY.def_ 27 (d := d_Links_right) rfl
  obtain ⟨fd_check_gap, F_check_gap⟩ := c.toY.def_ 28 (d := d_check_gap) rfl
  obtain ⟨fd_gap_state, F_gap_state⟩ := c.toY.def_ 29 (d := d_gap_state) rfl
  obtain ⟨fd_gap_states, F_gap_states⟩ := c.toY.def_ 30 (d := d_gap_states) rfl
  obtain ⟨fd_lost_gaps, F_lost_gaps⟩ := c.toY.def_ 31 (d := d_lost_gaps) rfl
  obtain ⟨fd_sole_holders, F_sole_holders⟩ := c.toY.def_ 32 (d := d_sole_holders) rfl
  obtain ⟨fd__law_judged, F__law_judged⟩ := c.toY.def_ 33 (d := d__law_judged) rfl
  obtain ⟨fd__law_take, F__law_take⟩ := c.toY.def_ 34 (d := d__law_take) rfl
  obtain ⟨fd_Links_is_out, F_Links_is_out⟩ := c.toY.def_ 35 (d := d_Links_is_out) rfl
  obtain ⟨fd__has_fitting_neighbours, F__has_fitting_neighbours⟩ := c.toY.def_ 36 (d := d__has_fitting_neighbours) rfl
  obtain ⟨fd_foreign_writes, F_foreign_writes⟩ := c.toY.def_ 37 (d := d_foreign_writes) rfl
  obtain ⟨fd_left_to, F_left_to⟩ := c.toY.def_ 38 (d := d_left_to) rfl
  obtain ⟨fd__leaves_a_gap_to_a_holder_that_is_in, F__leaves_a_gap_to_a_holder_that_is_in⟩ := c.toY.def_ 39 (d := d__leaves_a_gap_to_a_holder_that_is_in) rfl
  obtain ⟨fd__loses_a_gap, F__loses_a_gap⟩ := c.toY.def_ 40 (d := d__loses_a_gap) rfl
  obtain ⟨fd_FreeMode_refusal, F_FreeMode_refusal⟩ := c.toY.def_ 41 (d := d_FreeMode_refusal) rfl
  obtain ⟨fd_all_modes, F_all_modes⟩ := c.toY.def_ 42 (d := d_all_modes) rfl
  obtain ⟨fd_mode_named, F_mode_named⟩ := c.toY.def_ 43 (d := d_mode_named) rfl
  obtain ⟨fd_admits, F_admits⟩ := c.toY.def_ 44 (d := d_admits) rfl
  obtain ⟨fd__law_finish, F__law_finish⟩ := c.toY.def_ 45 (d := d__law_finish) rfl
  obtain ⟨fd__law_operation, F__law_operation⟩ := c.toY.def_ 46 (d := d__law_operation) rfl
  obtain ⟨fd_admitted, F_admitted⟩ := c.toY.def_ 47 (d := d_admitted) rfl
  obtain ⟨fd__law_moment, F__law_moment⟩ := c.toY.def_ 48 (d := d__law_moment) rfl
  obtain ⟨fd__law_path, F__law_path⟩ := c.toY.def_ 49 (d := d__law_path) rfl
  obtain ⟨fd_Links_copy, F_Links_copy⟩ := c.toY.def_ 50 (d := d_Links_copy) rfl
  obtain ⟨fd__law_worse, F__law_worse⟩ := c.toY.def_ 51 (d := d__law_worse) rfl
  obtain ⟨fd__law_run, F__law_run⟩ := c.toY.def_ 52 (d := d__law_run) rfl
  obtain ⟨fd__law_words, F__law_words⟩ := c.toY.def_ 53 (d := d__law_words) rfl
  obtain ⟨fd_law, F_law⟩ := c.toY.def_ 54 (d := d_law) rfl
  obtain ⟨fd_BadGap___init__, F_BadGap___init__⟩ := c.toY.def_ 55 (d := d_BadGap___init__) rfl
  obtain ⟨fd_BadMode___init__, F_BadMode___init__⟩ := c.toY.def_ 56 (d := d_BadMode___init__) rfl
  obtain ⟨fd_BadNode___init__, F_BadNode___init__⟩ := c.toY.def_ 57 (d := d_BadNode___init__) rfl
  obtain ⟨fd_BadSize___init__, F_BadSize___init__⟩ := c.toY.def_ 58 (d := d_BadSize___init__) rfl
  obtain ⟨fd_LogError___init__, F_LogError___init__⟩ := c.toY.def_ 59 (d := d_LogError___init__) rfl
  obtain ⟨fd_SavingMode_refusal, F_SavingMode_refusal⟩ := c.sup P 0 (d := d_SavingMode_refusal) hfile rfl
  obtain ⟨fd_GuardedMode_refusal, F_GuardedMode_refusal⟩ := c.sup P 1 (d := d_GuardedMode_refusal) hfile rfl
  obtain ⟨fd_CheckedMode_refusal, F_CheckedMode_refusal⟩ := c.sup P 2 (d := d_CheckedMode_refusal) hfile rfl
  have e := hfa.symm.trans T.gf_law
  cases e
  have bA := FunD.bindsA (ps := ["script"]) F_law fun _ _ _ _ _ _ us hl => match us, hl with | [_], _ => rfl
  refine ⟨fd_law, fun s v => bA s [v] rfl, fun base _ _ => ?_⟩
  have i_BadGap : FnOk P w K mg base (L2N.CX P w) 1 (He.ma K (He.ga K "BadGap") "__init__") fd_BadGap___init__ ["self", "gap"] (spIn K ["gap"]) := FunD.ok F_BadGap___init__ sc_BadGap___init__ (spIn_len rfl) fun cdv A outer s H vs Q E hr h => ⟨_, pss_one (ps_ost (pv 0) (pv 1)), ini1 rfl h⟩
  have i_BadMode : FnOk P w K mg base (L2N.CX P w) 1 (He.ma K (He.ga K "BadMode") "__init__") fd_BadMode___init__ ["self", "name"] (spIn K ["name"]) := FunD.ok F_BadMode___init__ sc_BadMode___init__ (spIn_len rfl) fun cdv A outer s H vs Q E hr h => ⟨_, pss_one (ps_ost (pv 0) (pv 1)), ini1 rfl h⟩
  have i_BadNode : FnOk P w K mg base (L2N.CX P w) 1 (He.ma K (He.ga K "BadNode") "__init__") fd_BadNode___init__ ["self", "node"] (spIn K ["node"]) := FunD.ok F_BadNode___init__ sc_BadNode___init__ (spIn_len rfl) fun cdv A outer s H vs Q E hr h => ⟨_, pss_one (ps_ost (pv 0) (pv 1)), ini1 rfl h⟩
  have i_BadSize : FnOk P w K mg base (L2N.CX P w) 1 (He.ma K (He.ga K "BadSize") "__init__") fd_BadSize___init__ ["self", "size"] (spIn K ["size"]) := FunD.ok F_BadSize___init__ sc_BadSize___init__ (spIn_len rfl) fun cdv A outer s H vs Q E hr h => ⟨_, pss_one (ps_ost (pv 0) (pv 1)), ini1 rfl h⟩
  have i_LogError : FnOk P w K mg base (L2N.CX P w) 1 (He.ma K (He.ga K "LogError") "__init__") fd_LogError___init__ ["self", "operation", "index"] (spIn K ["operation", "index"]) := FunD.ok F_LogError___init__ sc_LogError___init__ (spIn_len rfl) fun cdv A outer s H vs Q E hr h => ⟨_, pss_cons (ps_ost (pv 0) (pv 1)) (pss_one (ps_ost (pv 0) (pv 2))), ini2 rfl h⟩
  have x_BadGap : ExM P w K mg base 1 "BadGap" (He.ga K "BadGap") ["gap"] := ⟨T.oe_BadGap.1, T.oe_BadGap.2, T.g_BadGap, _, fd_BadGap___init__, ["self", "gap"], i_BadGap, T.in_BadGap.1, T.in_BadGap.2, FunD.bindsN (ps := ["self", "gap"]) F_BadGap___init__ fun _ _ _ _ _ _ us hl => match us, hl with | [_, _], _ => rfl⟩
  have x_BadMode : ExM P w K mg base 1 "BadMode" (He.ga K "BadMode") ["name"] := ⟨T.oe_BadMode.1, T.oe_BadMode.2, T.g_BadMode, _, fd_BadMode___init__, ["self", "name"], i_BadMode, T.in_BadMode.1, T.in_BadMode.2, FunD.bindsN (ps := ["self", "name"]) F_BadMode___init__ fun _ _ _ _ _ _ us hl => match us, hl with | [_, _], _ => rfl⟩
  have x_BadNode : ExM P w K mg base 1 "BadNode" (He.ga K "BadNode") ["node"] := ⟨T.oe_BadNode.1, T.oe_BadNode.2, T.g_BadNode, _, fd_BadNode___init__, ["self", "node"], i_BadNode, T.in_BadNode.1, T.in_BadNode.2, FunD.bindsN (ps := ["self", "node"]) F_BadNode___init__ fun _ _ _ _ _ _ us hl => match us, hl with | [_, _], _ => rfl⟩
  have x_BadOperation : ExM P w K mg base 1 "BadOperation" (He.ga K "BadOperation") ["operation", "index"] := ⟨T.oe_BadOperation.1, T.oe_BadOperation.2, T.g_BadOperation, _, fd_LogError___init__, ["self", "operation", "index"], i_LogError, (T.sm_BadOperation ▸ T.in_BadOperation).1, (T.sm_BadOperation ▸ T.in_BadOperation).2, FunD.bindsN (ps := ["self", "operation", "index"]) F_LogError___init__ fun _ _ _ _ _ _ us hl => match us, hl with | [_, _, _], _ => rfl⟩
  have x_BadSize : ExM P w K mg base 1 "BadSize" (He.ga K "BadSize") ["size"] := ⟨T.oe_BadSize.1, T.oe_BadSize.2, T.g_BadSize, _, fd_BadSize___init__, ["self", "size"], i_BadSize, T.in_BadSize.1, T.in_BadSize.2, FunD.bindsN (ps := ["self", "size"]) F_BadSize___init__ fun _ _ _ _ _ _ us hl => match us, hl with | [_, _], _ => rfl⟩
  have x_Illegal : ExM P w K mg base 1 "Illegal" (He.ga K "Illegal") ["operation", "index"] := ⟨T.oe_Illegal.1, T.oe_Illegal.2, T.g_Illegal, _, fd_LogError___init__, ["self", "operation", "index"], i_LogError, (T.sm_Illegal ▸ T.in_Illegal).1, (T.sm_Illegal ▸ T.in_Illegal).2, FunD.bindsN (ps := ["self", "operation", "index"]) F_LogError___init__ fun _ _ _ _ _ _ us hl => match us, hl with | [_, _, _], _ => rfl⟩
  have c__law_purse : Cal P w K mg base 1 "_law_purse" ["script"] (sp13__law_purse K) := ⟨_, fd__law_purse, ok__law_purse T F__law_purse , T.gf__law_purse, F__law_purse.kp, FunD.bindsN (ps := ["script"]) F__law_purse fun _ _ _ _ _ _ us hl => match us, hl with | [_], _ => rfl⟩
  have c_check_size : Cal P w K mg base 3 "check_size" ["size"] (sp_check_size K) := ⟨_, fd_check_size, ok_check_size T F_check_size x_BadSize, T.gf_check_size, F_check_size.kp, FunD.bindsN (ps := ["size"]) F_check_size fun _ _ _ _ _ _ us hl => match us, hl with | [_], _ => rfl⟩
  have m_Links : Mak P w K mg base 4 "Links" (He.ga K "Links") ["self", "size"] (sp_Links___init__ K) := ⟨_, fd_Links___init__, ok_Links___init__ T F_Links___init__ c_check_size, T.mk_Links, T.g_Links, FunD.bindsN (ps := ["self", "size"]) F_Links___init__ fun _ _ _ _ _ _ us hl => match us, hl with | [_, _], _ => rfl⟩
  have c_Links_is_legal : Met P w K mg base 1 (He.ga K "Links") "is_legal" ["self", "operation"] (sp_Links_is_legal K) := ⟨_, fd_Links_is_legal, ok_Links_is_legal T F_Links_is_legal , T.me_Links_is_legal, FunD.bindsN (ps := ["self", "operation"]) F_Links_is_legal fun _ _ _ _ _ _ us hl => match us, hl with | [_, _], _ => rfl⟩
  have c_check_operation : Cal P w K mg base 3 "check_operation" ["size", "operation", "index"] (sp_check_operation K) := ⟨_, fd_check_operation, ok_check_operation T F_check_operation x_BadOperation, T.gf_check_operation, F_check_operation.kp, FunD.bindsN (ps := ["size", "operation", "index"]) F_check_operation fun _ _ _ _ _ _ us hl => match us, hl with | [_, _, _], _ => rfl⟩
  have c_Links_check : Met P w K mg base 4 (He.ga K "Links") "check" ["self", "operation", "index"] (sp_Links_check K) := ⟨_, fd_Links_check, ok_Links_check T F_Links_check c_Links_is_legal c_check_operation x_Illegal, T.me_Links_check, FunD.bindsN (ps := ["self", "operation", "index"]) F_Links_check fun _ _ _ _ _ _ us hl => match us, hl with | [_, _, _], _ => rfl⟩
  have c_Links_apply_at : Met P w K mg base 5 (He.ga K "Links") "apply_at" ["self", "operation", "index"] (sp_Links_apply_at K) := ⟨_, fd_Links_apply_at, ok_Links_apply_at T F_Links_apply_at c_Links_check, T.me_Links_apply_at, FunD.bindsN (ps := ["self", "operation", "index"]) F_Links_apply_at fun _ _ _ _ _ _ us hl => match us, hl with | [_, _, _], _ => rfl⟩
  have c_Links_apply : Met P w K mg base 6 (He.ga K "Links") "apply" ["self", "operation"] (sp_Links_apply K) := ⟨_, fd_Links_apply, ok_Links_apply T F_Links_apply c_Links_apply_at, T.me_Links_apply, FunD.bindsN (ps := ["self", "operation"]) F_Links_apply fun _ _ _ _ _ _ us hl => match us, hl with | [_, _], _ => rfl⟩
  have c_Links___eq__ : Met P w K mg base 1 (He.ga K "Links") "__eq__" ["self", "other"] (sp23_Links___eq__ K) := ⟨_, fd_Links___eq__, ok_Links___eq__ T F_Links___eq__ , T.me_Links___eq__, FunD.bindsN (ps := ["self", "other"]) F_Links___eq__ fun _ _ _ _ _ _ us hl => match us, hl with | [_, _], _ => rfl⟩
  have c_Links_is_whole : Met P w K mg base 6 (He.ga K "Links") "is_whole" ["self"] (sp23_Links_is_whole K) := ⟨_, fd_Links_is_whole, ok_Links_is_whole T F_Links_is_whole c_Links___eq__ m_Links, T.me_Links_is_whole, FunD.bindsN (ps := ["self"]) F_Links_is_whole fun _ _ _ _ _ _ us hl => match us, hl with | [_], _ => rfl⟩
  have c__law_holders : Cal P w K mg base 1 "_law_holders" ["book"] (sp13__law_holders K) := ⟨_, fd__law_holders, ok__law_holders T F__law_holders , T.gf__law_holders, F__law_holders.kp, FunD.bindsN (ps := ["book"]) F__law_holders fun _ _ _ _ _ _ us hl => match us, hl with | [_], _ => rfl⟩
  have c__law_lost : Cal P w K mg base 1 "_law_lost" ["book"] (sp16__law_lost K) := ⟨_, fd__law_lost, ok__law_lost T F__law_lost , T.gf__law_lost, F__law_lost.kp, FunD.bindsN (ps := ["book"]) F__law_lost fun _ _ _ _ _ _ us hl => match us, hl with | [_], _ => rfl⟩
  have c__law_sound : Cal P w K mg base 1 "_law_sound" ["book"] (sp13__law_sound K) := ⟨_, fd__law_sound, ok__law_sound T F__law_sound , T.gf__law_sound, F__law_sound.kp, FunD.bindsN (ps := ["book"]) F__law_sound fun _ _ _ _ _ _ us hl => match us, hl with | [_], _ => rfl⟩
  have c__law_harmed : Cal P w K mg base 2 "_law_harmed" ["book", "word"] (sp13__law_harmed K) := ⟨_, fd__law_harmed, ok__law_harmed T F__law_harmed c__law_holders c__law_lost c__law_sound, T.gf__law_harmed, F__law_harmed.kp, FunD.bindsN (ps := ["book", "word"]) F__law_harmed fun _ _ _ _ _ _ us hl => match us, hl with | [_, _], _ => rfl⟩
  have c__law_moved : Cal P w K mg base 1 "_law_moved" ["book", "node"] (sp13__law_moved K) := ⟨_, fd__law_moved, ok__law_moved T F__law_moved , T.gf__law_moved, F__law_moved.kp, FunD.bindsN (ps := ["book", "node"]) F__law_moved fun _ _ _ _ _ _ us hl => match us, hl with | [_, _], _ => rfl⟩
  have c__law_good : Cal P w K mg base 3 "_law_good" ["book", "word", "nodes"] (sp13__law_good K) := ⟨_, fd__law_good, ok__law_good T F__law_good c__law_harmed c__law_moved, T.gf__law_good, F__law_good.kp, FunD.bindsN (ps := ["book", "word", "nodes"]) F__law_good fun _ _ _ _ _ _ us hl => match us, hl with | [_, _, _], _ => rfl⟩
  have c_Links_outs : Met P w K mg base 1 (He.ga K "Links") "outs" ["self"] (sp_Links_outs K) := ⟨_, fd_Links_outs, ok_Links_outs T F_Links_outs , T.me_Links_outs, FunD.bindsN (ps := ["self"]) F_Links_outs fun _ _ _ _ _ _ us hl => match us, hl with | [_], _ => rfl⟩
  have c__joined : Cal P w K mg base 1 "_joined" ["numbers"] (sp__joined K) := ⟨_, fd__joined, ok__joined T F__joined , T.gf__joined, F__joined.kp, FunD.bindsN (ps := ["numbers"]) F__joined fun _ _ _ _ _ _ us hl => match us, hl with | [_], _ => rfl⟩
  have c_dump_of : Cal P w K mg base 2 "dump_of" ["rights", "lefts", "outs"] (sp_dump_of K) := ⟨_, fd_dump_of, ok_dump_of T F_dump_of c__joined, T.gf_dump_of, F_dump_of.kp, FunD.bindsN (ps := ["rights", "lefts", "outs"]) F_dump_of fun _ _ _ _ _ _ us hl => match us, hl with | [_, _, _], _ => rfl⟩
  have c_Links_dump : Met P w K mg base 3 (He.ga K "Links") "dump" ["self"] (sp_Links_dump K) := ⟨_, fd_Links_dump, ok_Links_dump T F_Links_dump c_Links_outs c_dump_of, T.me_Links_dump, FunD.bindsN (ps := ["self"]) F_Links_dump fun _ _ _ _ _ _ us hl => match us, hl with | [_], _ => rfl⟩
  have c_Links_is_sound : Met P w K mg base 1 (He.ga K "Links") "is_sound" ["self"] (sp04_Links_is_sound K) := ⟨_, fd_Links_is_sound, ok_Links_is_sound T F_Links_is_sound , T.me_Links_is_sound, FunD.bindsN (ps := ["self"]) F_Links_is_sound fun _ _ _ _ _ _ us hl => match us, hl with | [_], _ => rfl⟩
  have c__law_dump : Cal P w K mg base 1 "_law_dump" ["book"] (sp13__law_dump K) := ⟨_, fd__law_dump, ok__law_dump T F__law_dump , T.gf__law_dump, F__law_dump.kp, FunD.bindsN (ps := ["book"]) F__law_dump fun _ _ _ _ _ _ us hl => match us, hl with | [_], _ => rfl⟩
  have c__law_is : Cal P w K mg base 1 "_law_is" ["told", "due"] (sp13__law_is K) := ⟨_, fd__law_is, ok__law_is T F__law_is , T.gf__law_is, F__law_is.kp, FunD.bindsN (ps := ["told", "due"]) F__law_is fun _ _ _ _ _ _ us hl => match us, hl with | [_, _], _ => rfl⟩
  have c__law_ints : Cal P w K mg base 2 "_law_ints" ["told", "due"] (sp13__law_ints K) := ⟨_, fd__law_ints, ok__law_ints T F__law_ints c__law_is, T.gf__law_ints, F__law_ints.kp, FunD.bindsN (ps := ["told", "due"]) F__law_ints fun _ _ _ _ _ _ us hl => match us, hl with | [_, _], _ => rfl⟩
  have c__law_truth : Cal P w K mg base 1 "_law_truth" ["told", "due"] (sp13__law_truth K) := ⟨_, fd__law_truth, ok__law_truth T F__law_truth , T.gf__law_truth, F__law_truth.kp, FunD.bindsN (ps := ["told", "due"]) F__law_truth fun _ _ _ _ _ _ us hl => match us, hl with | [_, _], _ => rfl⟩
  have c__law_whole : Cal P w K mg base 1 "_law_whole" ["size"] (sp13__law_whole K) := ⟨_, fd__law_whole, ok__law_whole T F__law_whole , T.gf__law_whole, F__law_whole.kp, FunD.bindsN (ps := ["size"]) F__law_whole fun _ _ _ _ _ _ us hl => match us, hl with | [_], _ => rfl⟩
  have c_Links_left : Met P w K mg base 3 (He.ga K "Links") "left" ["self", "node"] (sp_Links_left K) := ⟨_, fd_Links_left, ok_Links_left T F_Links_left x_BadNode, T.me_Links_left, FunD.bindsN (ps := ["self", "node"]) F_Links_left fun _ _ _ _ _ _ us hl => match us, hl with | [_, _], _ => rfl⟩
  have c_Links_right : Met P w K mg base 3 (He.ga K "Links") "right" ["self", "node"] (sp_Links_right K) := ⟨_, fd_Links_right, ok_Links_right T F_Links_right x_BadNode, T.me_Links_right, FunD.bindsN (ps := ["self", "node"]) F_Links_right fun _ _ _ _ _ _ us hl => match us, hl with | [_, _], _ => rfl⟩
  have c_check_gap : Cal P w K mg base 3 "check_gap" ["size", "gap"] (sp_check_gap K) := ⟨_, fd_check_gap, ok_check_gap T F_check_gap x_BadGap, T.gf_check_gap, F_check_gap.kp, FunD.bindsN (ps := ["size", "gap"]) F_check_gap fun _ _ _ _ _ _ us hl => match us, hl with | [_, _], _ => rfl⟩
  have c_gap_state : Cal P w K mg base 4 "gap_state" ["links", "gap"] (sp_gap_state K) := ⟨_, fd_gap_state, ok_gap_state T F_gap_state c_Links_left c_Links_right c_check_gap, T.gf_gap_state, F_gap_state.kp, FunD.bindsN (ps := ["links", "gap"]) F_gap_state fun _ _ _ _ _ _ us hl => match us, hl with | [_, _], _ => rfl⟩
  have c_gap_states : Cal P w K mg base 5 "gap_states" ["links"] (sp_gap_states K) := ⟨_, fd_gap_states, ok_gap_states T F_gap_states c_gap_state, T.gf_gap_states, F_gap_states.kp, FunD.bindsN (ps := ["links"]) F_gap_states fun _ _ _ _ _ _ us hl => match us, hl with | [_], _ => rfl⟩
  have c_lost_gaps : Cal P w K mg base 6 "lost_gaps" ["links"] (sp_lost_gaps K) := ⟨_, fd_lost_gaps, ok_lost_gaps T F_lost_gaps c_gap_states, T.gf_lost_gaps, F_lost_gaps.kp, FunD.bindsN (ps := ["links"]) F_lost_gaps fun _ _ _ _ _ _ us hl => match us, hl with | [_], _ => rfl⟩
  have c_sole_holders : Cal P w K mg base 6 "sole_holders" ["links"] (sp_sole_holders K) := ⟨_, fd_sole_holders, ok_sole_holders T F_sole_holders c_gap_states, T.gf_sole_holders, F_sole_holders.kp, FunD.bindsN (ps := ["links"]) F_sole_holders fun _ _ _ _ _ _ us hl => match us, hl with | [_], _ => rfl⟩
  have c__law_judged : Cal P w K mg base 7 "_law_judged" ["book", "held"] (sp13__law_judged K) := ⟨_, fd__law_judged, ok__law_judged T F__law_judged c_Links_dump c_Links_is_sound c_Links_is_whole c__law_dump c__law_holders c__law_ints c__law_lost c__law_sound c__law_truth c__law_whole c_lost_gaps c_sole_holders, T.gf__law_judged, F__law_judged.kp, FunD.bindsN (ps := ["book", "held"]) F__law_judged fun _ _ _ _ _ _ us hl => match us, hl with | [_, _], _ => rfl⟩
  have c__law_take : Cal P w K mg base 1 "_law_take" ["purse", "many"] (sp13__law_take K) := ⟨_, fd__law_take, ok__law_take T F__law_take , T.gf__law_take, F__law_take.kp, FunD.bindsN (ps := ["purse", "many"]) F__law_take fun _ _ _ _ _ _ us hl => match us, hl with | [_, _], _ => rfl⟩
  have c_Links_is_out : Met P w K mg base 3 (He.ga K "Links") "is_out" ["self", "node"] (sp03_Links_is_out K) := ⟨_, fd_Links_is_out, ok_Links_is_out T F_Links_is_out x_BadNode, T.me_Links_is_out, FunD.bindsN (ps := ["self", "node"]) F_Links_is_out fun _ _ _ _ _ _ us hl => match us, hl with | [_, _], _ => rfl⟩
  have c__has_fitting_neighbours : Cal P w K mg base 4 "_has_fitting_neighbours" ["links", "operation"] (sp__has_fitting_neighbours K) := ⟨_, fd__has_fitting_neighbours, ok__has_fitting_neighbours T F__has_fitting_neighbours c_Links_is_out c_Links_left c_Links_right, T.gf__has_fitting_neighbours, F__has_fitting_neighbours.kp, FunD.bindsN (ps := ["links", "operation"]) F__has_fitting_neighbours fun _ _ _ _ _ _ us hl => match us, hl with | [_, _], _ => rfl⟩
  have c_foreign_writes : Cal P w K mg base 5 "foreign_writes" ["links", "operation"] (sp_foreign_writes K) := ⟨_, fd_foreign_writes, ok_foreign_writes T F_foreign_writes c_Links_check c_Links_left c_Links_right, T.gf_foreign_writes, F_foreign_writes.kp, FunD.bindsN (ps := ["links", "operation"]) F_foreign_writes fun _ _ _ _ _ _ us hl => match us, hl with | [_, _], _ => rfl⟩
  have c_left_to : Cal P w K mg base 1 "left_to" ["operation", "gap"] (sp17_left_to K) := ⟨_, fd_left_to, ok_left_to T F_left_to , T.gf_left_to, F_left_to.kp, FunD.bindsN (ps := ["operation", "gap"]) F_left_to fun _ _ _ _ _ _ us hl => match us, hl with | [_, _], _ => rfl⟩
  have c__leaves_a_gap_to_a_holder_that_is_in : Cal P w K mg base 6 "_leaves_a_gap_to_a_holder_that_is_in" ["links", "operation"] (sp__leaves_a_gap_to_a_holder_that_is_in K) := ⟨_, fd__leaves_a_gap_to_a_holder_that_is_in, ok__leaves_a_gap_to_a_holder_that_is_in T F__leaves_a_gap_to_a_holder_that_is_in c_Links_is_out c_foreign_writes c_left_to, T.gf__leaves_a_gap_to_a_holder_that_is_in, F__leaves_a_gap_to_a_holder_that_is_in.kp, FunD.bindsN (ps := ["links", "operation"]) F__leaves_a_gap_to_a_holder_that_is_in fun _ _ _ _ _ _ us hl => match us, hl with | [_, _], _ => rfl⟩
  have c__loses_a_gap : Cal P w K mg base 6 "_loses_a_gap" ["links", "operation"] (sp__loses_a_gap K) := ⟨_, fd__loses_a_gap, ok__loses_a_gap T F__loses_a_gap c_foreign_writes c_gap_state, T.gf__loses_a_gap, F__loses_a_gap.kp, FunD.bindsN (ps := ["links", "operation"]) F__loses_a_gap fun _ _ _ _ _ _ us hl => match us, hl with | [_, _], _ => rfl⟩
  have o_FreeMode_refusal : FnOk P w K mg base (L2N.CX P w) 5 (He.fAd K ("FreeMode", some "refusal")) fd_FreeMode_refusal ["self", "links", "operation"] (sp_FreeMode_refusal K) := ok_FreeMode_refusal T F_FreeMode_refusal c_Links_check
  have b_FreeMode_refusal : Binds K fd_FreeMode_refusal ["self", "links", "operation"] [] := FunD.bindsN (ps := ["self", "links", "operation"]) F_FreeMode_refusal fun _ _ _ _ _ _ us hl => match us, hl with | [_, _, _], _ => rfl
  have c_FreeMode_refusal : Met P w K mg base 5 (He.ga K "FreeMode") "refusal" ["self", "links", "operation"] (sp_FreeMode_refusal K) := ⟨_, fd_FreeMode_refusal, o_FreeMode_refusal, T.me_FreeMode_refusal, b_FreeMode_refusal⟩
  have o_SavingMode_refusal : FnOk P w K mg base (L2N.CX P w) 7 (He.fAd K ("SavingMode", some "refusal")) fd_SavingMode_refusal ["self", "links", "operation"] (sp_SavingMode_refusal K) := ok_SavingMode_refusal T F_SavingMode_refusal o_FreeMode_refusal b_FreeMode_refusal htop c__loses_a_gap
  have b_SavingMode_refusal : Binds K fd_SavingMode_refusal ["self", "links", "operation"] [] := FunS.bindsN (ps := ["self", "links", "operation"]) F_SavingMode_refusal fun _ _ _ _ _ _ _ us hl => match us, hl with | [_, _, _], _ => rfl
  have c_SavingMode_refusal : Met P w K mg base 7 (He.ga K "SavingMode") "refusal" ["self", "links", "operation"] (sp_SavingMode_refusal K) := ⟨_, fd_SavingMode_refusal, o_SavingMode_refusal, T.me_SavingMode_refusal, b_SavingMode_refusal⟩
  have o_GuardedMode_refusal : FnOk P w K mg base (L2N.CX P w) 8 (He.fAd K ("GuardedMode", some "refusal")) fd_GuardedMode_refusal ["self", "links", "operation"] (sp_GuardedMode_refusal K) := ok_GuardedMode_refusal T F_GuardedMode_refusal o_SavingMode_refusal b_SavingMode_refusal htop c__leaves_a_gap_to_a_holder_that_is_in
  have b_GuardedMode_refusal : Binds K fd_GuardedMode_refusal ["self", "links", "operation"] [] := FunS.bindsN (ps := ["self", "links", "operation"]) F_GuardedMode_refusal fun _ _ _ _ _ _ _ us hl => match us, hl with | [_, _, _], _ => rfl
  have c_GuardedMode_refusal : Met P w K mg base 8 (He.ga K "GuardedMode") "refusal" ["self", "links", "operation"] (sp_GuardedMode_refusal K) := ⟨_, fd_GuardedMode_refusal, o_GuardedMode_refusal, T.me_GuardedMode_refusal, b_GuardedMode_refusal⟩
  have o_CheckedMode_refusal : FnOk P w K mg base (L2N.CX P w) 9 (He.fAd K ("CheckedMode", some "refusal")) fd_CheckedMode_refusal ["self", "links", "operation"] (sp_CheckedMode_refusal K) := ok_CheckedMode_refusal T F_CheckedMode_refusal o_GuardedMode_refusal b_GuardedMode_refusal htop c__has_fitting_neighbours
  have b_CheckedMode_refusal : Binds K fd_CheckedMode_refusal ["self", "links", "operation"] [] := FunS.bindsN (ps := ["self", "links", "operation"]) F_CheckedMode_refusal fun _ _ _ _ _ _ _ us hl => match us, hl with | [_, _, _], _ => rfl
  have c_CheckedMode_refusal : Met P w K mg base 9 (He.ga K "CheckedMode") "refusal" ["self", "links", "operation"] (sp_CheckedMode_refusal K) := ⟨_, fd_CheckedMode_refusal, o_CheckedMode_refusal, T.me_CheckedMode_refusal, b_CheckedMode_refusal⟩
  have c_all_modes : Cal P w K mg base 1 "all_modes" [] (sp_all_modes K) := ⟨_, fd_all_modes, ok_all_modes T F_all_modes , T.gf_all_modes, F_all_modes.kp, FunD.bindsN (ps := []) F_all_modes fun _ _ _ _ _ _ us hl => match us, hl with | [], _ => rfl⟩
  have c_mode_named : Cal P w K mg base 3 "mode_named" ["mode"] (sp_mode_named K) := ⟨_, fd_mode_named, ok_mode_named T F_mode_named c_all_modes x_BadMode, T.gf_mode_named, F_mode_named.kp, FunD.bindsN (ps := ["mode"]) F_mode_named fun _ _ _ _ _ _ us hl => match us, hl with | [_], _ => rfl⟩
  obtain ⟨g_admits, b_admits⟩ := kbn_all (ps := ["links", "operation", "mode"]) F_admits 2 ["mode"] (List.cons_ne_nil _ _) fun _ _ _ _ _ _ us ws l1 l2 => match us, ws, l1, l2 with | [_, _], [_], _, _ => rfl
  have c_admits : CalK P w K mg base 10 "admits" ["links", "operation", "mode"] 2 ["mode"] (sp_admits K) := ⟨_, fd_admits, g_admits, ok_admits T F_admits c_CheckedMode_refusal c_FreeMode_refusal c_GuardedMode_refusal c_SavingMode_refusal c_mode_named, T.gf_admits, F_admits.kp, b_admits⟩
  have c__law_finish : Cal P w K mg base 11 "_law_finish" ["purse", "book", "held", "word"] (sp13__law_finish K) := ⟨_, fd__law_finish, ok__law_finish T F__law_finish c_Links_apply c_Links_is_whole c__law_good c__law_judged c__law_moved c__law_take c__law_truth c_admits, T.gf__law_finish, F__law_finish.kp, FunD.bindsN (ps := ["purse", "book", "held", "word"]) F__law_finish fun _ _ _ _ _ _ us hl => match us, hl with | [_, _, _, _], _ => rfl⟩
  have c__law_operation : Cal P w K mg base 1 "_law_operation" ["book", "node"] (sp__law_operation K) := ⟨_, fd__law_operation, ok__law_operation T F__law_operation , T.gf__law_operation, F__law_operation.kp, FunD.bindsN (ps := ["book", "node"]) F__law_operation fun _ _ _ _ _ _ us hl => match us, hl with | [_, _], _ => rfl⟩
  obtain ⟨g_admitted, b_admitted⟩ := kbn_all (ps := ["links", "mode"]) F_admitted 1 ["mode"] (List.cons_ne_nil _ _) fun _ _ _ _ _ _ us ws l1 l2 => match us, ws, l1, l2 with | [_], [_], _, _ => rfl
  have c_admitted : CalK P w K mg base 11 "admitted" ["links", "mode"] 1 ["mode"] (sp_admitted K) := ⟨_, fd_admitted, g_admitted, ok_admitted T F_admitted c_Links_is_out c_admits c_mode_named, T.gf_admitted, F_admitted.kp, b_admitted⟩
  have c__law_moment : Cal P w K mg base 12 "_law_moment" ["book", "held", "word", "nodes"] (sp13__law_moment K) := ⟨_, fd__law_moment, ok__law_moment T F__law_moment c__law_good c__law_ints c__law_operation c__law_truth c_admits c_admitted, T.gf__law_moment, F__law_moment.kp, FunD.bindsN (ps := ["book", "held", "word", "nodes"]) F__law_moment fun _ _ _ _ _ _ us hl => match us, hl with | [_, _, _, _], _ => rfl⟩
  have c__law_path : Cal P w K mg base 2 "_law_path" ["purse", "wide"] (sp13__law_path K) := ⟨_, fd__law_path, ok__law_path T F__law_path c__law_take, T.gf__law_path, F__law_path.kp, FunD.bindsN (ps := ["purse", "wide"]) F__law_path fun _ _ _ _ _ _ us hl => match us, hl with | [_, _], _ => rfl⟩
  have c_Links_copy : Met P w K mg base 6 (He.ga K "Links") "copy" ["self"] (sp_Links_copy K) := ⟨_, fd_Links_copy, ok_Links_copy T F_Links_copy m_Links, T.me_Links_copy, FunD.bindsN (ps := ["self"]) F_Links_copy fun _ _ _ _ _ _ us hl => match us, hl with | [_], _ => rfl⟩
  have c__law_worse : Cal P w K mg base 8 "_law_worse" ["purse", "book", "held", "node", "word"] (sp13__law_worse K) := ⟨_, fd__law_worse, ok__law_worse T F__law_worse c_Links_apply c_Links_copy c_Links_dump c_Links_is_sound c_Links_is_whole c__law_dump c__law_judged c__law_moved c__law_operation c__law_take, T.gf__law_worse, F__law_worse.kp, FunD.bindsN (ps := ["purse", "book", "held", "node", "word"]) F__law_worse fun _ _ _ _ _ _ us hl => match us, hl with | [_, _, _, _, _], _ => rfl⟩
  have c__law_run : Cal P w K mg base 13 "_law_run" ["purse", "word"] (sp13__law_run K) := ⟨_, fd__law_run, ok__law_run T F__law_run m_Links c_Links_apply c__law_finish c__law_good c__law_judged c__law_moment c__law_moved c__law_operation c__law_path c__law_take c__law_whole c__law_worse, T.gf__law_run, F__law_run.kp, FunD.bindsN (ps := ["purse", "word"]) F__law_run fun _ _ _ _ _ _ us hl => match us, hl with | [_, _], _ => rfl⟩
  have c__law_words : Cal P w K mg base 1 "_law_words" [] (sp13__law_words K) := ⟨_, fd__law_words, ok__law_words T F__law_words , T.gf__law_words, F__law_words.kp, FunD.bindsN (ps := []) F__law_words fun _ _ _ _ _ _ us hl => match us, hl with | [], _ => rfl⟩
  exact ok_law T F_law c__law_purse c__law_run c__law_words
end G
open PySem PySem.W PySem.Calls PyProof.Rows
set_option maxRecDepth 100000 in
set_option maxHeartbeats 0 in
theorem PySem.Challenge.cw_latelink_k13_whole_modes_keep_holds : PySem.Challenge.rw_latelink_k13_whole_modes_keep.Holds := by
  w_on; o_law
  refine HandSHeadRun.head_any (r := OpenLaw.row PySem.Challenge.rw_latelink_k13_whole_modes_keep) (q := view (OpenLaw.row PySem.Challenge.rw_latelink_k13_whole_modes_keep).prog [66]) (H := G.hk) (ob := G.ob) (M := 8000) (loose := G.loose) (d := HandSHeadRun.topDef (OpenLaw.row PySem.Challenge.rw_latelink_k13_whole_modes_keep).prog 66) (kwd := []) G.ob_eq
    (by kernel_rfl) (fun s => by kernel_rfl) G.run (by kernel_rfl) (by kernel_rfl) (by kernel_rfl) (by rfl) (by first | assumption | decide +kernel) (by decide +kernel) ⟨rfl, rfl, rfl, rfl, rfl, by decide +kernel⟩ ?hw ?hc
  case hw => w_witness2
  case hc =>
    refine L2.walk_ofE (l := PySem.Challenge.rw_latelink_k13_whole_modes_keep) (n := 63) (k := 14) (x := "script") (CX := L2.CX0) rfl (by decide) (by kernel_rfl) ⟨rfl, by decide, by decide⟩ ?F (fun _ _ _ _ z => z)
    case F =>
      intro w mg fa h Y Gm hmg0
      obtain ⟨K, KX, c⟩ := Y
      have hmg : mg ("law" : PySem.Str) = some (.ref fa) := by
        have e : (HandSHeadRun.topDef (OpenLaw.row PySem.Challenge.rw_latelink_k13_whole_modes_keep).prog 66).name = ("law" : PySem.Str) := by kernel_rfl
        rw [← e]
        exact hmg0
      obtain ⟨fd, hb, hF⟩ := G.facts (P := (PySem.Challenge.rw_latelink_k13_whole_modes_keep).prog) (w := w) KX Gm hmg c (by decide +kernel) (by decide +kernel)
      exact ⟨K, fd, _, KX, hb, fun H a ns hl _ hS => ⟨a, ns, rfl, hS, hl, fun _ => rfl⟩, fun base h1 h2 => G.noX (hF base h1 h2)⟩
