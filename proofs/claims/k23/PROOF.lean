import PyProof.Rows.All
import Wide.All
import OpenK.AllK
import Wide.FinOn
import KE.KStateDown
import KE.KExcIs
import HandS.ForMost
import HandS.Exc
import HandS.ExcOwn
import HandS.ExcCtx
import HandS.ExcInit
import HandS.ExcField
import HandS.HotCalls
import HandS.WordsExc
import HandS.IsInst
import HandS.Conv
import HandS.Defaults
import HandS.Evl
import HandS.Head0
import HandS.Head1
import HandS.Head2
import HandS.HeadEnd
import HandS.HeadHook1
import HandS.HeadHook2
import HandS.ClsMeth
import HandS.ExcInitHot
import HandS.OwnEq
import HandS.HeadNt
import HandS.NoneIn
import HandS.Text
import HandS.Steps
import HandS.Strs
import HandS.TupLe
import PySem.Challenge.RW_latelink_k23_whole_once_gaps
import HandS.TupAny
import HandS.Deep
import PyProof.FString3
import PyProof.Rows.StrIntSpec
import HandS.RaiseMore
import KE.KCallOwn
import PyProof.ListRange
import HandS.GenList
import HandS.GenYield
import HandS.Rev
import HandS.SetBool
import HandS.TupSets
import PyProof.FactsAll.set_2
import PyProof.FactsAll.set_1
import HandS.SetFor
import HandS.MakeKwOnly
set_option Elab.async false
set_option linter.all false
set_option maxRecDepth 100000
set_option maxHeartbeats 4000000
/-! Calls by bundles, own exceptions with fields, raised, caught, asked. -/
namespace G
open PySem PySem.Spec PyProof.Rows L2
/-! ### a def, a method of the text, ready to be called -/
structure Cal (P : Program) (w : World) (K : PySem.W.Frag) (mg : Str → Option Value) (base : Heap) (k : Nat) (x : Str) (ps : List Str) (sp : Sp) : Prop where
  ex : ∃ (f : Addr) (fd : FuncData), FnOk P w K mg base (L2N.CX P w) k f fd ps sp ∧ mg x = some (.ref f) ∧ PySem.W.keepIn K (.ref f) = true ∧ Binds K fd ps []
structure Met (P : Program) (w : World) (K : PySem.W.Frag) (mg : Str → Option Value) (base : Heap) (k : Nat) (C : Addr) (m : Str) (ps : List Str) (sp : Sp) : Prop where
  ex : ∃ (f : Addr) (fd : FuncData), FnOk P w K mg base (L2N.CX P w) k f fd ps sp ∧ Meth K C m f ∧ Binds K fd ps []
structure Mak (P : Program) (w : World) (K : PySem.W.Frag) (mg : Str → Option Value) (base : Heap) (k : Nat) (x : Str) (C : Addr) (ps : List Str) (sp : Sp) : Prop where
  ex : ∃ (f : Addr) (fd : FuncData), FnOk P w K mg base (L2N.CX P w) k f fd ps sp ∧ Mk K C f ∧ mg x = some (.ref C) ∧ Binds K fd ps []
section
variable {X : Cx} {j k : Nat} {x m : Str} {ps : List Str} {sp : Sp} {E : XK} {C : Addr} {p pos apos : Pos} {e o : Expr} {es : List Expr} {t : TA} {ta : TE}
/-- f(..): what leaves it as an exception is wished for by E -/
def tCl (sp : Sp) (E : L2.St → XK) (t : TA) : TE := fun σ H Q => t σ H fun vs H1 => sp vs H1 Q (E σ)
def tMt (C : Addr) (m : Str) (sp : Sp) (E : L2.St → XK) (ta : TE) (t : TA) : TE := fun σ H Q => ta σ H fun x H1 => ∃ a dx fs, x = .ref a ∧ H1 a = some (.ins C dx fs) ∧ fs.lookup m = none ∧ t σ H1 fun vs H2 => sp (x :: vs) H2 Q (E σ)
def tMk (C : Addr) (sp : Sp) (E : L2.St → XK) (t : TA) : TE := fun σ H Q => t σ H fun vs H1 => ∀ x dx, H1 x = none → H1 dx = none → dx ≠ x → sp (.ref x :: vs) (upd (upd H1 dx (.own x)) x (.ins C dx [])) (fun v H2 => v = .non ∧ Q (.ref x) H2) (E σ)
abbrev PAt (X : Cx) (E : L2.St → XK) : Prop := ∀ σ, PassesAt (L2N.CX X.prog X.w) X σ (E σ)
theorem pat_of {X : Cx} {W : WX} (tk : L2N.Takes X W) : PAt X (WE W) := fun σ => L2N.passAt tk σ
/-- where nothing may be let out -/
theorem pat_no {X : Cx} : PAt X (fun _ => L2.E0) := fun σ pins H s e s' I c => by
  obtain ⟨_, _, _, _, _, _, _, _, _, _, _, _, z⟩ := c
  exact z.elim
variable {E : L2.St → XK}
theorem pe_cl (c : Cal X.prog X.w X.K X.mg X.base k x ps sp) (hr : Room j X.A) (hk : k ≤ j) (hx : PAt X E) (ha : PA X (e :: es) t) (hg : Gl X x := by rfl) (hdb : (x == ("__debug__" : Str)) = false := by decide)
    (he : starEach (e :: es) X.env = (false, eval e X.env) :: starEach es X.env := by rfl) (hpl : (backTo pos (starEach es X.env)).any (·.1) = false := by rfl) : PE X (.Call (.Name x p) (e :: es) [] pos) (tCl sp E t) := by
  obtain ⟨f, fd, F, hm, kp, hb⟩ := c.ex
  refine ⟨fun pins s σ H Q I h => ?_⟩
  exact (pe_callS (E := E) F (hr.mono hk) hg hm kp hb hx ha hdb he hpl).run pins s σ H Q I h
theorem pe_mt {pl : Sem Bool} (c : Met X.prog X.w X.K X.mg X.base k C m ps sp) (cl : Cls X.K C) (hr : Room j X.A) (hk : k ≤ j) (hx : PAt X E) (he : PE X o ta) (ha : PA X (e :: es) t)
    (hst : starEach (e :: es) X.env = (false, eval e X.env) :: starEach es X.env := by rfl) (hpl : (backTo pos (starEach es X.env)).any (·.1) = false := by rfl)
    (ht : eval (.Call (.Attribute o m apos) (e :: es) [] pos) X.env = (do
      let ov ← eval o X.env
      standAt apos.atName
      let (f, first) ← holding [ov] (getMethod ov m pl)
      callWith pos f first (backTo pos (starEach (e :: es) X.env)) (backToKw pos (keywordEach [] X.env))) := by rfl) : PE X (.Call (.Attribute o m apos) (e :: es) [] pos) (tMt C m sp E ta t) := by
  obtain ⟨f, fd, F, hm, hb⟩ := c.ex
  refine ⟨fun pins s σ H Q I h => PySem.W.methodCall_KW (pl := pl) (thn (he.run pins s σ H _ I h) fun u s1 hh => ?_) ht⟩
  obtain ⟨x, H1, I1, rx, a, dx, fs, ex, ea, l, q⟩ := hh
  subst ex
  obtain rfl : u = Value.ref a := rx
  refine getmeth_ok I1 ea cl hm l (PySem.W.callWith_K (first := [.ref a]) (h₀ := X.base) I.ok.mod.kin hm.kp (thn (ha.run pos pins s1 σ H1 _ I1 q) fun us s2 hh => ?_) hst hpl)
  obtain ⟨vs, H2, I2, r, q2⟩ := hh
  exact ⟨I2.kIn, run_fnS (us := .ref a :: us) (vs := .ref a :: vs) F (hr.mono hk) hb (hx σ) I2 (.cons rfl r) q2⟩
theorem pe_mt0 {pl : Sem Bool} (c : Met X.prog X.w X.K X.mg X.base k C m ps sp) (cl : Cls X.K C) (hr : Room j X.A) (hk : k ≤ j) (hx : PAt X E) (he : PE X o ta)
    (ht : eval (.Call (.Attribute o m apos) [] [] pos) X.env = (do
      let ov ← eval o X.env
      standAt apos.atName
      let (f, first) ← holding [ov] (getMethod ov m pl)
      callWith pos f first (backTo pos (starEach [] X.env)) (backToKw pos (keywordEach [] X.env))) := by rfl) : PE X (.Call (.Attribute o m apos) [] [] pos) (tMt C m sp E ta tNil) := by
  obtain ⟨f, fd, F, hm, hb⟩ := c.ex
  refine ⟨fun pins s σ H Q I h => PySem.W.methodCall_KW (pl := pl) (thn (he.run pins s σ H _ I h) fun u s1 hh => ?_) ht⟩
  obtain ⟨x, H1, I1, rx, a, dx, fs, ex, ea, l, q⟩ := hh
  subst ex
  obtain rfl : u = Value.ref a := rx
  refine getmeth_ok I1 ea cl hm l ?_
  exact PySem.W.callWith_K0 (first := [.ref a]) I1.kIn hm.kp (run_fnS (us := [.ref a]) (vs := [.ref a]) F (hr.mono hk) hb (hx σ) I1 (.cons rfl .nil) q)
/-- an instance is made, what its __init__ lets out is wished for at the slots σ -/
theorem run_mk {pn : List (Addr × Obj)} {τ : L2.St} {H0 : Hp} {sh : Shared} {R : VK} {f : Addr} {fd : FuncData} {uu : List Value} {vv : List V} (M : Mk X.K C f) (F : FnOk X.prog X.w X.K X.mg X.base (L2N.CX X.prog X.w) k f fd ps sp)
    (hr : Room (k + 1) X.A) (hb : Binds X.K fd ps []) (hx : PAt X E) (I : Inv X pn τ H0 sh) (r : Vals vv uu)
    (h : ∀ x dx, H0 x = none → H0 dx = none → dx ≠ x → sp (.ref x :: vv) (upd (upd H0 dx (.own x)) x (.ins C dx [])) (fun v H2 => v = .non ∧ R (.ref x) H2) (E τ)) :
    wpAny (model X.prog X.w) X.A (call (.ref C) uu) (EP X pn τ R) X.xe sh := by
  have q0 := h (sh.heap.objs.size + 1) sh.heap.objs.size (I.hok.fresh (Nat.le_succ _)) (I.hok.fresh (Nat.le_refl _)) (Nat.ne_of_lt (Nat.lt_succ_self _))
  have J := Inv.made (C := C) I
  have rr : Vals (V.ref (sh.heap.objs.size + 1) :: vv) (Value.ref (sh.heap.objs.size + 1) :: uu) := .cons rfl r
  have ln : (Value.ref (sh.heap.objs.size + 1) :: uu ++ []).length = ps.length := by
    rw [List.append_nil, ← rr.length]
    exact F.len _ _ _ _ q0
  have bb := hb _ (Value.ref (sh.heap.objs.size + 1) :: uu) J.kIn ln
  rw [List.append_nil] at bb
  have go := F.run _ X.stack _ _ ⟨Value.ref (sh.heap.objs.size + 1) :: uu, []⟩ _ _ _ (E τ) (hr.make C uu []) (J.env0.make C uu []) bb rr q0
  refine wpAny_call (make_map (f := f) I.kIn M.makes M.init (beq_iff_eq.mp M.fn) (codeAny_mono go fun rs s2 w => ?_))
  cases rs with
  | error er => exact hx τ pn _ _ er s2 J w
  | ok fl =>
    cases fl with
    | ret u =>
      obtain ⟨v, H2, J2, rv, ev, w2⟩ := J.after w
      subst ev
      exact ⟨rv, V.ref (sh.heap.objs.size + 1), H2, J2, rfl, w2⟩
    | next => exact w.elim
    | brk => exact w.elim
    | cont => exact w.elim
theorem pe_mk (c : Mak X.prog X.w X.K X.mg X.base k x C ps sp) (hr : Room j X.A) (hk : k + 1 ≤ j) (hx : PAt X E) (ha : PA X (e :: es) t) (hg : Gl X x := by rfl) (hdb : (x == ("__debug__" : Str)) = false := by decide)
    (he : starEach (e :: es) X.env = (false, eval e X.env) :: starEach es X.env := by rfl) (hpl : (backTo pos (starEach es X.env)).any (·.1) = false := by rfl) : PE X (.Call (.Name x p) (e :: es) [] pos) (tMk C sp E t) := by
  obtain ⟨f, fd, F, M, hm, hb⟩ := c.ex
  refine ⟨fun pn s τ H Q I h => wpAny_Call_Name_kw (ld_glob I hg hm ?_ hdb)⟩
  refine PySem.W.callWith_K (h₀ := X.base) I.ok.mod.kin M.kp (thn (ha.run pos pn s τ H _ I h) fun us s1 hh => ?_) he hpl
  obtain ⟨vs, H1, I1, r, q⟩ := hh
  exact ⟨I1.kIn, run_mk M F (hr.mono hk) hb hx I1 r q⟩
end
/-! ### calls where an exception is handled -/
/-! ### own exceptions with fields -/
/-- what a class of errors must be for its instances to be asked and read -/
structure ExK (K : PySem.W.Frag) (C : Addr) : Prop where
  cl : (PySem.W.clsIn K C).isSome = true
  ga : PySem.W.findIn K (.ref C) "__getattribute__" = some (some (.builtin "BaseException.__getattribute__"))
  gg : PySem.W.findIn K (.ref C) "__getattr__" = some none
  be : PySem.W.subIn K (.ref C) (.type "BaseException") = some true
  hd : PySem.W.hasDictIn K C = true
  cc : PySem.W.findIn K (.ref C) "__class__" = some (some (.builtin "object.__class__"))
  gs : PySem.W.specialIn K (.builtin "object.__class__") "__get__" = some (some (.builtin "getset_descriptor.__get__"))
  tk : PySem.W.takesIn K (.builtin "object.__class__") = some true
  mo : PySem.W.mroIn K C (.type "object") = some true
end G
set_option Elab.async false
set_option linter.all false
set_option maxRecDepth 100000
set_option maxHeartbeats 4000000
/-! Own errors made and raised where nothing is handled. -/
namespace G
open PySem PySem.Spec PyProof.Rows L2
/-- what an error's __init__ leaves: its fields fs hold the values us -/
def spIn (K : PySem.W.Frag) (fs : List Str) : Sp := fun vs H Q _ => ∃ (a C : Addr) (us : List V), vs = .ref a :: us ∧ us.length = fs.length ∧ OexC K C ∧ (∀ f ∈ fs, PySem.W.findIn K (.ref C) f = some none) ∧ H a = some (exo a C none) ∧
  ∀ (dx : Addr) (H' : Hp), H dx = none → dx ≠ a → H' a = some (exo a C (some dx)) → H' dx = some (exd dx (fs.zip us).reverse) → (∀ b, b ≠ a → b ≠ dx → H' b = H b) → Q .non H'
theorem spIn_len {K : PySem.W.Frag} {fs ps : List Str} (h : ps.length = fs.length + 1) : ∀ vs H Q E, spIn K fs vs H Q E → vs.length = ps.length := by
  rintro vs H Q E ⟨a, C, us, rfl, hl, _⟩
  rw [h, List.length_cons, hl]
/-- an own class of errors -/
structure ExM (P : Program) (w : World) (K : PySem.W.Frag) (mg : Str → Option Value) (base : Heap) (k : Nat) (x : Str) (C : Addr) (fs : List Str) : Prop where
  oex : OexC K C
  no : ∀ f ∈ fs, PySem.W.findIn K (.ref C) f = some none
  gl : mg x = some (.ref C)
  ex : ∃ (fI : Addr) (fd : FuncData) (ps : List Str), FnOk P w K mg base (L2N.CX P w) k fI fd ps (spIn K fs) ∧ PySem.W.findIn K (.ref C) "__init__" = some (some (.ref fI)) ∧ PySem.W.typeIn K (.ref fI) = some (.type "function") ∧ Binds K fd ps []
theorem heap_mk {H H2 : Hp} {a d : Addr} {o : HO} (ha : H a = none) (hd : d ≠ a) (k : ∀ b, b ≠ a → b ≠ d → H2 b = H b) : upd (del H2 a) d o = upd H d o := by
  funext b
  by_cases hb : b = d
  · rw [hb, upd_same, upd_same]
  · rw [upd_ne hb, upd_ne hb]
    by_cases hba : b = a
    · rw [hba, del_same, ha]
    · rw [del_ne hba, k b hba hb]
theorem mk_go {K : PySem.W.Frag} {C : Addr} {fs : List Str} {us : List V} {H : Hp} {Q : XK} (T : OexC K C) (hf : ∀ f ∈ fs, PySem.W.findIn K (.ref C) f = some none) (hl : us.length = fs.length) (h : ∀ d, H d = none → Q (.ref C) (some d) (upd H d (.xd (fs.zip us).reverse))) :
    ∀ a, H a = none → spIn K fs (.ref a :: us) (upd H a (exo a C none)) (fun v H2 => v = .non ∧ ∃ (d : Addr) (gs : List (Str × V)), H2 a = some (exo a C (some d)) ∧ H2 d = some (exd d gs) ∧ H d = none ∧ Q (.ref C) (some d) (upd (del H2 a) d (.xd gs))) (fun _ _ _ => False) := by
  intro a ha
  refine ⟨a, C, us, rfl, hl, T, hf, upd_same, fun dx H' nd ne e1 e2 k => ⟨rfl, dx, _, e1, e2, ?_, ?_⟩⟩
  · rw [upd_ne ne] at nd
    exact nd
  · have nd' : H dx = none := by
      rw [upd_ne ne] at nd
      exact nd
    rw [heap_mk ha ne fun b h1 h2 => (k b h1 h2).trans (upd_ne h1)]
    exact h dx nd'
/-- x(e, ..), x a class of errors -/
def tRz (C : Addr) (fs : List Str) (W : WX) (ta : TA) : TS := fun _ σ H => ta σ H fun us H1 => us.length = fs.length ∧ us.length ≤ 1000 ∧ ∀ d, H1 d = none → W (.ref C) (some d) σ (upd H1 d (.xd (fs.zip us).reverse))
section
variable {X : Cx} {j k : Nat} {x : Str} {C : Addr} {fs : List Str} {p pos pos2 : Pos} {e : Expr} {es : List Expr} {ta : TA}
theorem pmk_x (c : ExM X.prog X.w X.K X.mg X.base k x C fs) (hr : Room j X.A) (hk : k + 1 ≤ j) (ha : PA X (e :: es) ta) (hg : Gl X x) (hdb : (x == ("__debug__" : Str)) = false)
    (he : starEach (e :: es) X.env = (false, eval e X.env) :: starEach es X.env) (hpl : (backTo pos (starEach es X.env)).any (·.1) = false) :
    L2N.PMk X (.Call (.Name x p) (e :: es) [] pos) (fun σ H Q => ta σ H fun us H1 => us.length = fs.length ∧ us.length ≤ 1000 ∧ ∀ d, H1 d = none → Q (.ref C) (some d) (upd H1 d (.xd (fs.zip us).reverse))) := by
  obtain ⟨T, hno, hm, fI, fd, ps, F1, iC, tI, hb⟩ := c
  intro pn s τ H Q I h
  obtain ⟨nm, qn, N, bs, bm, sn, sub, ab, col, dd, k0, k1, k2, k3, k5, hC, hbm⟩ := T.cls
  refine wpAny_Call_Name_kw (ld_glob I hg hm (PySem.W.callWith_K (h₀ := X.base) I.ok.mod.kin T.kC (thn (ha.run pos pn s τ H _ I h) fun us s1 hh => ?_) he hpl) hdb)
  obtain ⟨vs, H1, I1, r1, hl, hz, q1⟩ := hh
  refine ⟨I1.kIn, ?_⟩
  obtain ⟨hp, g, dr, tk, os⟩ := s1
  show wpAny _ _ (call (.ref C) us) _ _ _
  have hle := Nat.le_succ hp.objs.size
  have hn : H1 (hp.objs.size + 1) = none := I1.hok.fresh hle
  have hq := mk_go (Q := Q) T hno hl q1 (hp.objs.size + 1) hn
  have up : ∀ b o, hp.get? b = some o → ((hp.push (PySem.W.kdv_tup us)).push (PySem.HandSPX.excO C hp.objs.size)).get? b = some o := fun b o z => Heap.get?_push_of_some _ (Heap.get?_push_of_some _ z)
  have new : ((hp.push (PySem.W.kdv_tup us)).push (PySem.HandSPX.excO C hp.objs.size)).get? (hp.objs.size + 1) = some (PySem.HandSPX.excO C hp.objs.size) := by heap_get
  have J := I1.laid (t' := tk) (a := hp.objs.size + 1) (o := exo (hp.objs.size + 1) C none) up hle (exo_ok new)
  have rr : Vals (V.ref (hp.objs.size + 1) :: vs) (Value.ref (hp.objs.size + 1) :: us) := .cons rfl r1
  have ln : (Value.ref (hp.objs.size + 1) :: us ++ []).length = ps.length := by
    rw [List.append_nil, ← rr.length]
    exact F1.len _ _ _ _ hq
  have bb := hb _ (Value.ref (hp.objs.size + 1) :: us) J.kIn ln
  rw [List.append_nil] at bb
  have sz : us.length ≤ sizeLine := by
    rw [← r1.length, sizeLine_eq]
    omega
  have hr' : Room (k + 1) X.A := hr.mono hk
  have go := F1.run _ X.stack _ _ ⟨Value.ref (hp.objs.size + 1) :: us, []⟩ _ _ _ _ (hr'.make C us []) (J.env0.make C us []) bb rr hq
  refine wpAny_call (PySem.HandSPX.call_own F.excBase_ValueError (fun Y => PySem.HandSPX.refsVE_contains Y bm hbm) (I1.kIn _ _ hC) (PySem.W.looks_findIn I1.kIn iC) (fun self => PySem.W.bind_fn I1.kIn self tI) sz (codeAny_mono go fun rs s2 w => ?_))
  cases rs with
  | error er =>
    obtain ⟨_, _, _, _, _, _, _, _, _, _, _, _, z⟩ := w
    exact z.elim
  | ok fl =>
    cases fl with
    | ret u =>
      obtain ⟨v, H2, os2, ba, un, hok, rv, ev, d, gs, ea, ed, hd1, q2⟩ := w
      subst ev
      obtain ⟨h2, g2, d2, t2, os'⟩ := s2
      obtain ⟨t0, HG, J2, kG, ge, hoe, na⟩ := mk_end0 (d2 := d2) (t2 := t2) I1 hle up un hok os2 ba ea ed hd1
      exact ⟨rv, hp.objs.size + 1, _, _, ⟨HG, g2, d2, t2, os'⟩, _, .ref C, some d, rfl, J2, kG, ge, hoe, ⟨rfl, rfl, fun zs hv => by cases hv; rfl⟩, rfl, rfl, na, rfl, ba, raises_own T.exC T.tyC, q2⟩
    | next => exact w.elim
    | brk => exact w.elim
    | cont => exact w.elim
/-- raise x(e, ..) -/
theorem ps_rz {W : WX} (c : ExM X.prog X.w X.K X.mg X.base k x C fs) (hc : X.calm = true) (tk : L2N.Takes X W) (hr : Room j X.A) (hk : k + 1 ≤ j) (ha : PA X (e :: es) ta) (hg : Gl X x := by rfl) (hdb : (x == ("__debug__" : Str)) = false := by decide)
    (he : starEach (e :: es) X.env = (false, eval e X.env) :: starEach es X.env := by rfl) (hpl : (backTo pos (starEach es X.env)).any (·.1) = false := by rfl) : PS X (.Raise (some (.Call (.Name x p) (e :: es) [] pos)) none pos2) (tRz C fs W ta) :=
  L2N.ps_raise hc tk (pmk_x c hr hk ha hg hdb he hpl)
end
/-! ### the __init__ of one field, of two -/
theorem ini1 {K : PySem.W.Frag} {f : Str} {vs : List V} {H : Hp} {Q : VK} {E : XK} {N : List Str} (hN : N.length = 2) (h : spIn K [f] vs H Q E) : (tOst K f (tVar 0) (tVar 1)) { nx := fun _ H' => Q .non H', rt := Q } (start N vs) H := by
  obtain ⟨a, C, us, rfl, hl, T, hno, ha, q⟩ := h
  match us, hl with
  | [v], _ =>
    match N, hN with
    | [_, _], _ =>
      refine ⟨_, rfl, _, rfl, a, C, rfl, T, hno f (List.mem_singleton.mpr rfl), Or.inl ⟨ha, fun dx hd ne => ?_⟩⟩
      refine q dx _ hd ne upd_same ?_ fun b h1 h2 => ?_
      · rw [upd_ne ne, upd_same] <;> rfl
      · rw [upd_ne h1, upd_ne h2]
theorem ini2 {K : PySem.W.Frag} {f g : Str} {vs : List V} {H : Hp} {Q : VK} {E : XK} {N : List Str} (hN : N.length = 3) (h : spIn K [f, g] vs H Q E) :
    (tSeq (tOst K f (tVar 0) (tVar 1)) (tOst K g (tVar 0) (tVar 2))) { nx := fun _ H' => Q .non H', rt := Q } (start N vs) H := by
  obtain ⟨a, C, us, rfl, hl, T, hno, ha, q⟩ := h
  match us, hl with
  | [v, v2], _ =>
    match N, hN with
    | [_, _, _], _ =>
      refine ⟨_, rfl, _, rfl, a, C, rfl, T, hno f List.mem_cons_self, Or.inl ⟨ha, fun dx hd ne => ?_⟩⟩
      refine ⟨_, rfl, _, rfl, a, C, rfl, T, hno g (List.mem_cons_of_mem _ List.mem_cons_self), Or.inr ⟨dx, [(f, v)], upd_same, ?_, by show 1 ≤ 900; decide, ?_⟩⟩
      · rw [upd_ne ne, upd_same]
      · refine q dx _ hd ne ?_ upd_same fun b h1 h2 => ?_
        · rw [upd_ne (Ne.symm ne), upd_same]
        · rw [upd_ne h2, upd_ne h1, upd_ne h2]
end G
set_option Elab.async false
set_option linter.all false
set_option maxRecDepth 100000
set_option maxHeartbeats 4000000
/-! Operators that take what comes, and the steps of a reading, from the front. -/
namespace G
open PySem PySem.Spec PyProof.Rows L2
/-! ### operators by values -/
def rAddA : R2 := fun x y H Q => (∃ i j, x = .int i ∧ y = .int j ∧ Q (.int (i + j)) H) ∨ (∃ i j : Str, x = .str i ∧ y = .str j ∧ i.length + j.length ≤ sizeLine ∧ Q (.str (i ++ j)) H) ∨ rCat x y H Q
def rMulA : R2 := fun x y H Q => (∃ i j, x = .int i ∧ y = .int j ∧ CMul i j ∧ Q (.int (i * j)) H) ∨ rRep x y H Q
def rEqA (K : PySem.W.Frag) : R2 := fun x y H Q => rEq x y H Q ∨ rEqD K x y H Q
def rNeA (K : PySem.W.Frag) : R2 := fun x y H Q => rNe x y H Q ∨ rNeD K x y H Q
def rLenA (K : PySem.W.Frag) : List V → Hp → VK → Prop := fun xs H Q => ∃ x n, xs = [x] ∧ LenV K x H n ∧ Q (.int n) H
def rListA (K : PySem.W.Frag) : List V → Hp → VK → Prop := fun xs H Q => ∃ p ys, xs = [.ref p] ∧ (SqL K H p ys ∨ SqT K H p ys) ∧ ∀ l, H l = none → Q (.ref l) (upd H l (.lst ys))
def rIntA : List V → Hp → VK → Prop := fun xs H Q => (∃ i, xs = [.int i] ∧ Q (.int i) H) ∨ ∃ k, xs = [.bl k] ∧ Q (.int (if k then 1 else 0)) H
def rAbsA : List V → Hp → VK → Prop := fun xs H Q => ∃ i, xs = [.int i] ∧ Q (.int (if i < 0 then -i else i)) H
def rMin2A : List V → Hp → VK → Prop := fun xs H Q => ∃ i j, xs = [.int i, .int j] ∧ Q (.int (if j < i then j else i)) H
def rMax2A : List V → Hp → VK → Prop := fun xs H Q => ∃ i j, xs = [.int i, .int j] ∧ Q (.int (if j > i then j else i)) H
def rIsNA : R2 := fun x y H Q => y = .non ∧ Q (.bl (decide (x = .non))) H
def rNotNA : R2 := fun x y H Q => y = .non ∧ Q (.bl (!decide (x = .non))) H
abbrev rSubA : R2 := rI0 fun i j => .int (i - j)
abbrev rModA : R2 := rI (fun _ j => 0 < j) fun i j => .int (i % j)
abbrev rDivA : R2 := rI CDiv fun i j => .int (i / j)
abbrev rPowA : R2 := rI CPow fun i j => .int (i ^ j.toNat)
abbrev rLtA : R2 := rI0 fun i j => .bl (decide (i < j))
abbrev rLeA : R2 := rI0 fun i j => .bl (decide (i ≤ j))
abbrev rGtA : R2 := rI0 fun i j => .bl (decide (j < i))
abbrev rGeA : R2 := rI0 fun i j => .bl (decide (j ≤ i))
abbrev rNegA : V → Hp → VK → Prop := rU fun i => .int (-i)
section
variable {X : Cx}
theorem op_addA : OpR X (binaryOp .Add) rAddA := OpR.or op_add (OpR.or op_add_str op_cat)
theorem op_mulA : OpR X (binaryOp .Mult) rMulA := OpR.or op_mul op_rep
theorem op_eqA {k : Nat} (hr : Room k X.A) : OpR X (compareOp .Eq) (rEqA X.K) := OpR.or op_eq (op_eqD hr.units)
theorem op_neA {k : Nat} (hr : Room k X.A) : OpR X (compareOp .NotEq) (rNeA X.K) := OpR.or op_ne (op_neD hr.units)
theorem call_lenA : CallR X (.builtin "len") (rLenA X.K) := call_len
theorem call_listA : CallR X (.type "list") (rListA X.K) := call_list_of
theorem call_intA : CallR X (.type "int") rIntA := call_int1
theorem call_absA : CallR X (.builtin "abs") rAbsA := call_abs
theorem call_min2A (hc : X.calm = true) : CallR X (.builtin "min") rMin2A := call_min2 hc
theorem call_max2A (hc : X.calm = true) : CallR X (.builtin "max") rMax2A := call_max2 hc
theorem op_isNA : OpR X (compareOp .Is) rIsNA := op_isN
end
/-! ### what frames a step: all that was tracked but the addresses of S -/
def Kp (S : List Addr) (H H' : Hp) : Prop := ∀ b o, b ∉ S → H b = some o → H' b = some o
theorem Kp.refl (S : List Addr) (H : Hp) : Kp S H H := fun _ _ _ h => h
theorem Kp.trans {S : List Addr} {H H1 H2 : Hp} (a : Kp S H H1) (b : Kp S H1 H2) : Kp S H H2 := fun c o n h => b c o n (a c o n h)
theorem Kp.mono {S S' : List Addr} {H H1 : Hp} (a : Kp S H H1) (h : ∀ b ∈ S, b ∈ S') : Kp S' H H1 := fun c o n e => a c o (fun z => n (h c z)) e
theorem Kp.all {S : List Addr} {H H1 : Hp} (a : Kp [] H H1) : Kp S H H1 := fun c o _ e => a c o (by simp) e
theorem Kp.new {S : List Addr} {H : Hp} {p : Addr} {o : HO} (n : H p = none) : Kp S H (upd H p o) := fun b u _ e => by
  rw [upd_ne (ne_of_none e n)]
  exact e
theorem Kp.put {S : List Addr} {H : Hp} {p : Addr} {o : HO} (h : p ∈ S) : Kp S H (upd H p o) := fun b u n e => by
  have ne : b ≠ p := fun z => n (by rw [z]; exact h)
  rw [upd_ne ne]
  exact e
/-- an object that H does not know may change -/
theorem Kp.mut {S : List Addr} {H H1 : Hp} {p : Addr} {o : HO} (e : Kp S H H1) (n : H p = none) : Kp S H (upd H1 p o) := fun b u h z => by
  rw [upd_ne (ne_of_none z n)]
  exact e b u h z
theorem Kp.at0 {H H' : Hp} {b : Addr} {o : HO} (k : Kp [] H H') (h : H b = some o) : H' b = some o := k b o (by simp) h
theorem Kp.at1 {H H' : Hp} {a b : Addr} {o : HO} (k : Kp [a] H H') (n : b ≠ a) (h : H b = some o) : H' b = some o := k b o (by simpa using n) h
theorem Kp.free {S : List Addr} {H H' : Hp} {b : Addr} (k : Kp S H H') (n : b ∉ S) (h : H' b = none) : H b = none := by
  cases e : H b with
  | none => rfl
  | some o =>
    rw [k b o n e] at h
    cases h
theorem Kp.free0 {H H' : Hp} {b : Addr} (k : Kp [] H H') (h : H' b = none) : H b = none := k.free (by simp) h
theorem Kp.sql {S : List Addr} {K : PySem.W.Frag} {H H' : Hp} {a : Addr} {xs : List V} (e : Kp S H H') (n : a ∉ S) (h : SqL K H a xs) : SqL K H' a xs := by
  rcases h with (h | ⟨o, h⟩) | h
  · exact .inl (.inl (e _ _ n h))
  · exact .inl (.inr ⟨o, e _ _ n h⟩)
  · exact .inr h
/-! ### the steps -/
section
variable {K : PySem.W.Frag} {σ : L2.St} {H : Hp} {Q : VK} {ta tb tc te : TE} {t u : TT} {x y v : V} {QB : Bool → Hp → Prop} {QA : List V → Hp → Prop} {D : Ends} {s1 s2 : TS} {tl tr : TA} {i j : Int} {n m : Nat} {p q : Addr} {xs ys : List V}
theorem w_var {k : Nat} (h : σ[k]? = some (some v)) (g : Q v H) : tVar k σ H Q := ⟨v, h, g⟩
theorem w_c (g : Q v H) : tC v σ H Q := g
theorem w_op {r : R2} (g : ta σ H fun x H1 => tb σ H1 fun y H2 => r x y H2 Q) : tOp r ta tb σ H Q := g
theorem w_un {r : V → Hp → VK → Prop} (g : ta σ H fun x H1 => r x H1 Q) : tUn r ta σ H Q := g
theorem w_test (g : te σ H fun x H1 => ∃ k, x = .bl k ∧ QB k H1) : tTest te σ H QB := g
theorem w_tb (g : te σ H fun x H1 => ∃ k, x = .bl k ∧ QB k H1) : tB te σ H QB := g
theorem w_and (g : t σ H fun c H1 => if c = true then u σ H1 QB else QB false H1) : tAnd t u σ H QB := g
theorem w_or (g : t σ H fun c H1 => if c = true then QB true H1 else u σ H1 QB) : tOr t u σ H QB := g
theorem w_not (g : t σ H fun c H1 => QB (!c) H1) : tNot t σ H QB := g
theorem w_andV (g : ta σ H fun x H1 => ∃ c, x = .bl c ∧ if c = true then tb σ H1 Q else Q (.bl false) H1) : tAndV ta tb σ H Q := g
theorem w_orV (g : ta σ H fun x H1 => ∃ c, x = .bl c ∧ if c = true then Q (.bl true) H1 else tb σ H1 Q) : tOrV ta tb σ H Q := g
theorem w_notV (g : ta σ H fun x H1 => ∃ c, x = .bl c ∧ Q (.bl (!c)) H1) : tNotV ta σ H Q := g
theorem w_ifE (g : t σ H fun c H1 => if c = true then ta σ H1 Q else tb σ H1 Q) : tIf t ta tb σ H Q := g
theorem w_chain {r r' : R2} (g : ta σ H fun x H1 => tb σ H1 fun y H2 => r x y H2 fun z H3 => ∃ k, z = .bl k ∧ (if k = true then tc σ H3 fun w' H4 => r' y w' H4 Q else Q (.bl false) H3)) : tChain r r' ta tb tc σ H Q := g
theorem w_nil (g : QA [] H) : tNil σ H QA := g
theorem w_cons (g : ta σ H fun x H1 => tr σ H1 fun xs H2 => QA (x :: xs) H2) : tCons ta tr σ H QA := g
theorem w_cb {r : List V → Hp → VK → Prop} (g : tl σ H fun vs H1 => r vs H1 Q) : tCB r tl σ H Q := g
theorem w_cl {sp : Sp} {E : L2.St → XK} (g : tl σ H fun vs H1 => sp vs H1 Q (E σ)) : tCl sp E tl σ H Q := g
theorem w_bm {T : String} {r : V → List V → Hp → VK → Prop} (g : te σ H fun x H1 => tyV K T x H1 ∧ tl σ H1 fun xs H2 => r x xs H2 Q) : tBM K T r te tl σ H Q := g
theorem w_bm0 {T : String} {r : V → List V → Hp → VK → Prop} (g : te σ H fun x H1 => tyV K T x H1 ∧ r x [] H1 Q) : tBM0 K T r te σ H Q := g
theorem w_fld {f : Str} (g : ta σ H fun x H1 => ∃ a C dx fs v, x = .ref a ∧ H1 a = some (.ins C dx fs) ∧ Cls K C ∧ NoAttr K C f ∧ fs.lookup f = some v ∧ Q v H1) : tFld K ta f σ H Q := g
theorem w_mt {C : Addr} {m : Str} {sp : Sp} {E : L2.St → XK} (g : ta σ H fun x H1 => ∃ a dx fs, x = .ref a ∧ H1 a = some (.ins C dx fs) ∧ fs.lookup m = none ∧ tl σ H1 fun vs H2 => sp (x :: vs) H2 Q (E σ)) : tMt C m sp E ta tl σ H Q := g
theorem w_seq (g : s1 { D with nx := s2 D } σ H) : tSeq s1 s2 D σ H := g
theorem w_next (g : D.nx σ H) : tNext D σ H := g
theorem w_if (g : t σ H fun b H1 => if b = true then s1 D σ H1 else s2 D σ H1) : tIfS t s1 s2 D σ H := g
theorem w_ret (g : te σ H D.rt) : tRet te D σ H := g
theorem w_drop (g : te σ H fun _ H1 => D.nx σ H1) : tDrop te D σ H := g
theorem w_asg {k : Nat} (g : te σ H fun x H1 => D.nx (σ.set k (some x)) H1) : tAsg te (gName k) D σ H := g
theorem w_asgS {to ti : TE} {r : TSet} (g : te σ H fun v H0 => to σ H0 fun o H1 => ti σ H1 fun i H2 => r o i v H2 fun H3 => D.nx σ H3) : tAsg te (gSub to ti r) D σ H := g
theorem w_asf {f : Str} (g : te σ H fun y H1 => ta σ H1 fun x H2 => ∃ a C dx fs, x = .ref a ∧ H2 a = some (.ins C dx fs) ∧ Cls K C ∧ NoAttr K C f ∧ fs.length < 1000 ∧ D.nx σ (upd H2 a (.ins C dx (putF f y fs)))) : sFld K ta te f D σ H := g
theorem w_ex1 {P : Bool → Prop} {b : Bool} (g : P b) : ∃ k, V.bl b = .bl k ∧ P k := ⟨b, rfl, g⟩
theorem w_iteD {c A B : Prop} [Decidable c] (h1 : c → A) (h2 : ¬ c → B) : if decide c = true then A else B := by
  by_cases h : c
  · rw [decide_eq_true h]
    exact iteT (h1 h)
  · rw [decide_eq_false h]
    exact iteF (h2 h)
theorem w_iteN {c A B : Prop} [Decidable c] (h1 : ¬ c → A) (h2 : c → B) : if (!decide c) = true then A else B := by
  by_cases h : c
  · rw [decide_eq_true h]
    exact iteF (h2 h)
  · rw [decide_eq_false h]
    exact iteT (h1 h)
theorem w_iteB {b : Bool} {A B : Prop} (h1 : b = true → A) (h2 : b = false → B) : if b = true then A else B := by
  cases b with
  | true => exact iteT (h1 rfl)
  | false => exact iteF (h2 rfl)
theorem w_iteBN {b : Bool} {A B : Prop} (h1 : b = false → A) (h2 : b = true → B) : if (!b) = true then A else B := by
  cases b with
  | true => exact iteF (h2 rfl)
  | false => exact iteT (h1 rfl)
theorem w_addI (g : Q (.int (i + j)) H) : rAddA (.int i) (.int j) H Q := .inl ⟨i, j, rfl, rfl, g⟩
theorem w_addL (h1 : H p = some (.lst xs)) (h2 : H q = some (.lst ys)) (h : xs.length + ys.length ≤ sizeLine) (g : ∀ r, H r = none → Q (.ref r) (upd H r (.lst (xs ++ ys)))) : rAddA (.ref p) (.ref q) H Q :=
  .inr (.inr ⟨p, q, xs, ys, rfl, rfl, h1, h2, h, g⟩)
theorem w_mulI (h : CMul i j) (g : Q (.int (i * j)) H) : rMulA (.int i) (.int j) H Q := .inl ⟨i, j, rfl, rfl, h, g⟩
theorem w_mulL (h1 : H p = some (.lst xs)) (h2 : -(2 ^ 63) ≤ j) (h3 : j < 2 ^ 63) (h : xs.length * j.toNat ≤ sizeLine) (g : ∀ r, H r = none → Q (.ref r) (upd H r (.lst (List.replicate j.toNat xs).flatten))) : rMulA (.ref p) (.int j) H Q :=
  .inr ⟨p, j, xs, rfl, rfl, h1, h2, h3, h, g⟩
theorem w_i0 {f : Int → Int → V} (g : Q (f i j) H) : rI0 f (.int i) (.int j) H Q := ⟨i, j, rfl, rfl, g⟩
theorem w_ic {C : Int → Int → Prop} {f : Int → Int → V} (h : C i j) (g : Q (f i j) H) : rI C f (.int i) (.int j) H Q := ⟨i, j, rfl, rfl, h, g⟩
theorem w_u1 {f : Int → V} (g : Q (f i) H) : rU f (.int i) H Q := ⟨i, rfl, g⟩
theorem dec_I : decide (V.int i = V.int j) = decide (i = j) := by
  rw [Bool.eq_iff_iff]
  simp
theorem dec_S {a b : Str} : decide (V.str a = V.str b) = decide (a = b) := by
  rw [Bool.eq_iff_iff]
  simp
theorem dec_B {a b : Bool} : decide (V.bl a = V.bl b) = decide (a = b) := by
  rw [Bool.eq_iff_iff]
  simp
theorem w_eqI (g : Q (.bl (decide (i = j))) H) : rEqA K (.int i) (.int j) H Q := .inl ⟨rfl, by rw [dec_I]; exact g⟩
theorem w_eqS {a b : Str} (g : Q (.bl (decide (a = b))) H) : rEqA K (.str a) (.str b) H Q := .inl ⟨rfl, by rw [dec_S]; exact g⟩
theorem w_eqB {a b : Bool} (g : Q (.bl (decide (a = b))) H) : rEqA K (.bl a) (.bl b) H Q := .inl ⟨rfl, by rw [dec_B]; exact g⟩
theorem w_neI (g : Q (.bl (!decide (i = j))) H) : rNeA K (.int i) (.int j) H Q := .inl ⟨rfl, by rw [dec_I]; exact g⟩
theorem w_neS {a b : Str} (g : Q (.bl (!decide (a = b))) H) : rNeA K (.str a) (.str b) H Q := .inl ⟨rfl, by rw [dec_S]; exact g⟩
theorem w_neB {a b : Bool} (g : Q (.bl (!decide (a = b))) H) : rNeA K (.bl a) (.bl b) H Q := .inl ⟨rfl, by rw [dec_B]; exact g⟩
theorem w_eqD {d e : PyData} (h1 : Dp K H x d) (h2 : Dp K H y e) (h3 : SeqAt.shaped d = true) (h4 : SeqAt.shaped e = true) (g : Q (.bl (PyData.eqv d e)) H) : rEqA K x y H Q := .inr ⟨d, e, h1, h2, h3, h4, g⟩
theorem w_neD {d e : PyData} (h1 : Dp K H x d) (h2 : Dp K H y e) (h3 : SeqAt.shaped d = true) (h4 : SeqAt.shaped e = true) (g : Q (.bl (!PyData.eqv d e)) H) : rNeA K x y H Q := .inr ⟨d, e, h1, h2, h3, h4, g⟩
theorem w_isN0 (g : Q (.bl true) H) : rIsNA .non .non H Q := ⟨rfl, g⟩
theorem w_isN1 (h : x ≠ .non) (g : Q (.bl false) H) : rIsNA x .non H Q := ⟨rfl, by rw [decide_eq_false h]; exact g⟩
theorem w_notN0 (g : Q (.bl false) H) : rNotNA .non .non H Q := ⟨rfl, g⟩
theorem w_notN1 (h : x ≠ .non) (g : Q (.bl true) H) : rNotNA x .non H Q := ⟨rfl, by rw [decide_eq_false h]; exact g⟩
theorem w_lenL (h : SqL K H p xs) (g : Q (.int (xs.length : Int)) H) : rLenA K [.ref p] H Q := ⟨_, _, rfl, .inl ⟨xs, h, rfl⟩, g⟩
theorem w_lenT (h : SqT K H p xs) (g : Q (.int (xs.length : Int)) H) : rLenA K [.ref p] H Q := ⟨_, _, rfl, .inr ⟨xs, h, rfl⟩, g⟩
theorem w_listL (h : SqL K H p xs) (g : ∀ l, H l = none → Q (.ref l) (upd H l (.lst xs))) : rListA K [.ref p] H Q := ⟨p, xs, rfl, .inl h, g⟩
theorem w_intI (g : Q (.int i) H) : rIntA [.int i] H Q := .inl ⟨i, rfl, g⟩
theorem w_abs (g : Q (.int (if i < 0 then -i else i)) H) : rAbsA [.int i] H Q := ⟨i, rfl, g⟩
theorem w_min2 (g : Q (.int (if j < i then j else i)) H) : rMin2A [.int i, .int j] H Q := ⟨i, j, rfl, g⟩
theorem w_max2 (g : Q (.int (if j > i then j else i)) H) : rMax2A [.int i, .int j] H Q := ⟨i, j, rfl, g⟩
theorem w_ixL (h : SqL K H p xs) (ha : atI xs i = some v) (g : Q v H) : rIx K (.ref p) (.int i) H Q := .inl ⟨p, xs, i, v, rfl, rfl, h, ha, g⟩
theorem w_ixT (h : SqT K H p xs) (ha : atI xs i = some v) (g : Q v H) : rIx K (.ref p) (.int i) H Q := .inr (.inl ⟨p, xs, i, v, rfl, rfl, h, ha, g⟩)
theorem w_setL {R : Hp → Prop} (h : H p = some (.lst xs)) (ha : ixN xs.length i = some n) (g : R (upd H p (.lst (xs.set n v)))) : rSetL (.ref p) (.int i) v H R := ⟨p, xs, i, n, rfl, rfl, h, ha, g⟩
theorem w_ty (h : SqL K H p xs) : tyV K "list" (.ref p) H := .inl ⟨rfl, xs, h⟩
theorem w_append (h : H p = some (.lst xs)) (hl : xs.length < sizeLine) (g : Q .non (upd H p (.lst (xs ++ [v])))) : rAppend (.ref p) [v] H Q := ⟨p, xs, v, rfl, rfl, h, hl, g⟩
end
end G
set_option Elab.async false
set_option linter.all false
set_option maxRecDepth 100000
set_option maxHeartbeats 4000000
/-! Loops, comprehensions by words; the head's own facts. -/
namespace G
open PySem PySem.Spec PyProof.Rows L2
/-! ### what a loop wants of its walk J -/
def LoopG (J : It) (g : TG) (tb : TS) (D : Ends) (σ : L2.St) (H1 : Hp) : Prop := ∃ W : Nat → Nat → L2.St → Hp → Prop, (∃ m, W 0 m σ H1) ∧ ∀ i m σ H, W i m σ H →
  (J.stop i H ∧ D.nx σ H) ∨ (J.go i H ∧ ∃ N : L2.St → Hp → Prop, (∀ σ' H', N σ' H' → ∃ m', m' < m ∧ W (i + 1) m' σ' H') ∧ ∀ x H', J.yld i H x H' → g x σ H' fun σ2 H2 => tb { D with nx := N, ct := N, bk := D.nx } σ2 H2)
def CompG (J : It) (g : TG) (tt : TT) (te : TE) (vs : List Nat) (σ : L2.St) (Q : VK) (H1 : Hp) : Prop := ∀ D, H1 D = none → ∃ W : Nat → Nat → Hp → Prop, (∃ m, W 0 m (upd H1 D (.lst []))) ∧ ∀ i m H, W i m H →
  (J.stop i H ∧ Q (.ref D) H) ∨ (J.go i H ∧ ∃ Nx : Hp → Prop, (∀ H', Nx H' → ∃ m', m' < m ∧ W (i + 1) m' H') ∧ ∀ x H', J.yld i H x H' → g x (wipe σ vs) H' fun σ2 H2 => wipe σ2 vs = wipe σ vs ∧ tt σ2 H2 fun b H3 =>
    if b = true then te σ2 H3 fun y H4 => ∃ acc, H4 D = some (.lst acc) ∧ acc.length < sizeLine ∧ Nx (upd H4 D (.lst (acc ++ [y]))) else Nx H3)
section
variable {K : PySem.W.Frag} {σ : L2.St} {H : Hp} {Q : VK} {ta : TA} {te tl : TE} {tt : TT} {D : Ends} {tb : TS} {g : TG} {wi : TI} {j : Nat} {R : It → Hp → Prop} {vs : List Nat}
theorem w_for (h : wi σ H fun J H1 => LoopG J g tb D σ H1) : tFor wi g tb D σ H := h
theorem w_lc (h : wi σ H fun J H1 => CompG J g tt te vs σ Q H1) : tLc wi g tt te vs σ H Q := h
theorem w_iR1 (h : ta σ H fun vs H1 => ∃ j : Int, vs = [.int j] ∧ -(2 ^ 62) ≤ j ∧ j < 2 ^ 62 ∧ R (Itr 0 j.toNat) H1) : iRng1 ta σ H R := h
theorem w_iR2 (h : ta σ H fun vs H1 => ∃ i j : Int, vs = [.int i, .int j] ∧ (-(2 ^ 62) ≤ i ∧ i < 2 ^ 62 ∧ -(2 ^ 62) ≤ j ∧ j < 2 ^ 62) ∧ R (Itr i (j - i).toNat) H1) : iRng2 ta σ H R := h
theorem w_iL (h : tl σ H fun x H1 => ∃ a, x = .ref a ∧ (∃ xs, SqL K H1 a xs) ∧ R (Itl K a) H1) : iList K tl σ H R := h
theorem w_iT (h : tl σ H fun x H1 => ∃ a, x = .ref a ∧ (∃ xs, SqT K H1 a xs) ∧ R (Itt K a) H1) : iTup K tl σ H R := h
theorem w_iE (h : ta σ H fun vs H1 => ∃ a xs, vs = [.ref a] ∧ SqL K H1 a xs ∧ R (Ite K a) H1) : iEnum K ta σ H R := h
theorem w_iZ (h : ta σ H fun vs H1 => ∃ a b xs ys, vs = [.ref a, .ref b] ∧ SqL K H1 a xs ∧ SqL K H1 b ys ∧ R (Itz K a b) H1) : iZip K ta σ H R := h
/-! ### loops -/
theorem lp_rng {lo : Int} {n : Nat} (Pv : Nat → L2.St → Hp → Prop) (h0 : Pv 0 σ H) (hs : ∀ (i : Nat) σ' H', i < n → Pv i σ' H' → g (.int (lo + (i : Int))) σ' H' fun σ2 H2 => tb { D with nx := Pv (i + 1), ct := Pv (i + 1), bk := D.nx } σ2 H2)
    (hd : ∀ σ' H', Pv n σ' H' → D.nx σ' H') : LoopG (Itr lo n) g tb D σ H := for_range Pv h0 hs hd
theorem lp_rng0 {n : Nat} (Pv : Nat → L2.St → Hp → Prop) (h0 : Pv 0 σ H) (hs : ∀ (i : Nat) σ' H', i < n → Pv i σ' H' → g (.int (i : Int)) σ' H' fun σ2 H2 => tb { D with nx := Pv (i + 1), ct := Pv (i + 1), bk := D.nx } σ2 H2)
    (hd : ∀ σ' H', Pv n σ' H' → D.nx σ' H') : LoopG (Itr 0 n) g tb D σ H := for_range Pv h0 (fun i σ' H' hi p => by rw [Int.zero_add]; exact hs i σ' H' hi p) hd
theorem lp_lst {a : Addr} {xs : List V} (Pv : Nat → L2.St → Hp → Prop) (h0 : Pv 0 σ H) (hl : ∀ i σ' H', i ≤ xs.length → Pv i σ' H' → SqL K H' a xs)
    (hs : ∀ i x σ' H', xs[i]? = some x → Pv i σ' H' → g x σ' H' fun σ2 H2 => tb { D with nx := Pv (i + 1), ct := Pv (i + 1), bk := D.nx } σ2 H2) (hd : ∀ σ' H', Pv xs.length σ' H' → D.nx σ' H') : LoopG (Itl K a) g tb D σ H := for_list Pv h0 hl hs hd
theorem lp_enum {a : Addr} {xs : List V} (Pv : Nat → L2.St → Hp → Prop) (h0 : Pv 0 σ H) (hl : ∀ i σ' H', i ≤ xs.length → Pv i σ' H' → SqL K H' a xs)
    (hs : ∀ (i : Nat) (x : V) (T : Addr) σ' H', xs[i]? = some x → Pv i σ' H' → H' T = none → g (.ref T) σ' (upd H' T (.tup [.int (i : Int), x])) fun σ2 H2 => tb { D with nx := Pv (i + 1), ct := Pv (i + 1), bk := D.nx } σ2 H2)
    (hd : ∀ σ' H', Pv xs.length σ' H' → D.nx σ' H') : LoopG (Ite K a) g tb D σ H := by
  refine ⟨fun i m σ H => m = xs.length - i ∧ i ≤ xs.length ∧ Pv i σ H, ⟨xs.length, by simp, Nat.zero_le _, h0⟩, ?_⟩
  rintro i m σ H ⟨rfl, hi, p⟩
  have q := hl i σ H hi p
  by_cases lt : i < xs.length
  · refine .inr ⟨⟨xs, xs[i], q, by simp [lt]⟩, Pv (i + 1), fun σ' H' p' => ⟨xs.length - (i + 1), by omega, rfl, lt, p'⟩, fun v H' y => ?_⟩
    obtain ⟨T, x, rfl, nT, rfl, hx⟩ := y
    exact hs i x T σ H (hx xs q) p nT
  · have e : i = xs.length := by omega
    subst e
    exact .inl ⟨⟨xs, q, Nat.le_refl _⟩, hd σ H p⟩
/-! ### comprehensions: items i is what stands behind i turns -/
theorem cp_go {J : It} {n : Nat} (items : Nat → List V) (Ok : Hp → Prop) (hz : ∀ i, i < n → (items i).length < sizeLine) (h0 : items 0 = []) (ok0 : ∀ H', Kp [] H H' → Ok H') (hgo : ∀ i H', i < n → Ok H' → J.go i H') (hst : ∀ H', Ok H' → J.stop n H')
    (hs : ∀ (i : Nat) (x : V) (H' H'' : Hp) (S : V → Hp → Prop) (N : Hp → Prop), i < n → Kp [] H H' → J.yld i H' x H'' → (∀ y H4, Kp [] H' H4 → items (i + 1) = items i ++ [y] → S y H4) → (∀ H4, Kp [] H' H4 → items (i + 1) = items i → N H4) →
      g x (wipe σ vs) H'' fun σ2 H2 => wipe σ2 vs = wipe σ vs ∧ tt σ2 H2 fun b H3 => if b = true then te σ2 H3 S else N H3)
    (hd : ∀ D H', H D = none → Kp [] H H' → H' D = some (.lst (items n)) → Q (.ref D) H') : CompG J g tt te vs σ Q H := by
  intro D nD
  refine ⟨fun i m H' => m = n - i ∧ i ≤ n ∧ Kp [] H H' ∧ H' D = some (.lst (items i)), ⟨n, by simp, Nat.zero_le _, Kp.new nD, by rw [h0]; exact upd_same⟩, ?_⟩
  rintro i m H' ⟨rfl, hi, k, e⟩
  by_cases lt : i < n
  · refine .inr ⟨hgo i H' lt (ok0 H' k), fun H'' => Kp [] H H'' ∧ H'' D = some (.lst (items (i + 1))), fun H'' p => ⟨n - (i + 1), by omega, rfl, lt, p.1, p.2⟩, fun x H'' y => ?_⟩
    refine hs i x H' H'' _ _ lt k y (fun y H4 k4 ei => ⟨items i, k4.at0 e, hz i lt, ?_, ?_⟩) (fun H4 k4 ei => ⟨k.trans k4, ?_⟩)
    · exact Kp.mut (k.trans k4) nD
    · rw [ei]
      exact upd_same
    · rw [ei]
      exact k4.at0 e
  · have ei : i = n := by omega
    subst ei
    exact .inl ⟨hst H' (ok0 H' k), hd D H' nD k e⟩
theorem cp_rng {lo : Int} {n : Nat} (items : Nat → List V) (hz : ∀ i, i < n → (items i).length < sizeLine) (h0 : items 0 = [])
    (hs : ∀ (i : Nat) (H' : Hp) (S : V → Hp → Prop) (N : Hp → Prop), i < n → Kp [] H H' → (∀ y H4, Kp [] H' H4 → items (i + 1) = items i ++ [y] → S y H4) → (∀ H4, Kp [] H' H4 → items (i + 1) = items i → N H4) →
      g (.int (lo + (i : Int))) (wipe σ vs) H' fun σ2 H2 => wipe σ2 vs = wipe σ vs ∧ tt σ2 H2 fun b H3 => if b = true then te σ2 H3 S else N H3)
    (hd : ∀ D H', H D = none → Kp [] H H' → H' D = some (.lst (items n)) → Q (.ref D) H') : CompG (Itr lo n) g tt te vs σ Q H :=
  cp_go items (fun _ => True) hz h0 (fun _ _ => trivial) (fun i H' hi _ => hi) (fun H' _ => Nat.le_refl n) (fun i x H' H'' S N hi k y a b => by
    obtain ⟨rfl, rfl⟩ := y
    exact hs i H'' S N hi k a b) hd
theorem cp_lst {a : Addr} {xs : List V} (h : SqL K H a xs) (items : Nat → List V) (hz : ∀ i, i < xs.length → (items i).length < sizeLine) (h0 : items 0 = [])
    (hs : ∀ (i : Nat) (x : V) (H' : Hp) (S : V → Hp → Prop) (N : Hp → Prop), xs[i]? = some x → Kp [] H H' → (∀ y H4, Kp [] H' H4 → items (i + 1) = items i ++ [y] → S y H4) → (∀ H4, Kp [] H' H4 → items (i + 1) = items i → N H4) →
      g x (wipe σ vs) H' fun σ2 H2 => wipe σ2 vs = wipe σ vs ∧ tt σ2 H2 fun b H3 => if b = true then te σ2 H3 S else N H3)
    (hd : ∀ D H', H D = none → Kp [] H H' → H' D = some (.lst (items xs.length)) → Q (.ref D) H') : CompG (Itl K a) g tt te vs σ Q H :=
  cp_go (n := xs.length) items (fun H' => SqL K H' a xs) hz h0 (fun _ k => k.sql (by simp) h) (fun i H' hi q => ⟨xs, xs[i], q, by simp [hi]⟩) (fun H' q => ⟨xs, q, Nat.le_refl _⟩) (fun i x H' H'' S N hi k y a b => by
    obtain ⟨rfl, hx⟩ := y
    exact hs i x H'' S N (hx xs (k.sql (by simp) h)) k a b) hd
theorem cp_enum {a : Addr} {xs : List V} (h : SqL K H a xs) (items : Nat → List V) (hz : ∀ i, i < xs.length → (items i).length < sizeLine) (h0 : items 0 = [])
    (hs : ∀ (i : Nat) (x : V) (T : Addr) (H' : Hp) (S : V → Hp → Prop) (N : Hp → Prop), xs[i]? = some x → Kp [] H H' → H' T = none → (∀ y H4, Kp [] H' H4 → items (i + 1) = items i ++ [y] → S y H4) → (∀ H4, Kp [] H' H4 → items (i + 1) = items i → N H4) →
      g (.ref T) (wipe σ vs) (upd H' T (.tup [.int (i : Int), x])) fun σ2 H2 => wipe σ2 vs = wipe σ vs ∧ tt σ2 H2 fun b H3 => if b = true then te σ2 H3 S else N H3)
    (hd : ∀ D H', H D = none → Kp [] H H' → H' D = some (.lst (items xs.length)) → Q (.ref D) H') : CompG (Ite K a) g tt te vs σ Q H :=
  cp_go (n := xs.length) items (fun H' => SqL K H' a xs) hz h0 (fun _ k => k.sql (by simp) h) (fun i H' hi q => ⟨xs, xs[i], q, by simp [hi]⟩) (fun H' q => ⟨xs, q, Nat.le_refl _⟩) (fun i v H' H'' S N hi k y a b => by
    obtain ⟨T, x, rfl, nT, rfl, hx⟩ := y
    exact hs i x T H' S N (hx xs (k.sql (by simp) h)) k nT a b) hd
end
/-! ### the head's facts: any tests of the written part -/
abbrev Chk := PySem.W.Frag → Bool
def obsX (fa : List Chk) (fn : List He.DefD) (K : PySem.W.Frag) : He.AlD := ((fa.all fun f => f K) && fn.all fun d => d.ok K, fn.map fun d => He.fnW K d.at_)
def SaysX (fa : List Chk) (fn : List He.DefD) (K : PySem.W.Frag) : Prop := obsX fa fn K = He.valD fn
section
variable {fa : List Chk} {fn : List He.DefD} {K : PySem.W.Frag}
theorem SaysX.fact (c : SaysX fa fn K) (i : Nat) {f : Chk} (h : fa[i]? = some f := by rfl) : f K = true := by
  have c1 := (He.ba (show ((fa.all fun f => f K) && fn.all fun d => d.ok K) = true from congrArg (fun z : He.AlD => z.1) c)).1
  exact List.all_eq_true.mp c1 f (List.mem_of_getElem? h)
theorem SaysX.def_ (c : SaysX fa fn K) (i : Nat) {d : He.DefD} (h : fn[i]? = some d := by rfl) : ∃ fd, FunD K d.name d.qual d.params d.body d.scope (d.dvs K) (d.kws K) (He.fAd K d.at_) fd := by
  have c2 := (He.ba (show ((fa.all fun f => f K) && fn.all fun d => d.ok K) = true from congrArg (fun z : He.AlD => z.1) c)).2
  have e : fn.map (fun d => He.fnW K d.at_) = fn.map He.DefD.val := congrArg (fun z : He.AlD => z.2) c
  have e2 : (fn.map fun d => He.fnW K d.at_)[i]? = (fn.map He.DefD.val)[i]? := by rw [e]
  rw [List.getElem?_map, List.getElem?_map, h] at e2
  exact He.DefD.funD (Option.some.inj e2) (List.all_eq_true.mp c2 d (List.mem_of_getElem? h))
/-- a plain fact of He -/
abbrev fa_ (f : He.Fa) : Chk := fun K => f.ok K
/-- a class of errors, as it is made -/
def oexB (C : Addr) (K : PySem.W.Frag) : Bool := match K.lookup C with
  | some ⟨.type "type", _, .cls cd, sl⟩ => (match cd.mro, sl.toList with
    | .ref C1 :: bm, [_, _, _, _, some (.builtin n), _] => C1 == C && n == "ValueError.__new__" && !cd.hasDel && cd.hasDict && PySem.HandSPX.refsVE bm
    | _, _ => false)
  | _ => false
theorem oexB_ok {C : Addr} (q : oexB C K = true) : ∃ nm qn N bs bm sn sub ab col dd k0 k1 k2 k3 k5, K.lookup C = some (excClassObj nm qn C N bs bm true sn sub ab col dd k0 k1 k2 k3 k5 "ValueError.__new__") ∧ PySem.HandSPX.refsVE bm = true := by
  unfold oexB at q
  split at q
  · rename_i dd cd sl ho
    split at q
    · rename_i C1 bm k0 k1 k2 k3 n k5 hm hs
      simp only [Bool.and_eq_true, beq_iff_eq, Bool.not_eq_true'] at q
      obtain ⟨⟨⟨⟨rfl, rfl⟩, del⟩, hd⟩, hr⟩ := q
      obtain ⟨nm, bs, mro, ns, qn, hdd, sn, sub, ab, col, dl⟩ := cd
      dsimp only at hm del hd
      subst hm del hd
      have es : sl = #[k0, k1, k2, k3, some (.builtin "ValueError.__new__"), k5] := by
        obtain ⟨l⟩ := sl
        exact congrArg Array.mk hs
      subst es
      exact ⟨nm, qn, ns, bs, bm, sn, sub, ab, col, dd, k0, k1, k2, k3, k5, ho, hr⟩
    · cases q
  · cases q
def eqT (a b : Option Bool) : Bool := decide (a = b)
/-- all that an own class of errors C with the fields fs is asked -/
def excB (x : Str) (fs : List Str) (K : PySem.W.Frag) : Bool := oexB (He.ga K x) K && (He.eqO (PySem.W.findIn K (.ref (He.ga K x)) "__setattr__") (some (some (.builtin "object.__setattr__"))) &&
  (eqT (PySem.W.subIn K (.ref (He.ga K x)) (.type "BaseException")) (some true) && (decide (PySem.W.typeIn K (.ref (He.ga K x)) = some (.type "type")) && (PySem.W.keepIn K (.ref (He.ga K x)) &&
  (fs.all fun f => He.eqO (PySem.W.findIn K (.ref (He.ga K x)) f) (some none))))))
/-- .. and its instances are asked -/
def askB (x : Str) (K : PySem.W.Frag) : Bool := (PySem.W.clsIn K (He.ga K x)).isSome && (He.eqO (PySem.W.findIn K (.ref (He.ga K x)) "__getattribute__") (some (some (.builtin "BaseException.__getattribute__"))) &&
  (He.eqO (PySem.W.findIn K (.ref (He.ga K x)) "__getattr__") (some none) && (eqT (PySem.W.subIn K (.ref (He.ga K x)) (.type "BaseException")) (some true) && (PySem.W.hasDictIn K (He.ga K x) &&
  (He.eqO (PySem.W.findIn K (.ref (He.ga K x)) "__class__") (some (some (.builtin "object.__class__"))) && (He.eqO (PySem.W.specialIn K (.builtin "object.__class__") "__get__") (some (some (.builtin "getset_descriptor.__get__"))) &&
  (eqT (PySem.W.takesIn K (.builtin "object.__class__")) (some true) && eqT (PySem.W.mroIn K (He.ga K x) (.type "object")) (some true))))))))
theorem excB_ok {x : Str} {fs : List Str} (q : excB x fs K = true) : OexC K (He.ga K x) ∧ ∀ f ∈ fs, PySem.W.findIn K (.ref (He.ga K x)) f = some none := by
  obtain ⟨q1, q⟩ := He.ba q
  obtain ⟨q2, q⟩ := He.ba q
  obtain ⟨q3, q⟩ := He.ba q
  obtain ⟨q4, q⟩ := He.ba q
  obtain ⟨q5, q6⟩ := He.ba q
  exact ⟨⟨oexB_ok q1, He.eqO_ok q2, of_decide_eq_true q3, of_decide_eq_true q4, q5⟩, fun f hf => He.eqO_ok (List.all_eq_true.mp q6 f hf)⟩
theorem askB_ok {x : Str} (q : askB x K = true) : ExK K (He.ga K x) := by
  obtain ⟨q1, q⟩ := He.ba q
  obtain ⟨q2, q⟩ := He.ba q
  obtain ⟨q3, q⟩ := He.ba q
  obtain ⟨q4, q⟩ := He.ba q
  obtain ⟨q5, q⟩ := He.ba q
  obtain ⟨q6, q⟩ := He.ba q
  obtain ⟨q7, q⟩ := He.ba q
  obtain ⟨q8, q9⟩ := He.ba q
  exact ⟨q1, He.eqO_ok q2, He.eqO_ok q3, of_decide_eq_true q4, q5, He.eqO_ok q6, He.eqO_ok q7, of_decide_eq_true q8, of_decide_eq_true q9⟩
/-- the __init__ that is found, a function -/
def iniB (x : Str) (K : PySem.W.Frag) : Bool := He.eqO (PySem.W.findIn K (.ref (He.ga K x)) "__init__") (some (some (.ref (He.ma K (He.ga K x) "__init__")))) && decide (PySem.W.typeIn K (.ref (He.ma K (He.ga K x) "__init__")) = some (.type "function"))
theorem iniB_ok {x : Str} (q : iniB x K = true) : PySem.W.findIn K (.ref (He.ga K x)) "__init__" = some (some (.ref (He.ma K (He.ga K x) "__init__"))) ∧ PySem.W.typeIn K (.ref (He.ma K (He.ga K x) "__init__")) = some (.type "function") := by
  obtain ⟨q1, q2⟩ := He.ba q
  exact ⟨He.eqO_ok q1, of_decide_eq_true q2⟩
end
end G
set_option Elab.async false
set_option linter.all false
set_option maxRecDepth 100000
set_option maxHeartbeats 4000000
/-! Constants of a class; truth; two things more. -/
namespace G
open PySem PySem.Spec PyProof.Rows L2
section
variable {X : Cx} {C : Addr} {mc u : Value} {v : V} {e : Expr} {f : Str} {pos : Pos} {ta : TE}
theorem pe_cc (k : ∃ mc u, ClX.CRead X.K C mc ∧ ClX.CVal X.K C mc f v u) (he : PE X e (tC (.ref C))) (hb : attributeBase e f X.env (eval e X.env) = eval e X.env := by rfl) : PE X (.Attribute e f pos) (tC v) := by
  obtain ⟨mc, u, r, k⟩ := k
  exact ⟨fun pins s σ H Q I h => (ClX.pe_cval he hb).run pins s σ H Q I ⟨C, mc, v, u, rfl, r, k, h⟩⟩
def tTr (K : PySem.W.Frag) (ta : TE) : TT := fun σ H Q => ta σ H fun x H' => ∃ k, TruV K x H' k ∧ Q k H'
theorem pt_tr (ha : PE X e ta) (he : ∀ whole, isTrue e X.env whole = (do let v ← whole; standAt e.pos; holding [v] (truthy v))) : PT X e (tTr X.K ta) := pt_truth ha he
end
/-- x.f is the whole number i -/
def ccB (x f : Str) (i : Int) (K : PySem.W.Frag) : Bool := PySem.W.readsIn K (He.ga K x) (.type "type") && (He.eqO (PySem.W.specialIn K (.ref (He.ga K x)) "__getattribute__") (some (some (.builtin "type.__getattribute__"))) &&
  (match PySem.W.findCls K (.ref (He.ga K x)) (.type "type") f with
  | some (.val (.int j _)) => decide (j = i)
  | _ => false))
theorem ccB_ok {K : PySem.W.Frag} {x f : Str} {i : Int} (q : ccB x f i K = true) : ∃ mc u, ClX.CRead K (He.ga K x) mc ∧ ClX.CVal K (He.ga K x) mc f (.int i) u := by
  obtain ⟨q1, q⟩ := He.ba q
  obtain ⟨q2, q3⟩ := He.ba q
  have q4 : (match PySem.W.findCls K (.ref (He.ga K x)) (.type "type") f with
    | some (.val (.int j _)) => decide (j = i)
    | _ => false) = true := q3
  split at q4
  · rename_i j t e
    have ej : j = i := of_decide_eq_true q4
    subst ej
    exact ⟨.type "type", .int j t, ⟨q1, He.eqO_ok q2⟩, ⟨e, t, rfl⟩⟩
  · cases q4
end G
namespace G
open PySem PySem.Spec PyProof.Rows L2
/-- a built-in class as a value -/
theorem pe_ty {X : Cx} {x : Str} (n : String) {pos : Pos} (hm : X.mg x = none) (hv : bootBuiltins x = some (.type n)) (hg : Gl X x := by rfl) (hn : x ≠ "__name__" := by decide) (hd : (x == ("__debug__" : Str)) = false := by decide) : PE X (.Name x pos) (tC (.ty n)) :=
  pe_bltn hg hm hv rfl hn hd
/-- an own class as a value -/
theorem pe_own {X : Cx} {x : Str} {C : Addr} {pos : Pos} (hm : X.mg x = some (.ref C)) (hg : Gl X x := by rfl) (hd : (x == ("__debug__" : Str)) = false := by decide) : PE X (.Name x pos) (tC (.ref C)) := pe_glob hg hm rfl hd
end G
namespace G
open PySem PySem.Spec PyProof.Rows L2
/-- what lets nothing out -/
theorem noX {P : Program} {w : World} {K : PySem.W.Frag} {mg : Str → Option Value} {base : Heap} {k : Nat} {f : Addr} {fd : FuncData} {ps : List Str} {sp : Sp} (F : FnOk P w K mg base (L2N.CX P w) k f fd ps sp) :
    FnOk P w K mg base L2.CX0 k f fd ps (fun vs H Q _ => sp vs H Q L2.E0) := by
  refine ⟨fun vs H Q E h => F.len vs H Q _ h, fun A outer s H args us vs Q E hr e0 hb r h => codeAny_mono (F.run A outer s H args us vs Q _ hr e0 hb r h) fun rs s2 q => ?_⟩
  cases rs with
  | error e =>
    obtain ⟨_, _, _, _, _, _, _, _, _, _, _, _, z⟩ := q
    exact z.elim
  | ok fl => cases fl <;> exact q
end G
set_option Elab.async false
set_option linter.all false
set_option maxRecDepth 100000
set_option maxHeartbeats 4000000
/-! Standings as plain lists, and what operations do to them. -/
namespace G
open PySem PySem.Spec PyProof.Rows L2
/-! ### lists by place -/
def gI (l : List Int) (i : Nat) : Int := l.getD i 0
def gB (l : List Bool) (i : Nat) : Bool := l.getD i false
theorem gI_at {l : List Int} {i : Nat} (h : i < l.length) : l[i]? = some (gI l i) := by
  unfold gI
  rw [List.getElem?_eq_getElem h, List.getD_eq_getElem?_getD, List.getElem?_eq_getElem h] <;> rfl
theorem gB_at {l : List Bool} {i : Nat} (h : i < l.length) : l[i]? = some (gB l i) := by
  unfold gB
  rw [List.getElem?_eq_getElem h, List.getD_eq_getElem?_getD, List.getElem?_eq_getElem h] <;> rfl
theorem gI_of {l : List Int} {i : Nat} {v : Int} (h : l[i]? = some v) : gI l i = v := by
  unfold gI
  rw [List.getD_eq_getElem?_getD, h] <;> rfl
theorem gB_of {l : List Bool} {i : Nat} {v : Bool} (h : l[i]? = some v) : gB l i = v := by
  unfold gB
  rw [List.getD_eq_getElem?_getD, h] <;> rfl
theorem gI_set {l : List Int} {i j : Nat} {v : Int} (h : i < l.length) : gI (l.set i v) j = if j = i then v else gI l j := by
  unfold gI
  rw [List.getD_eq_getElem?_getD, List.getD_eq_getElem?_getD]
  by_cases e : j = i
  · rw [if_pos e, e, List.getElem?_set_self h] <;> rfl
  · rw [if_neg e, List.getElem?_set_ne (Ne.symm e)]
theorem gB_set {l : List Bool} {i j : Nat} {v : Bool} (h : i < l.length) : gB (l.set i v) j = if j = i then v else gB l j := by
  unfold gB
  rw [List.getD_eq_getElem?_getD, List.getD_eq_getElem?_getD]
  by_cases e : j = i
  · rw [if_pos e, e, List.getElem?_set_self h] <;> rfl
  · rw [if_neg e, List.getElem?_set_ne (Ne.symm e)]
theorem atI_pos {α : Type} {l : List α} {i : Int} (h0 : 0 ≤ i) (h1 : i < (l.length : Int)) : atI l i = l[i.toNat]? := by
  unfold atI ixN
  rw [if_pos h0, if_pos h1] <;> rfl
theorem ixN_pos {n : Nat} {i : Int} (h0 : 0 ≤ i) (h1 : i < (n : Int)) : ixN n i = some i.toNat := by
  unfold ixN
  rw [if_pos h0, if_pos h1]
theorem at_I {l : List Int} {i : Int} (h0 : 0 ≤ i) (h1 : i < (l.length : Int)) : atI (l.map V.int) i = some (.int (gI l i.toNat)) := by
  rw [atI_pos h0 (by rw [List.length_map]; exact h1), List.getElem?_map, gI_at (by omega)] <;> rfl
theorem at_B {l : List Bool} {i : Int} (h0 : 0 ≤ i) (h1 : i < (l.length : Int)) : atI (l.map V.bl) i = some (.bl (gB l i.toNat)) := by
  rw [atI_pos h0 (by rw [List.length_map]; exact h1), List.getElem?_map, gB_at (by omega)] <;> rfl
theorem set_I {l : List Int} {k : Nat} {v : Int} : (l.map V.int).set k (V.int v) = (l.set k v).map V.int := by rw [List.map_set]
theorem set_B {l : List Bool} {k : Nat} {v : Bool} : (l.map V.bl).set k (V.bl v) = (l.set k v).map V.bl := by rw [List.map_set]
theorem sz_ok {n : Nat} (h : n ≤ 1000000) : n ≤ sizeLine := by
  rw [sizeLine_eq]
  omega
theorem sz_lt {n : Nat} (h : n < 1000000) : n < sizeLine := by
  rw [sizeLine_eq]
  omega
/-! ### standings -/
structure Sd where
  n : Nat
  R : List Int
  L : List Int
  O : List Bool
structure Wf (s : Sd) : Prop where
  n60 : s.n ≤ 60
  lR : s.R.length = s.n + 1
  lL : s.L.length = s.n + 2
  lO : s.O.length = s.n + 2
  rb : ∀ v : Nat, v ≤ s.n → (v : Int) < gI s.R v ∧ gI s.R v ≤ (s.n : Int) + 1
  lb : ∀ v : Nat, 1 ≤ v → v ≤ s.n + 1 → 0 ≤ gI s.L v ∧ gI s.L v < (v : Int)
def stepS (s : Sd) (op : Int) : Sd :=
  let x := op.natAbs
  let l := (gI s.L x).toNat
  let r := (gI s.R x).toNat
  ⟨s.n, s.R.set l (if op < 0 then gI s.R x else (x : Int)), s.L.set r (if op < 0 then gI s.L x else (x : Int)), s.O.set x (decide (op < 0))⟩
/-- an operation for the size; a legal one -/
def IsOp (n : Nat) (op : Int) : Prop := 1 ≤ op.natAbs ∧ op.natAbs ≤ n
def OkOp (s : Sd) (op : Int) : Prop := IsOp s.n op ∧ gB s.O op.natAbs = decide (0 < op)
instance (n : Nat) (op : Int) : Decidable (IsOp n op) := by unfold IsOp; infer_instance
instance (s : Sd) (op : Int) : Decidable (OkOp s op) := by unfold OkOp; infer_instance
theorem Wf.step {s : Sd} (w : Wf s) {op : Int} (h : IsOp s.n op) : Wf (stepS s op) := by
  obtain ⟨h1, h2⟩ := h
  obtain ⟨r1, r2⟩ := w.rb op.natAbs (by omega)
  obtain ⟨l1, l2⟩ := w.lb op.natAbs h1 (by omega)
  have e1 : (gI s.L op.natAbs).toNat < s.R.length := by rw [w.lR]; omega
  have e2 : (gI s.R op.natAbs).toNat < s.L.length := by rw [w.lL]; omega
  refine ⟨w.n60, ?_, ?_, ?_, fun v hv => ?_, fun v hv hv2 => ?_⟩
  · show (s.R.set _ _).length = _
    rw [List.length_set]
    exact w.lR
  · show (s.L.set _ _).length = _
    rw [List.length_set]
    exact w.lL
  · show (s.O.set _ _).length = _
    rw [List.length_set]
    exact w.lO
  · show (v : Int) < gI (s.R.set _ _) v ∧ gI (s.R.set _ _) v ≤ (s.n : Int) + 1
    rw [gI_set e1]
    by_cases e : v = (gI s.L op.natAbs).toNat
    · rw [if_pos e]
      by_cases o : op < 0
      · rw [if_pos o]
        omega
      · rw [if_neg o]
        omega
    · rw [if_neg e]
      exact w.rb v hv
  · show 0 ≤ gI (s.L.set _ _) v ∧ gI (s.L.set _ _) v < (v : Int)
    rw [gI_set e2]
    by_cases e : v = (gI s.R op.natAbs).toNat
    · rw [if_pos e]
      by_cases o : op < 0
      · rw [if_pos o]
        omega
      · rw [if_neg o]
        omega
    · rw [if_neg e]
      exact w.lb v hv hv2
/-- a, a + 1, .. n of them -/
def rgI (a : Int) (n : Nat) : List Int := (List.range n).map fun (i : Nat) => a + (i : Int)
theorem rgI_len (a : Int) (n : Nat) : (rgI a n).length = n := by simp [rgI]
def wholeS (n : Nat) : Sd := ⟨n, rgI 1 (n + 1), 0 :: rgI 0 (n + 1), List.replicate (n + 2) false⟩
theorem gI_range {n i : Nat} {a : Int} (h : i < n) : gI (rgI a n) i = a + (i : Int) := by
  refine gI_of ?_
  unfold rgI
  rw [List.getElem?_map, List.getElem?_range h] <;> rfl
theorem Wf.whole {n : Nat} (h : n ≤ 60) : Wf (wholeS n) := by
  refine ⟨h, rgI_len _ _, congrArg Nat.succ (rgI_len _ _), List.length_replicate, fun v hv => ?_, fun v h1 h2 => ?_⟩
  · show (v : Int) < gI (rgI 1 (n + 1)) v ∧ gI (rgI 1 (n + 1)) v ≤ (n : Int) + 1
    have hv' : v ≤ n := hv
    rw [gI_range (by omega)]
    omega
  · show 0 ≤ gI (0 :: rgI 0 (n + 1)) v ∧ gI (0 :: rgI 0 (n + 1)) v < (v : Int)
    have h2' : v ≤ n + 1 := h2
    obtain ⟨u, rfl⟩ : ∃ u, v = u + 1 := ⟨v - 1, by omega⟩
    have e : gI (0 :: rgI 0 (n + 1)) (u + 1) = gI (rgI 0 (n + 1)) u := rfl
    rw [e, gI_range (by omega)]
    omega
theorem snoc_ind {α : Type} {P : List α → Prop} (h0 : P []) (h1 : ∀ l x, P l → P (l ++ [x])) (l : List α) : P l := by
  have key : ∀ r : List α, P r.reverse := by
    intro r
    induction r with
    | nil => exact h0
    | cons x r ih =>
      rw [List.reverse_cons]
      exact h1 _ _ ih
  have e := key l.reverse
  rwa [List.reverse_reverse] at e
def runS (s : Sd) (log : List Int) : Sd := log.foldl stepS s
theorem runS_snoc (s : Sd) (log : List Int) (op : Int) : runS s (log ++ [op]) = stepS (runS s log) op := by
  unfold runS
  rw [List.foldl_append] <;> rfl
theorem runS_n (s : Sd) : ∀ log : List Int, (runS s log).n = s.n := by
  intro log
  induction log using snoc_ind with
  | h0 => rfl
  | h1 l x ih => rw [runS_snoc]; exact ih
/-- every operation is legal in turn -/
def Leg (s : Sd) (log : List Int) : Prop := ∀ i op, log[i]? = some op → OkOp (runS s (log.take i)) op
theorem Leg.snoc {s : Sd} {log : List Int} {op : Int} (h : Leg s log) (o : OkOp (runS s log) op) : Leg s (log ++ [op]) := by
  intro i p hp
  by_cases hi : i < log.length
  · rw [List.getElem?_append_left hi] at hp
    rw [List.take_append_of_le_length (by omega)]
    exact h i p hp
  · rw [List.getElem?_append_right (by omega)] at hp
    have e : i = log.length := by
      have := (List.getElem?_eq_some_iff.mp hp).1
      simp at this
      omega
    subst e
    have : p = op := by simpa using hp.symm
    subst this
    rw [List.take_left']
    · exact o
    · rfl
theorem Leg.take {s : Sd} {log : List Int} (h : Leg s log) (k : Nat) : Leg s (log.take k) := by
  intro i op hp
  have hi : i < (log.take k).length := (List.getElem?_eq_some_iff.mp hp).1
  rw [List.length_take] at hi
  rw [List.getElem?_take_of_lt (by omega)] at hp
  rw [List.take_take, Nat.min_eq_left (by omega)]
  exact h i op hp
theorem Leg.wf {s : Sd} (w : Wf s) : ∀ {log : List Int}, Leg s log → Wf (runS s log) := by
  intro log
  induction log using snoc_ind with
  | h0 => exact fun _ => w
  | h1 l x ih =>
    intro h
    have h1 : Leg s l := by
      have := h.take l.length
      rwa [List.take_left' rfl] at this
    have h2 := h l.length x (by simp)
    rw [List.take_left' rfl] at h2
    rw [runS_snoc]
    exact (ih h1).step h2.1
end G
set_option Elab.async false
set_option linter.all false
set_option maxRecDepth 100000
set_option maxHeartbeats 4000000
/-! What the program's own defs promise: standings, logs, gaps. -/
namespace G
open PySem PySem.Spec PyProof.Rows L2
/-! ### a standing in the heap -/
def fl (n r l o : V) : List (Str × V) := putF "_out" o (putF "_lefts" l (putF "_rights" r (putF "size" n [])))
theorem n1 : ¬ (("size" : Str) = "_rights") := by decide +kernel
theorem n2 : ¬ (("size" : Str) = "_lefts") := by decide +kernel
theorem n3 : ¬ (("size" : Str) = "_out") := by decide +kernel
theorem n4 : ¬ (("_rights" : Str) = "_lefts") := by decide +kernel
theorem n5 : ¬ (("_rights" : Str) = "_out") := by decide +kernel
theorem n6 : ¬ (("_lefts" : Str) = "_out") := by decide +kernel
theorem fl_size (n r l o : V) : (fl n r l o).lookup ("size" : Str) = some n := by
  unfold fl
  rw [lookup_putF, if_neg n3, lookup_putF, if_neg n2, lookup_putF, if_neg n1, lookup_putF, if_pos rfl]
theorem fl_R (n r l o : V) : (fl n r l o).lookup ("_rights" : Str) = some r := by
  unfold fl
  rw [lookup_putF, if_neg n5, lookup_putF, if_neg n4, lookup_putF, if_pos rfl]
theorem fl_L (n r l o : V) : (fl n r l o).lookup ("_lefts" : Str) = some l := by
  unfold fl
  rw [lookup_putF, if_neg n6, lookup_putF, if_pos rfl]
theorem fl_O (n r l o : V) : (fl n r l o).lookup ("_out" : Str) = some o := by
  unfold fl
  rw [lookup_putF, if_pos rfl]
theorem fl_no {m : Str} (n r l o : V) (h1 : ¬ m = "size") (h2 : ¬ m = "_rights") (h3 : ¬ m = "_lefts") (h4 : ¬ m = "_out") : (fl n r l o).lookup m = none := by
  unfold fl
  rw [lookup_putF, if_neg h4, lookup_putF, if_neg h3, lookup_putF, if_neg h2, lookup_putF, if_neg h1]
  rfl
theorem fl_eq (n r l o : V) : fl n r l o = [(("size" : Str), n), ("_rights", r), ("_lefts", l), ("_out", o)] := by
  unfold fl
  simp only [putF, if_neg n1, if_neg n2, if_neg n3, if_neg n4, if_neg n5, if_neg n6]
theorem fl_len (n r l o : V) : (fl n r l o).length < 1000 := by
  rw [fl_eq]
  show 4 < 1000
  decide
theorem fl_putR (n r l o r2 : V) : putF "_rights" r2 (fl n r l o) = fl n r2 l o := by
  rw [fl_eq, fl_eq]
  simp only [putF]
  rw [if_neg n1, if_pos trivial]
theorem fl_putL (n r l o l2 : V) : putF "_lefts" l2 (fl n r l o) = fl n r l2 o := by
  rw [fl_eq, fl_eq]
  simp only [putF]
  rw [if_neg n2, if_neg n4, if_pos trivial]
theorem fl_putO (n r l o o2 : V) : putF "_out" o2 (fl n r l o) = fl n r l o2 := by
  rw [fl_eq, fl_eq]
  simp only [putF]
  rw [if_neg n3, if_neg n5, if_neg n6, if_pos trivial]
structure LinksAt (K : PySem.W.Frag) (H : Hp) (p r l o : Addr) (s : Sd) : Prop where
  ob : ∃ dx, H p = some (.ins (He.ga K "Links") dx (fl (.int s.n) (.ref r) (.ref l) (.ref o)))
  hr : H r = some (.lst (s.R.map V.int))
  hl : H l = some (.lst (s.L.map V.int))
  ho : H o = some (.lst (s.O.map V.bl))
  rl : r ≠ l
  ro : r ≠ o
  lo : l ≠ o
  wf : Wf s
theorem LinksAt.pr {K : PySem.W.Frag} {H : Hp} {p r l o : Addr} {s : Sd} (a : LinksAt K H p r l o s) : p ≠ r ∧ p ≠ l ∧ p ≠ o := by
  obtain ⟨dx, h⟩ := a.ob
  exact ⟨ne_of h a.hr (by intro z; cases z), ne_of h a.hl (by intro z; cases z), ne_of h a.ho (by intro z; cases z)⟩
theorem LinksAt.kp {K : PySem.W.Frag} {H H' : Hp} {p r l o : Addr} {s : Sd} {S : List Addr} (a : LinksAt K H p r l o s) (k : Kp S H H') (h1 : p ∉ S) (h2 : r ∉ S) (h3 : l ∉ S) (h4 : o ∉ S) : LinksAt K H' p r l o s := by
  obtain ⟨dx, h⟩ := a.ob
  exact ⟨⟨dx, k _ _ h1 h⟩, k _ _ h2 a.hr, k _ _ h3 a.hl, k _ _ h4 a.ho, a.rl, a.ro, a.lo, a.wf⟩
theorem LinksAt.k0 {K : PySem.W.Frag} {H H' : Hp} {p r l o : Addr} {s : Sd} (a : LinksAt K H p r l o s) (k : Kp [] H H') : LinksAt K H' p r l o s := a.kp k (by simp) (by simp) (by simp) (by simp)
/-! ### errors -/
/-- an error of the class x leaves, new, with these fields -/
def Ex (K : PySem.W.Frag) (x : Str) (fs : List (Str × V)) (E : XK) (H : Hp) : Prop := ∀ d, H d = none → E (.ref (He.ga K x)) (some d) (upd H d (.xd fs))
def OpE (K : PySem.W.Frag) (n : Nat) (op : Int) (i : Int) (E : XK) (H : Hp) : Prop := Ex K (if IsOp n op then "Illegal" else "BadOperation") [("index", .int i), ("operation", .int op)] E H
/-- .. the first wrong operation of a log -/
def LogE (K : PySem.W.Frag) (s : Sd) (log : List Int) (E : XK) (H : Hp) : Prop := ∀ (i : Nat) (op : Int), log[i]? = some op → Leg s (log.take i) → ¬ OkOp (runS s (log.take i)) op → ∀ H', Kp [] H H' → OpE K s.n op i E H'
def SizeOk (size : Int) : Prop := 0 ≤ size ∧ size ≤ 60
instance (size : Int) : Decidable (SizeOk size) := by unfold SizeOk; infer_instance
/-! ### gaps -/
def stT (s : Sd) (v : Nat) : Str := if gI s.R v = (v : Int) + 1 then (if gI s.L (v + 1) = (v : Int) then "joined" else "left") else (if gI s.L (v + 1) = (v : Int) then "right" else "lost")
def lostL (s : Sd) : List Nat := (List.range (s.n + 1)).filter fun v => decide (stT s v = "lost")
/-! ### promises -/
section
variable (K : PySem.W.Frag)
def sp_check_size : Sp := fun vs H Q E => ∃ size : Int, vs = [.int size] ∧ (SizeOk size → Q .non H) ∧ (¬ SizeOk size → Ex K "BadSize" [("size", .int size)] E H)
def sp_check_operation : Sp := fun vs H Q E => ∃ (n : Nat) (op i : Int), vs = [.int n, .int op, .int i] ∧ (IsOp n op → Q .non H) ∧ (¬ IsOp n op → Ex K "BadOperation" [("index", .int i), ("operation", .int op)] E H)
def sp_check_gap : Sp := fun vs H Q E => ∃ (n : Nat) (g : Int), vs = [.int n, .int g] ∧ (0 ≤ g ∧ g ≤ n → Q .non H) ∧ (¬ (0 ≤ g ∧ g ≤ n) → Ex K "BadGap" [("gap", .int g)] E H)
def sp_Links___init__ : Sp := fun vs H Q E => ∃ (p dx : Addr) (size : Int), vs = [.ref p, .int size] ∧ H p = some (.ins (He.ga K "Links") dx []) ∧
  (SizeOk size → ∀ (r l o : Addr) (H' : Hp), H r = none → H l = none → H o = none → Kp [p] H H' → LinksAt K H' p r l o (wholeS size.toNat) → Q .non H') ∧ (¬ SizeOk size → Ex K "BadSize" [("size", .int size)] E H)
def sp_Links_is_legal : Sp := fun vs H Q E => ∃ (p r l o : Addr) (s : Sd) (op : Int), vs = [.ref p, .int op] ∧ LinksAt K H p r l o s ∧ IsOp s.n op ∧ Q (.bl (decide (gB s.O op.natAbs = decide (0 < op)))) H
def sp_Links_check : Sp := fun vs H Q E => ∃ (p r l o : Addr) (s : Sd) (op i : Int), vs = [.ref p, .int op, .int i] ∧ LinksAt K H p r l o s ∧ (OkOp s op → Q .non H) ∧ (¬ OkOp s op → OpE K s.n op i E H)
def sp_Links_apply_at : Sp := fun vs H Q E => ∃ (p r l o : Addr) (s : Sd) (op i : Int), vs = [.ref p, .int op, .int i] ∧ LinksAt K H p r l o s ∧ (OkOp s op → ∀ H', Kp [r, l, o] H H' → LinksAt K H' p r l o (stepS s op) → Q .non H') ∧ (¬ OkOp s op → OpE K s.n op i E H)
def sp_Links_apply : Sp := fun vs H Q E => ∃ (p r l o : Addr) (s : Sd) (op : Int), vs = [.ref p, .int op] ∧ LinksAt K H p r l o s ∧ (OkOp s op → ∀ H', Kp [r, l, o] H H' → LinksAt K H' p r l o (stepS s op) → Q .non H') ∧ (¬ OkOp s op → OpE K s.n op 0 E H)
def sp_Links_left : Sp := fun vs H Q E => ∃ (p r l o : Addr) (s : Sd) (v : Nat), vs = [.ref p, .int v] ∧ LinksAt K H p r l o s ∧ 1 ≤ v ∧ v ≤ s.n + 1 ∧ Q (.int (gI s.L v)) H
def sp_Links_right : Sp := fun vs H Q E => ∃ (p r l o : Addr) (s : Sd) (v : Nat), vs = [.ref p, .int v] ∧ LinksAt K H p r l o s ∧ v ≤ s.n ∧ Q (.int (gI s.R v)) H
/-- a new standing s -/
def NewS (H : Hp) (s : Sd) (Q : VK) : Prop := ∀ (p r l o : Addr) (H' : Hp), H p = none → H r = none → H l = none → H o = none → Kp [] H H' → LinksAt K H' p r l o s → Q (.ref p) H'
def sp_Links_copy : Sp := fun vs H Q E => ∃ (p r l o : Addr) (s : Sd), vs = [.ref p] ∧ LinksAt K H p r l o s ∧ NewS K H s Q
def sp_play : Sp := fun vs H Q E => ∃ (p r l o a : Addr) (s : Sd) (log : List Int), vs = [.ref p, .ref a] ∧ LinksAt K H p r l o s ∧ SqL K H a (log.map V.int) ∧ (Leg s log → NewS K H (runS s log) Q) ∧ LogE K s log E H
def sp_replay : Sp := fun vs H Q E => ∃ (a : Addr) (size : Int) (log : List Int), vs = [.int size, .ref a] ∧ SqL K H a (log.map V.int) ∧ (SizeOk size → Leg (wholeS size.toNat) log → NewS K H (runS (wholeS size.toNat) log) Q) ∧
  (SizeOk size → LogE K (wholeS size.toNat) log E H) ∧ (¬ SizeOk size → ∀ H', Kp [] H H' → Ex K "BadSize" [("size", .int size)] E H')
def sp_gap_state : Sp := fun vs H Q E => ∃ (p r l o : Addr) (s : Sd) (g : Int), vs = [.ref p, .int g] ∧ LinksAt K H p r l o s ∧ (0 ≤ g ∧ g ≤ s.n → Q (.str (stT s g.toNat)) H) ∧ (¬ (0 ≤ g ∧ g ≤ s.n) → Ex K "BadGap" [("gap", .int g)] E H)
def sp_gap_states : Sp := fun vs H Q E => ∃ (p r l o : Addr) (s : Sd), vs = [.ref p] ∧ LinksAt K H p r l o s ∧ ∀ (q : Addr) (H' : Hp), H q = none → Kp [] H H' → H' q = some (.lst ((List.range (s.n + 1)).map fun (v : Nat) => V.str (stT s v))) → Q (.ref q) H'
def sp_lost_gaps : Sp := fun vs H Q E => ∃ (p r l o : Addr) (s : Sd), vs = [.ref p] ∧ LinksAt K H p r l o s ∧ ∀ (q : Addr) (H' : Hp), H q = none → Kp [] H H' → H' q = some (.lst ((lostL s).map fun (v : Nat) => V.int (v : Int))) → Q (.ref q) H'
end
end G
set_option Elab.async false
set_option linter.all false
set_option maxRecDepth 100000
set_option maxHeartbeats 4000000
/-! More steps. -/
namespace G
open PySem PySem.Spec PyProof.Rows L2
section
variable {K : PySem.W.Frag} {σ : L2.St} {H : Hp} {Q : VK} {ta tb tc te : TE} {x y v : V} {D : Ends} {tl : TA} {i j : Int} {n m : Nat} {p q : Addr} {xs ys : List V} {A B : Prop}
theorem w_tT (a : A) : if true = true then A else B := iteT a
theorem w_tF (b : B) : if false = true then A else B := iteF b
theorem w_nT (a : A) : if (!false) = true then A else B := iteT a
theorem w_nF (b : B) : if (!true) = true then A else B := iteF b
theorem w_rz {C : Addr} {fs : List Str} {W : WX} (g : tl σ H fun us H1 => us.length = fs.length ∧ us.length ≤ 1000 ∧ ∀ d, H1 d = none → W (.ref C) (some d) σ (upd H1 d (.xd (fs.zip us).reverse))) : tRz C fs W tl D σ H := g
theorem w_rg1 {R : Int → Int → Hp → Prop} (g : te σ H fun x H1 => ∃ n, x = .int n ∧ R 0 n H1) : tRg1 te σ H R := g
theorem w_rg2 {R : Int → Int → Hp → Prop} (g : ta σ H fun x H1 => tb σ H1 fun y H2 => ∃ i j, x = .int i ∧ y = .int j ∧ R i j H2) : tRg2 ta tb σ H R := g
theorem w_n1 {R : Int → Prop} (g : R i) : ∃ n, V.int i = .int n ∧ R n := ⟨i, rfl, g⟩
theorem w_n2 {R : Int → Int → Prop} (g : R i j) : ∃ a b, V.int i = .int a ∧ V.int j = .int b ∧ R a b := ⟨i, j, rfl, rfl, g⟩
theorem w_sl {r : V → Option Int → Option Int → Hp → VK → Prop} {tlo thi : TO} (g : te σ H fun x H1 => tlo σ H1 fun l H2 => thi σ H2 fun u H3 => r x l u H3 Q) : tSl r te tlo thi σ H Q := g
theorem w_np {R : Option Int → Hp → Prop} (g : R none H) : tNoPart σ H R := g
theorem w_pt {R : Option Int → Hp → Prop} (g : te σ H fun x H1 => ∃ i, x = .int i ∧ R (some i) H1) : tPart te σ H R := g
theorem w_tr {R : Bool → Hp → Prop} (g : te σ H fun x H' => ∃ k, TruV K x H' k ∧ R k H') : tTr K te σ H R := g
theorem w_truL {R : Bool → Prop} (h : SqL K H p xs) (g : R (!xs.isEmpty)) : ∃ k, TruV K (.ref p) H k ∧ R k := ⟨_, .inl ⟨xs, h, rfl⟩, g⟩
theorem w_gn {k : Nat} {R : L2.St → Hp → Prop} (g : R (σ.set k (some v)) H) : gName k v σ H R := g
theorem w_g1 {g1 : TG} {R : L2.St → Hp → Prop} (g : g1 x σ H R) : gCons g1 gNil [x] σ H R := ⟨x, [], rfl, by
  have e : (fun σ2 H2 => gNil [] σ2 H2 R) = R := funext fun σ2 => funext fun H2 => propext ⟨fun z => z.2, fun z => ⟨rfl, z⟩⟩
  rw [e]
  exact g⟩
theorem w_gc {g1 : TG} {ts : TGs} {R : L2.St → Hp → Prop} (g : g1 x σ H fun σ1 H1 => ts (y :: xs) σ1 H1 R) : gCons g1 ts (x :: y :: xs) σ H R := ⟨x, y :: xs, rfl, g⟩
theorem w_gt {T : Addr} {k : Nat} {ts : TGs} {R : L2.St → Hp → Prop} (h : SqT K H T xs) (hl : xs.length = k) (g : ts xs σ H R) : gTup K k ts (.ref T) σ H R := ⟨T, xs, rfl, h, hl, g⟩
/-- a new object: the heap goes on under a name -/
def NwU (o : HO) (H : Hp) (Q : VK) : Prop := ∀ q, H q = none → Q (.ref q) (upd H q o)
theorem nw {o : HO} (g : ∀ q H', H q = none → Kp [] H H' → H' q = some o → Q (.ref q) H') : NwU o H Q := fun q n => g q _ n (Kp.new n) upd_same
theorem w_lstN (g : tl σ H fun xs H1 => xs.length ≤ sizeLine ∧ NwU (.lst xs) H1 Q) : tLst tl σ H Q := g
theorem w_tupN (g : tl σ H fun xs H1 => xs.length ≤ sizeLine ∧ NwU (.tup xs) H1 Q) : tTup tl σ H Q := g
theorem w_lrgN {t : L2.St → Hp → (Int → Int → Hp → Prop) → Prop} (g : t σ H fun a b H1 => RgOk a b ∧ NwU (.lst (rgV a b)) H1 Q) : tLstRg t σ H Q := g
theorem w_addLN (h1 : H p = some (.lst xs)) (h2 : H q = some (.lst ys)) (h : xs.length + ys.length ≤ sizeLine) (g : ∀ r H', H r = none → Kp [] H H' → H' r = some (.lst (xs ++ ys)) → Q (.ref r) H') : rAddA (.ref p) (.ref q) H Q := w_addL h1 h2 h (nw g)
theorem w_mulLN (h1 : H p = some (.lst xs)) (h2 : -(2 ^ 63) ≤ j) (h3 : j < 2 ^ 63) (h : xs.length * j.toNat ≤ sizeLine) (g : ∀ r H', H r = none → Kp [] H H' → H' r = some (.lst (List.replicate j.toNat xs).flatten) → Q (.ref r) H') : rMulA (.ref p) (.int j) H Q := w_mulL h1 h2 h3 h (nw g)
theorem w_listLN (h : SqL K H p xs) (g : ∀ l H', H l = none → Kp [] H H' → H' l = some (.lst xs) → Q (.ref l) H') : rListA K [.ref p] H Q := w_listL h (nw g)
theorem w_sT {C dx : Addr} {fs : List (Str × V)} {f : Str} {R : Hp → Prop} {v : V} (cl : Cls K C) (na : NoAttr K C f) (h : H p = some (.ins C dx fs)) (hl : fs.length < 1000) (g : ∀ H', Kp [p] H H' → H' p = some (.ins C dx (putF f v fs)) → R H') :
    ∃ a C dx fs, V.ref p = .ref a ∧ H a = some (.ins C dx fs) ∧ Cls K C ∧ NoAttr K C f ∧ fs.length < 1000 ∧ R (upd H a (.ins C dx (putF f v fs))) := ⟨p, C, dx, fs, rfl, h, cl, na, hl, g _ (Kp.put (by simp)) upd_same⟩
theorem w_seT {R : Hp → Prop} (h : H p = some (.lst xs)) (ha : ixN xs.length i = some n) (g : ∀ H', Kp [p] H H' → H' p = some (.lst (xs.set n v)) → R H') : rSetL (.ref p) (.int i) v H R := w_setL h ha (g _ (Kp.put (by simp)) upd_same)
theorem w_apT (h : H p = some (.lst xs)) (hl : xs.length < sizeLine) (g : ∀ H', Kp [p] H H' → H' p = some (.lst (xs ++ [v])) → Q .non H') : rAppend (.ref p) [v] H Q := w_append h hl (g _ (Kp.put (by simp)) upd_same)
/-- an object of a class, made: its dict, the object -/
def MkU (C : Addr) (sp : Sp) (E : XK) (vs : List V) (H : Hp) (Q : VK) : Prop := ∀ x dx, H x = none → H dx = none → dx ≠ x → sp (.ref x :: vs) (upd (upd H dx (.own x)) x (.ins C dx [])) (fun v H2 => v = .non ∧ Q (.ref x) H2) E
theorem w_mkN {C : Addr} {sp : Sp} {E : L2.St → XK} (g : tl σ H fun vs H1 => MkU C sp (E σ) vs H1 Q) : tMk C sp E tl σ H Q := g
theorem mk {C : Addr} {sp : Sp} {E : XK} {vs : List V} (g : ∀ x dx H', H x = none → H' x = some (.ins C dx []) → Kp [] H H' → sp (.ref x :: vs) H' (fun v H2 => v = .non ∧ Q (.ref x) H2) E) : MkU C sp E vs H Q :=
  fun x dx n1 n2 ne => g x dx _ n1 upd_same ((Kp.new n2).trans (Kp.new (by rw [upd_ne (Ne.symm ne)]; exact n1)))
theorem w_r1 {R : Int → Prop} {n : Int} (h : -(2 ^ 62) ≤ n ∧ n < 2 ^ 62) (g : R n) : ∃ j : Int, [V.int n] = [.int j] ∧ -(2 ^ 62) ≤ j ∧ j < 2 ^ 62 ∧ R j := ⟨n, rfl, h.1, h.2, g⟩
theorem w_r2 {R : Int → Int → Prop} {a b : Int} (h : -(2 ^ 62) ≤ a ∧ a < 2 ^ 62 ∧ -(2 ^ 62) ≤ b ∧ b < 2 ^ 62) (g : R a b) : ∃ i j : Int, [V.int a, V.int b] = [.int i, .int j] ∧ (-(2 ^ 62) ≤ i ∧ i < 2 ^ 62 ∧ -(2 ^ 62) ≤ j ∧ j < 2 ^ 62) ∧ R i j := ⟨a, b, rfl, h, g⟩
theorem w_yes {R : Bool → Hp → Prop} (g : R true H) : tYes σ H R := g
theorem ref_ne : V.ref p ≠ .non := fun z => by cases z
theorem int_ne : V.int i ≠ .non := fun z => by cases z
theorem at_0 : atI (x :: xs) 0 = some x := by
  rw [atI_pos (by omega) (by rw [List.length_cons]; omega)] <;> rfl
theorem w_l1 {R : Addr → Prop} (h : SqL K H p xs) (g : R p) : ∃ a, V.ref p = .ref a ∧ (∃ xs, SqL K H a xs) ∧ R a := ⟨p, rfl, ⟨xs, h⟩, g⟩
/-- a field of a standing -/
theorem w_fR {r l o : Addr} {s : Sd} {R : V → Prop} (cl : Cls K (He.ga K "Links")) (na : NoAttr K (He.ga K "Links") "_rights") (a : LinksAt K H p r l o s) (g : R (.ref r)) :
    ∃ a C dx fs v, V.ref p = .ref a ∧ H a = some (.ins C dx fs) ∧ Cls K C ∧ NoAttr K C "_rights" ∧ fs.lookup ("_rights" : Str) = some v ∧ R v := by
  obtain ⟨dx, h⟩ := a.ob
  exact ⟨p, _, dx, _, _, rfl, h, cl, na, fl_R _ _ _ _, g⟩
theorem w_fL {r l o : Addr} {s : Sd} {R : V → Prop} (cl : Cls K (He.ga K "Links")) (na : NoAttr K (He.ga K "Links") "_lefts") (a : LinksAt K H p r l o s) (g : R (.ref l)) :
    ∃ a C dx fs v, V.ref p = .ref a ∧ H a = some (.ins C dx fs) ∧ Cls K C ∧ NoAttr K C "_lefts" ∧ fs.lookup ("_lefts" : Str) = some v ∧ R v := by
  obtain ⟨dx, h⟩ := a.ob
  exact ⟨p, _, dx, _, _, rfl, h, cl, na, fl_L _ _ _ _, g⟩
theorem w_fO {r l o : Addr} {s : Sd} {R : V → Prop} (cl : Cls K (He.ga K "Links")) (na : NoAttr K (He.ga K "Links") "_out") (a : LinksAt K H p r l o s) (g : R (.ref o)) :
    ∃ a C dx fs v, V.ref p = .ref a ∧ H a = some (.ins C dx fs) ∧ Cls K C ∧ NoAttr K C "_out" ∧ fs.lookup ("_out" : Str) = some v ∧ R v := by
  obtain ⟨dx, h⟩ := a.ob
  exact ⟨p, _, dx, _, _, rfl, h, cl, na, fl_O _ _ _ _, g⟩
theorem w_fS {r l o : Addr} {s : Sd} {R : V → Prop} (cl : Cls K (He.ga K "Links")) (na : NoAttr K (He.ga K "Links") "size") (a : LinksAt K H p r l o s) (g : R (.int s.n)) :
    ∃ a C dx fs v, V.ref p = .ref a ∧ H a = some (.ins C dx fs) ∧ Cls K C ∧ NoAttr K C "size" ∧ fs.lookup ("size" : Str) = some v ∧ R v := by
  obtain ⟨dx, h⟩ := a.ob
  exact ⟨p, _, dx, _, _, rfl, h, cl, na, fl_size _ _ _ _, g⟩
/-- .. of an object with the fields of a standing -/
theorem w_oR {dx : Addr} {n r l o : V} {R : V → Prop} (cl : Cls K (He.ga K "Links")) (na : NoAttr K (He.ga K "Links") "_rights") (h : H p = some (.ins (He.ga K "Links") dx (fl n r l o))) (g : R r) :
    ∃ a C dx fs v, V.ref p = .ref a ∧ H a = some (.ins C dx fs) ∧ Cls K C ∧ NoAttr K C "_rights" ∧ fs.lookup ("_rights" : Str) = some v ∧ R v := ⟨p, _, dx, _, _, rfl, h, cl, na, fl_R _ _ _ _, g⟩
theorem w_oL {dx : Addr} {n r l o : V} {R : V → Prop} (cl : Cls K (He.ga K "Links")) (na : NoAttr K (He.ga K "Links") "_lefts") (h : H p = some (.ins (He.ga K "Links") dx (fl n r l o))) (g : R l) :
    ∃ a C dx fs v, V.ref p = .ref a ∧ H a = some (.ins C dx fs) ∧ Cls K C ∧ NoAttr K C "_lefts" ∧ fs.lookup ("_lefts" : Str) = some v ∧ R v := ⟨p, _, dx, _, _, rfl, h, cl, na, fl_L _ _ _ _, g⟩
theorem w_oO {dx : Addr} {n r l o : V} {R : V → Prop} (cl : Cls K (He.ga K "Links")) (na : NoAttr K (He.ga K "Links") "_out") (h : H p = some (.ins (He.ga K "Links") dx (fl n r l o))) (g : R o) :
    ∃ a C dx fs v, V.ref p = .ref a ∧ H a = some (.ins C dx fs) ∧ Cls K C ∧ NoAttr K C "_out" ∧ fs.lookup ("_out" : Str) = some v ∧ R v := ⟨p, _, dx, _, _, rfl, h, cl, na, fl_O _ _ _ _, g⟩
/-- a method of a standing -/
theorem w_me {r l o : Addr} {s : Sd} {m : Str} {R : Prop} (a : LinksAt K H p r l o s) (hm : ∀ n r l o : V, (fl n r l o).lookup m = none) (g : R) : ∃ a dx fs, V.ref p = .ref a ∧ H a = some (.ins (He.ga K "Links") dx fs) ∧ fs.lookup m = none ∧ R := by
  obtain ⟨dx, h⟩ := a.ob
  exact ⟨p, dx, _, rfl, h, hm _ _ _ _, g⟩
end
/-- a method's name is none of the fields -/
theorem no_m {m : Str} (h1 : ¬ m = "size" := by decide +kernel) (h2 : ¬ m = "_rights" := by decide +kernel) (h3 : ¬ m = "_lefts" := by decide +kernel) (h4 : ¬ m = "_out" := by decide +kernel) (n r l o : V) : (fl n r l o).lookup m = none := fl_no n r l o h1 h2 h3 h4
theorem natAbs_if (i : Int) : (if i < 0 then -i else i) = (i.natAbs : Int) := by
  split <;> omega
end G
set_option Elab.async false
set_option linter.all false
set_option maxRecDepth 100000
set_option maxHeartbeats 4000000
/-! == by an own __eq__, any answer. -/
namespace G
open PySem PySem.Spec PyProof.Rows L2
section
variable {X : Cx} {j k : Nat} {ps : List Str} {sp : Sp} {E : XK} {C f : Addr} {fd : FuncData}
def rOwn (C : Addr) (sp : Sp) (E : XK) : R2 := fun x y H Q => ∃ a b dx dy fs gs, x = .ref a ∧ y = .ref b ∧ H a = some (.ins C dx fs) ∧ H b = some (.ins C dy gs) ∧ sp [.ref a, .ref b] H (fun v H' => (∃ k, v = .bl k) ∧ Q v H') E
theorem op_own (F : FnOk X.prog X.w X.K X.mg X.base (L2N.CX X.prog X.w) k f fd ps sp) (hb : Binds X.K fd ps []) (hr : Room j X.A) (hk : k ≤ j) (hx : PAt X (fun _ => E))
    (hs : PySem.W.findIn X.K (.ref C) "__eq__" = some (some (.ref f))) (hf : PySem.W.isFn X.K (.ref f) = true) : OpR X (compareOp .Eq) (rOwn C sp E) := by
  intro pins s σ H x y u v Q I rx ry hq
  obtain ⟨a, b, dx, dy, fs, gs, rfl, rfl, ha, hb', q⟩ := hq
  cases rx
  cases ry
  obtain ⟨mA, J, _⟩ := ins_get I.hok ha
  obtain ⟨mB, J', _⟩ := ins_get I.hok hb'
  obtain ⟨od, J, _⟩ := J.look
  obtain ⟨od', J', _⟩ := J'.look
  obtain ⟨m, hF⟩ := I.fr
  show wpAny (model X.prog X.w) X.A (richCompare .Eq (.ref a) (.ref b)) (EP X pins σ Q) X.xe s
  refine PySem.W.cmp_K (op := .Eq) (tb := .ref C) hr.units0 hF I.ok.mod.kin J J'.type (by simp [PySem.W.notFirst]) hs hf ?_
  refine wpAny_mono (run_fnS (E := fun _ => E) (us := [.ref a, .ref b]) (vs := [.ref a, .ref b]) F (hr.mono hk) hb (hx σ) I (.cons rfl (.cons rfl .nil)) q) (fun r s' z => ?_) fun _ _ x => x
  obtain ⟨w, H', I', rw_, ⟨kk, rfl⟩, qq⟩ := z
  cases rw_
  exact ⟨.bl kk, H', I', rfl, qq⟩
end
end G
namespace G
open PySem PySem.Spec PyProof.Rows L2
section
variable {X : Cx} {j k : Nat} {ps : List Str} {sp : Sp} {E : XK} {C : Addr}
/-- == of data, or by the own __eq__ of the class at C -/
def rEqO (K : PySem.W.Frag) (C : Addr) (sp : Sp) (E : XK) : R2 := fun x y H Q => rEqA K x y H Q ∨ rOwn C sp E x y H Q
theorem op_eqO {i : Nat} (c : Met X.prog X.w X.K X.mg X.base k C "__eq__" ps sp) (hr : Room j X.A) (hk : k ≤ j) (hx : PAt X (fun _ => E)) : OpR X (compareOp .Eq) (rEqO X.K C sp E) := by
  obtain ⟨f, fd, F, hm, hb⟩ := c.ex
  exact OpR.or (op_eqA hr) (op_own F hb hr hk hx hm.at_ hm.fn)
end
end G
namespace G
open PySem PySem.Spec PyProof.Rows L2
/-- isinstance of an instance of an own class -/
def tyB (x : Str) (K : PySem.W.Frag) : Bool := He.eqO (PySem.W.findIn K (.ref (He.ga K x)) "__class__") (some (some (.builtin "object.__class__"))) && eqT (PySem.W.mroIn K (He.ga K x) (.type "object")) (some true)
theorem tyB_ok {x : Str} {K : PySem.W.Frag} (q : tyB x K = true) : PySem.W.findIn K (.ref (He.ga K x)) "__class__" = some (some (.builtin "object.__class__")) ∧ PySem.W.mroIn K (He.ga K x) (.type "object") = some true := by
  obtain ⟨q1, q2⟩ := He.ba q
  exact ⟨He.eqO_ok q1, of_decide_eq_true q2⟩
end G
set_option Elab.async false
set_option linter.all false
set_option maxRecDepth 100000
set_option maxHeartbeats 4000000
/-! More built-ins: str, tuple, is True, pop, insert, extend. -/
namespace G
open PySem PySem.Spec PyProof.Rows L2
/-- x is True, x is False, of a truth value -/
def rIsB (neg : Bool) : R2 := fun x y H Q => ∃ b c, x = .bl b ∧ y = .bl c ∧ Q (.bl (neg != decide (b = c))) H
section
variable {X : Cx}
theorem op_isB : OpR X (compareOp .Is) (rIsB false) := by
  intro pins s σ H x y v u Q I rx ry h
  obtain ⟨b, c, rfl, rfl, q⟩ := h
  cases rx
  cases ry
  show wpAny _ _ ((isSame (Value.bool b) (Value.bool c)) >>= fun z => pure (Value.bool z)) _ _ s
  refine wpAny_bind (wpAny_isSame_plain rfl (wpAny_pure (fin_bl I q ?_)))
  cases b <;> cases c <;> rfl
theorem op_isnotB : OpR X (compareOp .IsNot) (rIsB true) := by
  intro pins s σ H x y v u Q I rx ry h
  obtain ⟨b, c, rfl, rfl, q⟩ := h
  cases rx
  cases ry
  show wpAny _ _ ((isSame (Value.bool b) (Value.bool c)) >>= fun z => pure (Value.bool (!z))) _ _ s
  refine wpAny_bind (wpAny_isSame_plain rfl (wpAny_pure (fin_bl I q ?_)))
  cases b <;> cases c <;> rfl
end
section
variable {K : PySem.W.Frag} {σ : L2.St} {H : Hp} {Q : VK} {ta tb tc te : TE} {x y v : V} {i j : Int} {n m : Nat} {p q : Addr} {xs ys : List V} {b c : Bool}
theorem w_isB (g : Q (.bl (decide (b = c))) H) : rIsB false (.bl b) (.bl c) H Q := ⟨b, c, rfl, rfl, by
  have e : (false != decide (b = c)) = decide (b = c) := by cases decide (b = c) <;> rfl
  rw [e]; exact g⟩
theorem w_isnB (g : Q (.bl (!decide (b = c))) H) : rIsB true (.bl b) (.bl c) H Q := ⟨b, c, rfl, rfl, by
  have e : (true != decide (b = c)) = !decide (b = c) := by cases decide (b = c) <;> rfl
  rw [e]; exact g⟩
theorem w_popAt {k : Nat} (h : H p = some (.lst xs)) (h1 : -(2 ^ 63) ≤ i) (h2 : i < 2 ^ 63) (hk : seqIndex? i xs.length = some k) (hy : xs[k]? = some y) (g : ∀ H', Kp [p] H H' → H' p = some (.lst (xs.eraseIdx k)) → Q y H') : rPopAt (.ref p) [.int i] H Q :=
  ⟨p, xs, i, k, y, rfl, rfl, h, h1, h2, hk, hy, g _ (Kp.put (by simp)) upd_same⟩
theorem w_inL {neg : Bool} (h : SqL K H p xs) (hx : flatV x = true) (ha : xs.all flatV = true) (g : Q (.bl (if neg then !inV x xs else inV x xs)) H) : rIn K neg x (.ref p) H Q := ⟨p, xs, rfl, .inl h, hx, ha, g⟩
theorem w_inT {neg : Bool} (h : SqT K H p xs) (hx : flatV x = true) (ha : xs.all flatV = true) (g : Q (.bl (if neg then !inV x xs else inV x xs)) H) : rIn K neg x (.ref p) H Q := ⟨p, xs, rfl, .inr h, hx, ha, g⟩
theorem flatI : ∀ l : List Int, (l.map V.int).all flatV = true
  | [] => rfl
  | a :: l => by rw [List.map_cons, List.all_cons, flatI l]; rfl
end
end G
set_option Elab.async false
set_option linter.all false
set_option maxRecDepth 100000
set_option maxHeartbeats 4000000
/-! Static methods, texts, more in a handler; a head with defs at any address. -/
namespace G
open PySem PySem.Spec PyProof.Rows L2
/-! ### a static method by its class -/
/-! ### the head, defs at any address -/
def obsY (fa : List Chk) (fn : List He5.DefA) (K : PySem.W.Frag) : He.AlD := ((fa.all fun f => f K) && fn.all fun d => d.ok K, fn.map fun d => He5.fnA K (d.at_ K))
def valY (fn : List He5.DefA) : He.AlD := (true, fn.map He5.DefA.val)
def SaysY (fa : List Chk) (fn : List He5.DefA) (K : PySem.W.Frag) : Prop := obsY fa fn K = valY fn
def obsYG (n : Nat) (fa : List Chk) (fn : List He5.DefA) (g : Addr → Option Obj) : He.AlD := obsY fa fn (He.frG g (He.asD g n ++ [cStatics]))
def hookY (n : Nat) (fa : List Chk) (fn : List He5.DefA) : PySem.W.Hook where
  α := He.AlD
  obs := fun s => obsYG n fa fn s.heap.get?
  val := fun _ => valY fn
  says := fun _ h => ∃ K : PySem.W.Frag, K.In h ∧ SaysY fa fn K
  of := fun _ _ e => ⟨_, He.frG_in, e⟩
  keeps := fun _ _ _ ⟨K, hK, c⟩ k => ⟨K, PySem.W.Frag.In.keeps hK k, c⟩
theorem obsYG_eq {n : Nat} {fa : List Chk} {fn : List He5.DefA} {g : Addr → Option Obj} {s : Shared} (h : ∀ a, g a = s.heap.get? a) : obsYG n fa fn g = (hookY n fa fn).obs s := by
  have e : g = s.heap.get? := funext h
  rw [e] <;> rfl
section
variable {fa : List Chk} {fn : List He5.DefA} {K : PySem.W.Frag}
theorem SaysY.fact (c : SaysY fa fn K) (i : Nat) {f : Chk} (h : fa[i]? = some f := by rfl) : f K = true := by
  have c1 := (He.ba (show ((fa.all fun f => f K) && fn.all fun d => d.ok K) = true from congrArg (fun z : He.AlD => z.1) c)).1
  exact List.all_eq_true.mp c1 f (List.mem_of_getElem? h)
theorem SaysY.def_ (c : SaysY fa fn K) (i : Nat) {d : He5.DefA} (h : fn[i]? = some d := by rfl) : ∃ fd, FunD K d.name d.qual d.params d.body d.scope (d.dvs K) (d.kws K) (d.at_ K) fd := by
  have c2 := (He.ba (show ((fa.all fun f => f K) && fn.all fun d => d.ok K) = true from congrArg (fun z : He.AlD => z.1) c)).2
  have e : fn.map (fun d => He5.fnA K (d.at_ K)) = fn.map He5.DefA.val := congrArg (fun z : He.AlD => z.2) c
  have e2 : (fn.map fun d => He5.fnA K (d.at_ K))[i]? = (fn.map He5.DefA.val)[i]? := by rw [e]
  rw [List.getElem?_map, List.getElem?_map, h] at e2
  exact He5.DefA.funD (Option.some.inj e2) (List.all_eq_true.mp c2 d (List.mem_of_getElem? h))
end
/-! ### where an exception is handled -/
/-! ### texts -/
section
variable {K : PySem.W.Frag} {σ : L2.St} {H : Hp} {Q : VK} {ta tb tc te : TE} {x y v : V} {i j : Int} {n m : Nat} {p q : Addr} {xs ys : List V} {b c : Bool}
theorem w_m1 {r : V → List V → Hp → VK → Prop} (g : ta σ H fun x H1 => (∃ a, x = .str a) ∧ te σ H1 fun y H2 => r x [y] H2 Q) : tM1 r ta te σ H Q := g
theorem w_exS {P : Prop} {a : Str} (g : P) : (∃ b, V.str a = .str b) ∧ P := ⟨⟨a, rfl⟩, g⟩
theorem w_iS {R : It → Hp → Prop} (g : ta σ H fun v H1 => ∃ x, v = .str x ∧ R (Its x) H1) : iStr ta σ H R := g
end
end G
set_option Elab.async false
set_option linter.all false
set_option maxRecDepth 100000
set_option maxHeartbeats 4000000
namespace G
open PySem PySem.Spec PyProof.Rows L2
def top (i : Nat) : Stmt := PySem.Challenge.pw_latelink_k23_whole_once_gaps.main.body.getD i (.Pass ⟨0, 0, 0, 0⟩)
abbrev s__law_box : Stmt := top 47
abbrev s_Links_outs : Stmt := inClass (top 16) 10
abbrev s__law_start : Stmt := top 51
abbrev s__law_step : Stmt := top 53
abbrev s__law_after : Stmt := top 57
abbrev s__law_holders : Stmt := top 65
abbrev s__law_integer : Stmt := top 59
abbrev s__law_row : Stmt := top 60
abbrev s__law_states : Stmt := top 58
abbrev s_Links_is_out : Stmt := inClass (top 16) 9
abbrev s_Links_left : Stmt := inClass (top 16) 7
abbrev s_Links_right : Stmt := inClass (top 16) 8
abbrev s_check_gap : Stmt := top 39
abbrev s_gap_state : Stmt := top 35
abbrev s_gap_states : Stmt := top 36
abbrev s_lost_gaps : Stmt := top 37
abbrev s_check_repairable : Stmt := top 44
abbrev s_sole_holders : Stmt := top 38
abbrev s_due_nodes : Stmt := top 41
abbrev s_repair_cost : Stmt := top 43
abbrev s_debt_of : Stmt := top 42
abbrev s_check_size : Stmt := top 17
abbrev s_Links___init__ : Stmt := inClass (top 16) 1
abbrev s_Links_is_legal : Stmt := inClass (top 16) 11
abbrev s_check_operation : Stmt := top 18
abbrev s_Links_check : Stmt := inClass (top 16) 12
abbrev s_Links_apply_at : Stmt := inClass (top 16) 14
abbrev s_Links_apply : Stmt := inClass (top 16) 13
abbrev s_Links_copy : Stmt := inClass (top 16) 19
abbrev s_play : Stmt := top 28
abbrev s_replay : Stmt := top 27
abbrev s__check_once : Stmt := top 32
abbrev s__late_gaps : Stmt := top 33
abbrev s_late_writes : Stmt := top 30
abbrev s__law_calm : Stmt := top 66
abbrev s_Links___eq__ : Stmt := inClass (top 16) 5
abbrev s_Links_is_whole : Stmt := inClass (top 16) 18
abbrev s__law_texts : Stmt := top 61
abbrev s__law_is_pair : Stmt := top 62
abbrev s__law_told_gaps : Stmt := top 63
abbrev s_is_complete : Stmt := top 31
abbrev s__law_complete : Stmt := top 64
abbrev s__law_late : Stmt := top 52
abbrev s__law_first_late : Stmt := top 56
abbrev s__law_mixed : Stmt := top 46
abbrev s__law_take : Stmt := top 48
abbrev s__law_pattern : Stmt := top 54
abbrev s__law_range : Stmt := top 50
abbrev s__law_log : Stmt := top 55
abbrev s__law_size : Stmt := top 49
abbrev s_law : Stmt := top 67
abbrev s_BadGap___init__ : Stmt := inClass (top 8) 0
abbrev s_BadNode___init__ : Stmt := inClass (top 7) 0
abbrev s_BadSize___init__ : Stmt := inClass (top 6) 0
abbrev s_BadWeights___init__ : Stmt := inClass (top 10) 0
abbrev s_LogError___init__ : Stmt := inClass (top 3) 0
abbrev s_NotOnce___init__ : Stmt := inClass (top 12) 0
abbrev s_NotRepairable___init__ : Stmt := inClass (top 11) 0
theorem sc__law_box : FnScope ["script", "seed", "cell"] ["script"] (defScope s__law_box) := ⟨rfl, rfl, rfl, by decide +kernel, rfl, by decide +kernel, by decide +kernel⟩
theorem sc_Links_outs : FnScope ["self", "node"] ["self"] (defScope s_Links_outs) := ⟨rfl, rfl, rfl, by decide +kernel, rfl, by decide +kernel, by decide +kernel⟩
theorem sc__law_start : FnScope ["size", "v"] ["size"] (defScope s__law_start) := ⟨rfl, rfl, rfl, by decide +kernel, rfl, by decide +kernel, by decide +kernel⟩
theorem sc__law_step : FnScope ["book", "operation", "lefts", "rights", "stage", "node", "before", "behind"] ["book", "operation"] (defScope s__law_step) := ⟨rfl, rfl, rfl, by decide +kernel, rfl, by decide +kernel, by decide +kernel⟩
theorem sc__law_after : FnScope ["size", "log", "book", "operation"] ["size", "log"] (defScope s__law_after) := ⟨rfl, rfl, rfl, by decide +kernel, rfl, by decide +kernel, by decide +kernel⟩
theorem sc__law_holders : FnScope ["size", "states", "holders", "node"] ["size", "states"] (defScope s__law_holders) := ⟨rfl, rfl, rfl, by decide +kernel, rfl, by decide +kernel, by decide +kernel⟩
theorem sc__law_integer : FnScope ["told"] ["told"] (defScope s__law_integer) := ⟨rfl, rfl, rfl, by decide +kernel, rfl, by decide +kernel, by decide +kernel⟩
theorem sc__law_row : FnScope ["told", "due", "k"] ["told", "due"] (defScope s__law_row) := ⟨rfl, rfl, rfl, by decide +kernel, rfl, by decide +kernel, by decide +kernel⟩
theorem sc__law_states : FnScope ["size", "book", "states", "gap", "by_low", "by_high"] ["size", "book"] (defScope s__law_states) := ⟨rfl, rfl, rfl, by decide +kernel, rfl, by decide +kernel, by decide +kernel⟩
theorem sc_Links_is_out : FnScope ["self", "node"] ["self", "node"] (defScope s_Links_is_out) := ⟨rfl, rfl, rfl, by decide +kernel, rfl, by decide +kernel, by decide +kernel⟩
theorem sc_Links_left : FnScope ["self", "node"] ["self", "node"] (defScope s_Links_left) := ⟨rfl, rfl, rfl, by decide +kernel, rfl, by decide +kernel, by decide +kernel⟩
theorem sc_Links_right : FnScope ["self", "node"] ["self", "node"] (defScope s_Links_right) := ⟨rfl, rfl, rfl, by decide +kernel, rfl, by decide +kernel, by decide +kernel⟩
theorem sc_check_gap : FnScope ["size", "gap"] ["size", "gap"] (defScope s_check_gap) := ⟨rfl, rfl, rfl, by decide +kernel, rfl, by decide +kernel, by decide +kernel⟩
theorem sc_gap_state : FnScope ["links", "gap", "is_held_left", "is_held_right"] ["links", "gap"] (defScope s_gap_state) := ⟨rfl, rfl, rfl, by decide +kernel, rfl, by decide +kernel, by decide +kernel⟩
theorem sc_gap_states : FnScope ["links", "gap"] ["links"] (defScope s_gap_states) := ⟨rfl, rfl, rfl, by decide +kernel, rfl, by decide +kernel, by decide +kernel⟩
theorem sc_lost_gaps : FnScope ["links", "gap", "state"] ["links"] (defScope s_lost_gaps) := ⟨rfl, rfl, rfl, by decide +kernel, rfl, by decide +kernel, by decide +kernel⟩
theorem sc_check_repairable : FnScope ["links", "lost"] ["links"] (defScope s_check_repairable) := ⟨rfl, rfl, rfl, by decide +kernel, rfl, by decide +kernel, by decide +kernel⟩
theorem sc_sole_holders : FnScope ["links", "holders", "gap", "state"] ["links"] (defScope s_sole_holders) := ⟨rfl, rfl, rfl, by decide +kernel, rfl, by decide +kernel, by decide +kernel⟩
theorem sc_due_nodes : FnScope ["links"] ["links"] (defScope s_due_nodes) := ⟨rfl, rfl, rfl, by decide +kernel, rfl, by decide +kernel, by decide +kernel⟩
theorem sc_repair_cost : FnScope ["links", "weights", "weight", "node"] ["links", "weights"] (defScope s_repair_cost) := ⟨rfl, rfl, rfl, by decide +kernel, rfl, by decide +kernel, by decide +kernel⟩
theorem sc_debt_of : FnScope ["links"] ["links"] (defScope s_debt_of) := ⟨rfl, rfl, rfl, by decide +kernel, rfl, by decide +kernel, by decide +kernel⟩
theorem sc_check_size : FnScope ["size"] ["size"] (defScope s_check_size) := ⟨rfl, rfl, rfl, by decide +kernel, rfl, by decide +kernel, by decide +kernel⟩
theorem sc_Links___init__ : FnScope ["self", "size"] ["self", "size"] (defScope s_Links___init__) := ⟨rfl, rfl, rfl, by decide +kernel, rfl, by decide +kernel, by decide +kernel⟩
theorem sc_Links_is_legal : FnScope ["self", "operation"] ["self", "operation"] (defScope s_Links_is_legal) := ⟨rfl, rfl, rfl, by decide +kernel, rfl, by decide +kernel, by decide +kernel⟩
theorem sc_check_operation : FnScope ["size", "operation", "index"] ["size", "operation", "index"] (defScope s_check_operation) := ⟨rfl, rfl, rfl, by decide +kernel, rfl, by decide +kernel, by decide +kernel⟩
theorem sc_Links_check : FnScope ["self", "operation", "index"] ["self", "operation", "index"] (defScope s_Links_check) := ⟨rfl, rfl, rfl, by decide +kernel, rfl, by decide +kernel, by decide +kernel⟩
theorem sc_Links_apply_at : FnScope ["self", "operation", "index", "node", "low", "high", "is_unlink"] ["self", "operation", "index"] (defScope s_Links_apply_at) := ⟨rfl, rfl, rfl, by decide +kernel, rfl, by decide +kernel, by decide +kernel⟩
theorem sc_Links_apply : FnScope ["self", "operation"] ["self", "operation"] (defScope s_Links_apply) := ⟨rfl, rfl, rfl, by decide +kernel, rfl, by decide +kernel, by decide +kernel⟩
theorem sc_Links_copy : FnScope ["self", "twin"] ["self"] (defScope s_Links_copy) := ⟨rfl, rfl, rfl, by decide +kernel, rfl, by decide +kernel, by decide +kernel⟩
theorem sc_play : FnScope ["links", "log", "after", "index", "operation"] ["links", "log"] (defScope s_play) := ⟨rfl, rfl, rfl, by decide +kernel, rfl, by decide +kernel, by decide +kernel⟩
theorem sc_replay : FnScope ["size", "log"] ["size", "log"] (defScope s_replay) := ⟨rfl, rfl, rfl, by decide +kernel, rfl, by decide +kernel, by decide +kernel⟩
theorem sc__check_once : FnScope ["size", "log", "index", "operation"] ["size", "log"] (defScope s__check_once) := ⟨rfl, rfl, rfl, by decide +kernel, rfl, by decide +kernel, by decide +kernel⟩
theorem sc__late_gaps : FnScope ["links", "earlier", "operation", "node", "low", "high", "late"] ["links", "earlier", "operation"] (defScope s__late_gaps) := ⟨rfl, rfl, rfl, by decide +kernel, rfl, by decide +kernel, by decide +kernel⟩
theorem sc_late_writes : FnScope ["size", "log", "links", "found", "index", "operation", "gap"] ["size", "log"] (defScope s_late_writes) := ⟨rfl, rfl, rfl, by decide +kernel, rfl, by decide +kernel, by decide +kernel⟩
theorem sc__law_calm : FnScope ["size", "log", "book", "holders", "outs", "node", "told", "net", "owed", "x"] ["size", "log"] (defScope s__law_calm) := ⟨rfl, rfl, rfl, by decide +kernel, rfl, by decide +kernel, by decide +kernel⟩
theorem sc_Links___eq__ : FnScope ["self", "other"] ["self", "other"] (defScope s_Links___eq__) := ⟨rfl, rfl, rfl, by decide +kernel, rfl, by decide +kernel, by decide +kernel⟩
theorem sc_Links_is_whole : FnScope ["self"] ["self"] (defScope s_Links_is_whole) := ⟨rfl, rfl, rfl, by decide +kernel, rfl, by decide +kernel, by decide +kernel⟩
theorem sc__law_texts : FnScope ["told", "due", "k"] ["told", "due"] (defScope s__law_texts) := ⟨rfl, rfl, rfl, by decide +kernel, rfl, by decide +kernel, by decide +kernel⟩
theorem sc__law_is_pair : FnScope ["told", "many", "size"] ["told", "many", "size"] (defScope s__law_is_pair) := ⟨rfl, rfl, rfl, by decide +kernel, rfl, by decide +kernel, by decide +kernel⟩
theorem sc__law_told_gaps : FnScope ["told", "many", "size", "marked", "k"] ["told", "many", "size"] (defScope s__law_told_gaps) := ⟨rfl, rfl, rfl, by decide +kernel, rfl, by decide +kernel, by decide +kernel⟩
theorem sc_is_complete : FnScope ["size", "log"] ["size", "log"] (defScope s_is_complete) := ⟨rfl, rfl, rfl, by decide +kernel, rfl, by decide +kernel, by decide +kernel⟩
theorem sc__law_complete : FnScope ["size", "log", "states", "handed", "marked", "gap", "net"] ["size", "log"] (defScope s__law_complete) := ⟨rfl, rfl, rfl, by decide +kernel, rfl, by decide +kernel, by decide +kernel⟩
theorem sc__law_late : FnScope ["book", "node", "gaps", "before", "behind"] ["book", "node"] (defScope s__law_late) := ⟨rfl, rfl, rfl, by decide +kernel, rfl, by decide +kernel, by decide +kernel⟩
theorem sc__law_first_late : FnScope ["size", "log", "book", "k"] ["size", "log"] (defScope s__law_first_late) := ⟨rfl, rfl, rfl, by decide +kernel, rfl, by decide +kernel, by decide +kernel⟩
theorem sc__law_mixed : FnScope ["cell", "turn", "first", "second"] ["cell", "turn"] (defScope s__law_mixed) := ⟨rfl, rfl, rfl, by decide +kernel, rfl, by decide +kernel, by decide +kernel⟩
theorem sc__law_take : FnScope ["box", "many", "cells", "cell", "digit"] ["box", "many"] (defScope s__law_take) := ⟨rfl, rfl, rfl, by decide +kernel, rfl, by decide +kernel, by decide +kernel⟩
theorem sc__law_pattern : FnScope ["box", "low", "high", "one", "other"] ["box", "low", "high"] (defScope s__law_pattern) := ⟨rfl, rfl, rfl, by decide +kernel, rfl, by decide +kernel, by decide +kernel⟩
theorem sc__law_range : FnScope ["box", "size", "low"] ["box", "size"] (defScope s__law_range) := ⟨rfl, rfl, rfl, by decide +kernel, rfl, by decide +kernel, by decide +kernel⟩
theorem sc__law_log : FnScope ["box", "size", "ends", "many", "steps", "care", "slip", "pattern", "book", "log", "node", "k", "free", "late", "turn", "near", "x"] ["box", "size"] (defScope s__law_log) := ⟨rfl, rfl, rfl, by decide +kernel, rfl, by decide +kernel, by decide +kernel⟩
theorem sc__law_size : FnScope ["box", "way"] ["box"] (defScope s__law_size) := ⟨rfl, rfl, rfl, by decide +kernel, rfl, by decide +kernel, by decide +kernel⟩
theorem sc_law : FnScope ["script", "box", "size", "log", "clean", "cut"] ["script"] (defScope s_law) := ⟨rfl, rfl, rfl, by decide +kernel, rfl, by decide +kernel, by decide +kernel⟩
theorem sc_BadGap___init__ : FnScope ["self", "gap"] ["self", "gap"] (defScope s_BadGap___init__) := ⟨rfl, rfl, rfl, by decide +kernel, rfl, by decide +kernel, by decide +kernel⟩
theorem sc_BadNode___init__ : FnScope ["self", "node"] ["self", "node"] (defScope s_BadNode___init__) := ⟨rfl, rfl, rfl, by decide +kernel, rfl, by decide +kernel, by decide +kernel⟩
theorem sc_BadSize___init__ : FnScope ["self", "size"] ["self", "size"] (defScope s_BadSize___init__) := ⟨rfl, rfl, rfl, by decide +kernel, rfl, by decide +kernel, by decide +kernel⟩
theorem sc_BadWeights___init__ : FnScope ["self", "count"] ["self", "count"] (defScope s_BadWeights___init__) := ⟨rfl, rfl, rfl, by decide +kernel, rfl, by decide +kernel, by decide +kernel⟩
theorem sc_LogError___init__ : FnScope ["self", "operation", "index"] ["self", "operation", "index"] (defScope s_LogError___init__) := ⟨rfl, rfl, rfl, by decide +kernel, rfl, by decide +kernel, by decide +kernel⟩
theorem sc_NotOnce___init__ : FnScope ["self", "index"] ["self", "index"] (defScope s_NotOnce___init__) := ⟨rfl, rfl, rfl, by decide +kernel, rfl, by decide +kernel, by decide +kernel⟩
theorem sc_NotRepairable___init__ : FnScope ["self", "gap"] ["self", "gap"] (defScope s_NotRepairable___init__) := ⟨rfl, rfl, rfl, by decide +kernel, rfl, by decide +kernel, by decide +kernel⟩
def d__law_box : He5.DefA := ⟨fun K => He.fAd K ("_law_box", none), "_law_box", "_law_box", defArgs s__law_box, defBody s__law_box, defScope s__law_box, [], []⟩
def d_Links_outs : He5.DefA := ⟨fun K => He.fAd K ("Links", some "outs"), "outs", "Links.outs", defArgs s_Links_outs, defBody s_Links_outs, defScope s_Links_outs, [], []⟩
def d__law_start : He5.DefA := ⟨fun K => He.fAd K ("_law_start", none), "_law_start", "_law_start", defArgs s__law_start, defBody s__law_start, defScope s__law_start, [], []⟩
def d__law_step : He5.DefA := ⟨fun K => He.fAd K ("_law_step", none), "_law_step", "_law_step", defArgs s__law_step, defBody s__law_step, defScope s__law_step, [], []⟩
def d__law_after : He5.DefA := ⟨fun K => He.fAd K ("_law_after", none), "_law_after", "_law_after", defArgs s__law_after, defBody s__law_after, defScope s__law_after, [], []⟩
def d__law_holders : He5.DefA := ⟨fun K => He.fAd K ("_law_holders", none), "_law_holders", "_law_holders", defArgs s__law_holders, defBody s__law_holders, defScope s__law_holders, [], []⟩
def d__law_integer : He5.DefA := ⟨fun K => He.fAd K ("_law_integer", none), "_law_integer", "_law_integer", defArgs s__law_integer, defBody s__law_integer, defScope s__law_integer, [], []⟩
def d__law_row : He5.DefA := ⟨fun K => He.fAd K ("_law_row", none), "_law_row", "_law_row", defArgs s__law_row, defBody s__law_row, defScope s__law_row, [], []⟩
def d__law_states : He5.DefA := ⟨fun K => He.fAd K ("_law_states", none), "_law_states", "_law_states", defArgs s__law_states, defBody s__law_states, defScope s__law_states, [], []⟩
def d_Links_is_out : He5.DefA := ⟨fun K => He.fAd K ("Links", some "is_out"), "is_out", "Links.is_out", defArgs s_Links_is_out, defBody s_Links_is_out, defScope s_Links_is_out, [], []⟩
def d_Links_left : He5.DefA := ⟨fun K => He.fAd K ("Links", some "left"), "left", "Links.left", defArgs s_Links_left, defBody s_Links_left, defScope s_Links_left, [], []⟩
def d_Links_right : He5.DefA := ⟨fun K => He.fAd K ("Links", some "right"), "right", "Links.right", defArgs s_Links_right, defBody s_Links_right, defScope s_Links_right, [], []⟩
def d_check_gap : He5.DefA := ⟨fun K => He.fAd K ("check_gap", none), "check_gap", "check_gap", defArgs s_check_gap, defBody s_check_gap, defScope s_check_gap, [], []⟩
def d_gap_state : He5.DefA := ⟨fun K => He.fAd K ("gap_state", none), "gap_state", "gap_state", defArgs s_gap_state, defBody s_gap_state, defScope s_gap_state, [], []⟩
def d_gap_states : He5.DefA := ⟨fun K => He.fAd K ("gap_states", none), "gap_states", "gap_states", defArgs s_gap_states, defBody s_gap_states, defScope s_gap_states, [], []⟩
def d_lost_gaps : He5.DefA := ⟨fun K => He.fAd K ("lost_gaps", none), "lost_gaps", "lost_gaps", defArgs s_lost_gaps, defBody s_lost_gaps, defScope s_lost_gaps, [], []⟩
def d_check_repairable : He5.DefA := ⟨fun K => He.fAd K ("check_repairable", none), "check_repairable", "check_repairable", defArgs s_check_repairable, defBody s_check_repairable, defScope s_check_repairable, [], []⟩
def d_sole_holders : He5.DefA := ⟨fun K => He.fAd K ("sole_holders", none), "sole_holders", "sole_holders", defArgs s_sole_holders, defBody s_sole_holders, defScope s_sole_holders, [], []⟩
def d_due_nodes : He5.DefA := ⟨fun K => He.fAd K ("due_nodes", none), "due_nodes", "due_nodes", defArgs s_due_nodes, defBody s_due_nodes, defScope s_due_nodes, [], []⟩
def d_repair_cost : He5.DefA := ⟨fun K => He.fAd K ("repair_cost", none), "repair_cost", "repair_cost", defArgs s_repair_cost, defBody s_repair_cost, defScope s_repair_cost, [], []⟩
def d_debt_of : He5.DefA := ⟨fun K => He.fAd K ("debt_of", none), "debt_of", "debt_of", defArgs s_debt_of, defBody s_debt_of, defScope s_debt_of, [], []⟩
def d_check_size : He5.DefA := ⟨fun K => He.fAd K ("check_size", none), "check_size", "check_size", defArgs s_check_size, defBody s_check_size, defScope s_check_size, [], []⟩
def d_Links___init__ : He5.DefA := ⟨fun K => He.fAd K ("Links", some "__init__"), "__init__", "Links.__init__", defArgs s_Links___init__, defBody s_Links___init__, defScope s_Links___init__, [], []⟩
def d_Links_is_legal : He5.DefA := ⟨fun K => He.fAd K ("Links", some "is_legal"), "is_legal", "Links.is_legal", defArgs s_Links_is_legal, defBody s_Links_is_legal, defScope s_Links_is_legal, [], []⟩
def d_check_operation : He5.DefA := ⟨fun K => He.fAd K ("check_operation", none), "check_operation", "check_operation", defArgs s_check_operation, defBody s_check_operation, defScope s_check_operation, [], []⟩
def d_Links_check : He5.DefA := ⟨fun K => He.fAd K ("Links", some "check"), "check", "Links.check", defArgs s_Links_check, defBody s_Links_check, defScope s_Links_check, [], []⟩
def d_Links_apply_at : He5.DefA := ⟨fun K => He.fAd K ("Links", some "apply_at"), "apply_at", "Links.apply_at", defArgs s_Links_apply_at, defBody s_Links_apply_at, defScope s_Links_apply_at, [], []⟩
def d_Links_apply : He5.DefA := ⟨fun K => He.fAd K ("Links", some "apply"), "apply", "Links.apply", defArgs s_Links_apply, defBody s_Links_apply, defScope s_Links_apply, [], []⟩
def d_Links_copy : He5.DefA := ⟨fun K => He.fAd K ("Links", some "copy"), "copy", "Links.copy", defArgs s_Links_copy, defBody s_Links_copy, defScope s_Links_copy, [], []⟩
def d_play : He5.DefA := ⟨fun K => He.fAd K ("play", none), "play", "play", defArgs s_play, defBody s_play, defScope s_play, [], []⟩
def d_replay : He5.DefA := ⟨fun K => He.fAd K ("replay", none), "replay", "replay", defArgs s_replay, defBody s_replay, defScope s_replay, [], []⟩
def d__check_once : He5.DefA := ⟨fun K => He.fAd K ("_check_once", none), "_check_once", "_check_once", defArgs s__check_once, defBody s__check_once, defScope s__check_once, [], []⟩
def d__late_gaps : He5.DefA := ⟨fun K => He.fAd K ("_late_gaps", none), "_late_gaps", "_late_gaps", defArgs s__late_gaps, defBody s__late_gaps, defScope s__late_gaps, [], []⟩
def d_late_writes : He5.DefA := ⟨fun K => He.fAd K ("late_writes", none), "late_writes", "late_writes", defArgs s_late_writes, defBody s_late_writes, defScope s_late_writes, [], []⟩
def d__law_calm : He5.DefA := ⟨fun K => He.fAd K ("_law_calm", none), "_law_calm", "_law_calm", defArgs s__law_calm, defBody s__law_calm, defScope s__law_calm, [], []⟩
def d_Links___eq__ : He5.DefA := ⟨fun K => He.fAd K ("Links", some "__eq__"), "__eq__", "Links.__eq__", defArgs s_Links___eq__, defBody s_Links___eq__, defScope s_Links___eq__, [], []⟩
def d_Links_is_whole : He5.DefA := ⟨fun K => He.fAd K ("Links", some "is_whole"), "is_whole", "Links.is_whole", defArgs s_Links_is_whole, defBody s_Links_is_whole, defScope s_Links_is_whole, [], []⟩
def d__law_texts : He5.DefA := ⟨fun K => He.fAd K ("_law_texts", none), "_law_texts", "_law_texts", defArgs s__law_texts, defBody s__law_texts, defScope s__law_texts, [], []⟩
def d__law_is_pair : He5.DefA := ⟨fun K => He.fAd K ("_law_is_pair", none), "_law_is_pair", "_law_is_pair", defArgs s__law_is_pair, defBody s__law_is_pair, defScope s__law_is_pair, [], []⟩
def d__law_told_gaps : He5.DefA := ⟨fun K => He.fAd K ("_law_told_gaps", none), "_law_told_gaps", "_law_told_gaps", defArgs s__law_told_gaps, defBody s__law_told_gaps, defScope s__law_told_gaps, [], []⟩
def d_is_complete : He5.DefA := ⟨fun K => He.fAd K ("is_complete", none), "is_complete", "is_complete", defArgs s_is_complete, defBody s_is_complete, defScope s_is_complete, [], []⟩
def d__law_complete : He5.DefA := ⟨fun K => He.fAd K ("_law_complete", none), "_law_complete", "_law_complete", defArgs s__law_complete, defBody s__law_complete, defScope s__law_complete, [], []⟩
def d__law_late : He5.DefA := ⟨fun K => He.fAd K ("_law_late", none), "_law_late", "_law_late", defArgs s__law_late, defBody s__law_late, defScope s__law_late, [], []⟩
def d__law_first_late : He5.DefA := ⟨fun K => He.fAd K ("_law_first_late", none), "_law_first_late", "_law_first_late", defArgs s__law_first_late, defBody s__law_first_late, defScope s__law_first_late, [], []⟩
def d__law_mixed : He5.DefA := ⟨fun K => He.fAd K ("_law_mixed", none), "_law_mixed", "_law_mixed", defArgs s__law_mixed, defBody s__law_mixed, defScope s__law_mixed, [], []⟩
def d__law_take : He5.DefA := ⟨fun K => He.fAd K ("_law_take", none), "_law_take", "_law_take", defArgs s__law_take, defBody s__law_take, defScope s__law_take, [], []⟩
def d__law_pattern : He5.DefA := ⟨fun K => He.fAd K ("_law_pattern", none), "_law_pattern", "_law_pattern", defArgs s__law_pattern, defBody s__law_pattern, defScope s__law_pattern, [], []⟩
def d__law_range : He5.DefA := ⟨fun K => He.fAd K ("_law_range", none), "_law_range", "_law_range", defArgs s__law_range, defBody s__law_range, defScope s__law_range, [], []⟩
def d__law_log : He5.DefA := ⟨fun K => He.fAd K ("_law_log", none), "_law_log", "_law_log", defArgs s__law_log, defBody s__law_log, defScope s__law_log, [], []⟩
def d__law_size : He5.DefA := ⟨fun K => He.fAd K ("_law_size", none), "_law_size", "_law_size", defArgs s__law_size, defBody s__law_size, defScope s__law_size, [], []⟩
def d_law : He5.DefA := ⟨fun K => He.fAd K ("law", none), "law", "law", defArgs s_law, defBody s_law, defScope s_law, [], []⟩
def d_BadGap___init__ : He5.DefA := ⟨fun K => He.fAd K ("BadGap", some "__init__"), "__init__", "BadGap.__init__", defArgs s_BadGap___init__, defBody s_BadGap___init__, defScope s_BadGap___init__, [], []⟩
def d_BadNode___init__ : He5.DefA := ⟨fun K => He.fAd K ("BadNode", some "__init__"), "__init__", "BadNode.__init__", defArgs s_BadNode___init__, defBody s_BadNode___init__, defScope s_BadNode___init__, [], []⟩
def d_BadSize___init__ : He5.DefA := ⟨fun K => He.fAd K ("BadSize", some "__init__"), "__init__", "BadSize.__init__", defArgs s_BadSize___init__, defBody s_BadSize___init__, defScope s_BadSize___init__, [], []⟩
def d_BadWeights___init__ : He5.DefA := ⟨fun K => He.fAd K ("BadWeights", some "__init__"), "__init__", "BadWeights.__init__", defArgs s_BadWeights___init__, defBody s_BadWeights___init__, defScope s_BadWeights___init__, [], []⟩
def d_LogError___init__ : He5.DefA := ⟨fun K => He.fAd K ("LogError", some "__init__"), "__init__", "LogError.__init__", defArgs s_LogError___init__, defBody s_LogError___init__, defScope s_LogError___init__, [], []⟩
def d_NotOnce___init__ : He5.DefA := ⟨fun K => He.fAd K ("NotOnce", some "__init__"), "__init__", "NotOnce.__init__", defArgs s_NotOnce___init__, defBody s_NotOnce___init__, defScope s_NotOnce___init__, [], []⟩
def d_NotRepairable___init__ : He5.DefA := ⟨fun K => He.fAd K ("NotRepairable", some "__init__"), "__init__", "NotRepairable.__init__", defArgs s_NotRepairable___init__, defBody s_NotRepairable___init__, defScope s_NotRepairable___init__, [], []⟩
def fnL : List He5.DefA := [d__law_box, d_Links_outs, d__law_start, d__law_step, d__law_after, d__law_holders, d__law_integer, d__law_row, d__law_states, d_Links_is_out, d_Links_left, d_Links_right, d_check_gap, d_gap_state, d_gap_states, d_lost_gaps, d_check_repairable, d_sole_holders, d_due_nodes, d_repair_cost, d_debt_of, d_check_size, d_Links___init__, d_Links_is_legal, d_check_operation, d_Links_check, d_Links_apply_at, d_Links_apply, d_Links_copy, d_play, d_replay, d__check_once, d__late_gaps, d_late_writes, d__law_calm, d_Links___eq__, d_Links_is_whole, d__law_texts, d__law_is_pair, d__law_told_gaps, d_is_complete, d__law_complete, d__law_late, d__law_first_late, d__law_mixed, d__law_take, d__law_pattern, d__law_range, d__law_log, d__law_size, d_law, d_BadGap___init__, d_BadNode___init__, d_BadSize___init__, d_BadWeights___init__, d_LogError___init__, d_NotOnce___init__, d_NotRepairable___init__]
def chkL : List Chk := [fa_ (.glo "LinkError"),
  fa_ (.glo "LogError"),
  fa_ (.glo "BadOperation"),
  fa_ (.glo "Illegal"),
  fa_ (.glo "BadSize"),
  fa_ (.glo "BadNode"),
  fa_ (.glo "BadGap"),
  fa_ (.glo "BadDump"),
  fa_ (.glo "BadWeights"),
  fa_ (.glo "NotRepairable"),
  fa_ (.glo "NotOnce"),
  fa_ (.glo "Links"),
  fa_ (.glo "_law_box"),
  fa_ (.glo "_law_start"),
  fa_ (.glo "_law_step"),
  fa_ (.glo "_law_after"),
  fa_ (.glo "_law_holders"),
  fa_ (.glo "_law_integer"),
  fa_ (.glo "_law_row"),
  fa_ (.glo "_law_states"),
  fa_ (.glo "check_gap"),
  fa_ (.glo "gap_state"),
  fa_ (.glo "gap_states"),
  fa_ (.glo "lost_gaps"),
  fa_ (.glo "check_repairable"),
  fa_ (.glo "sole_holders"),
  fa_ (.glo "due_nodes"),
  fa_ (.glo "repair_cost"),
  fa_ (.glo "debt_of"),
  fa_ (.glo "check_size"),
  fa_ (.glo "check_operation"),
  fa_ (.glo "play"),
  fa_ (.glo "replay"),
  fa_ (.glo "_check_once"),
  fa_ (.glo "_late_gaps"),
  fa_ (.glo "late_writes"),
  fa_ (.glo "_law_calm"),
  fa_ (.glo "_law_texts"),
  fa_ (.glo "_law_is_pair"),
  fa_ (.glo "_law_told_gaps"),
  fa_ (.glo "is_complete"),
  fa_ (.glo "_law_complete"),
  fa_ (.glo "_law_late"),
  fa_ (.glo "_law_first_late"),
  fa_ (.glo "_law_mixed"),
  fa_ (.glo "_law_take"),
  fa_ (.glo "_law_pattern"),
  fa_ (.glo "_law_range"),
  fa_ (.glo "_law_log"),
  fa_ (.glo "_law_size"),
  fa_ (.glo "law"),
  fa_ (.free "ValueError"),
  fa_ (.free "abs"),
  fa_ (.free "any"),
  fa_ (.free "bool"),
  fa_ (.free "enumerate"),
  fa_ (.free "int"),
  fa_ (.free "isinstance"),
  fa_ (.free "len"),
  fa_ (.free "list"),
  fa_ (.free "max"),
  fa_ (.free "min"),
  fa_ (.free "range"),
  fa_ (.free "set"),
  fa_ (.free "sorted"),
  fa_ (.free "str"),
  fa_ (.free "sum"),
  fa_ (.free "tuple"),
  fa_ (.str "DIGITS" "0123456789"),
  fa_ (.int "MOST_DIGITS" 9),
  ccB "Links" "MOST" 60,
  fa_ (.cls "Links"),
  tyB "Links",
  fa_ (.noat "Links" "_lefts"),
  fa_ (.noat "Links" "_out"),
  fa_ (.noat "Links" "_rights"),
  fa_ (.noat "Links" "size"),
  fa_ (.meth "Links" "outs"),
  fa_ (.meth "Links" "is_out"),
  fa_ (.meth "Links" "left"),
  fa_ (.meth "Links" "right"),
  fa_ (.mkr "Links"),
  fa_ (.meth "Links" "is_legal"),
  fa_ (.meth "Links" "check"),
  fa_ (.meth "Links" "apply_at"),
  fa_ (.meth "Links" "apply"),
  fa_ (.meth "Links" "copy"),
  fa_ (.meth "Links" "__eq__"),
  fa_ (.meth "Links" "is_whole"),
  askB "BadDump",
  askB "BadGap",
  askB "BadNode",
  askB "BadOperation",
  askB "BadSize",
  askB "BadWeights",
  askB "Illegal",
  askB "LinkError",
  askB "LogError",
  askB "NotOnce",
  askB "NotRepairable",
  excB "BadGap" ["gap"],
  iniB "BadGap",
  excB "BadNode" ["node"],
  iniB "BadNode",
  excB "BadOperation" ["operation", "index"],
  iniB "BadOperation",
  (fun K => decide (He.ma K (He.ga K "BadOperation") "__init__" = He.ma K (He.ga K "LogError") "__init__")),
  excB "BadSize" ["size"],
  iniB "BadSize",
  excB "BadWeights" ["count"],
  iniB "BadWeights",
  excB "Illegal" ["operation", "index"],
  iniB "Illegal",
  (fun K => decide (He.ma K (He.ga K "Illegal") "__init__" = He.ma K (He.ga K "LogError") "__init__")),
  excB "NotOnce" ["index"],
  iniB "NotOnce",
  excB "NotRepairable" ["gap"],
  iniB "NotRepairable"]
abbrev R : PySem.W.OpenRow := PySem.W.OpenLaw.row PySem.Challenge.rw_latelink_k23_whole_once_gaps
abbrev hk : PySem.W.Hook := hookY 6 chkL fnL
def ob (s : PySem.W.SharedT) : He.AlD := obsYG 6 chkL fnL (HandSHeadRun.getT s)
theorem ob_eq (s : PySem.W.SharedT) : ob s = hk.obs s.abs := obsYG_eq (HandSHeadRun.getT_eq s)
def loose0 : List Str := ["_wall", "__name__", "LinkError", "LogError", "BadOperation", "Illegal", "BadSize", "BadNode", "BadGap", "BadDump", "BadWeights", "NotRepairable", "NotOnce", "DIGITS", "MOST_DIGITS", "Links", "check_size", "check_operation", "is_positive", "dump_of"]
def loose1 : List Str := ["_joined", "_read_numbers", "_read_rights", "_read_lefts", "_read_outs", "replay", "play", "late_writes", "is_complete", "_check_once", "_late_gaps", "gap_state", "gap_states", "lost_gaps", "sole_holders", "check_gap", "due_nodes", "debt_of", "repair_cost", "check_repairable"]
def loose2 : List Str := ["_law_mixed", "_law_box", "_law_take", "_law_size", "_law_range", "_law_start", "_law_late", "_law_step", "_law_pattern", "_law_log", "_law_first_late", "_law_after", "_law_states", "_law_integer", "_law_row", "_law_texts", "_law_is_pair", "_law_told_gaps", "_law_complete", "_law_holders"]
def loose3 : List Str := ["_law_calm"]
def loose : List Str := loose0 ++ loose1 ++ loose2 ++ loose3
set_option maxHeartbeats 0 in
theorem run (w : World) : HandSHeadRun.RunEq R (PySem.W.view R.prog [67]) hk ob 8000 loose w := by
  intro os
  kernel_rfl
/-- what the top has written -/
structure Txt (K : PySem.W.Frag) (mg : Str → Option Value) : Prop where
  g_LinkError : mg "LinkError" = some (.ref (He.ga K "LinkError"))
  g_LogError : mg "LogError" = some (.ref (He.ga K "LogError"))
  g_BadOperation : mg "BadOperation" = some (.ref (He.ga K "BadOperation"))
  g_Illegal : mg "Illegal" = some (.ref (He.ga K "Illegal"))
  g_BadSize : mg "BadSize" = some (.ref (He.ga K "BadSize"))
  g_BadNode : mg "BadNode" = some (.ref (He.ga K "BadNode"))
  g_BadGap : mg "BadGap" = some (.ref (He.ga K "BadGap"))
  g_BadDump : mg "BadDump" = some (.ref (He.ga K "BadDump"))
  g_BadWeights : mg "BadWeights" = some (.ref (He.ga K "BadWeights"))
  g_NotRepairable : mg "NotRepairable" = some (.ref (He.ga K "NotRepairable"))
  g_NotOnce : mg "NotOnce" = some (.ref (He.ga K "NotOnce"))
  g_Links : mg "Links" = some (.ref (He.ga K "Links"))
  gf__law_box : mg "_law_box" = some (.ref (He.ga K "_law_box"))
  gf__law_start : mg "_law_start" = some (.ref (He.ga K "_law_start"))
  gf__law_step : mg "_law_step" = some (.ref (He.ga K "_law_step"))
  gf__law_after : mg "_law_after" = some (.ref (He.ga K "_law_after"))
  gf__law_holders : mg "_law_holders" = some (.ref (He.ga K "_law_holders"))
  gf__law_integer : mg "_law_integer" = some (.ref (He.ga K "_law_integer"))
  gf__law_row : mg "_law_row" = some (.ref (He.ga K "_law_row"))
  gf__law_states : mg "_law_states" = some (.ref (He.ga K "_law_states"))
  gf_check_gap : mg "check_gap" = some (.ref (He.ga K "check_gap"))
  gf_gap_state : mg "gap_state" = some (.ref (He.ga K "gap_state"))
  gf_gap_states : mg "gap_states" = some (.ref (He.ga K "gap_states"))
  gf_lost_gaps : mg "lost_gaps" = some (.ref (He.ga K "lost_gaps"))
  gf_check_repairable : mg "check_repairable" = some (.ref (He.ga K "check_repairable"))
  gf_sole_holders : mg "sole_holders" = some (.ref (He.ga K "sole_holders"))
  gf_due_nodes : mg "due_nodes" = some (.ref (He.ga K "due_nodes"))
  gf_repair_cost : mg "repair_cost" = some (.ref (He.ga K "repair_cost"))
  gf_debt_of : mg "debt_of" = some (.ref (He.ga K "debt_of"))
  gf_check_size : mg "check_size" = some (.ref (He.ga K "check_size"))
  gf_check_operation : mg "check_operation" = some (.ref (He.ga K "check_operation"))
  gf_play : mg "play" = some (.ref (He.ga K "play"))
  gf_replay : mg "replay" = some (.ref (He.ga K "replay"))
  gf__check_once : mg "_check_once" = some (.ref (He.ga K "_check_once"))
  gf__late_gaps : mg "_late_gaps" = some (.ref (He.ga K "_late_gaps"))
  gf_late_writes : mg "late_writes" = some (.ref (He.ga K "late_writes"))
  gf__law_calm : mg "_law_calm" = some (.ref (He.ga K "_law_calm"))
  gf__law_texts : mg "_law_texts" = some (.ref (He.ga K "_law_texts"))
  gf__law_is_pair : mg "_law_is_pair" = some (.ref (He.ga K "_law_is_pair"))
  gf__law_told_gaps : mg "_law_told_gaps" = some (.ref (He.ga K "_law_told_gaps"))
  gf_is_complete : mg "is_complete" = some (.ref (He.ga K "is_complete"))
  gf__law_complete : mg "_law_complete" = some (.ref (He.ga K "_law_complete"))
  gf__law_late : mg "_law_late" = some (.ref (He.ga K "_law_late"))
  gf__law_first_late : mg "_law_first_late" = some (.ref (He.ga K "_law_first_late"))
  gf__law_mixed : mg "_law_mixed" = some (.ref (He.ga K "_law_mixed"))
  gf__law_take : mg "_law_take" = some (.ref (He.ga K "_law_take"))
  gf__law_pattern : mg "_law_pattern" = some (.ref (He.ga K "_law_pattern"))
  gf__law_range : mg "_law_range" = some (.ref (He.ga K "_law_range"))
  gf__law_log : mg "_law_log" = some (.ref (He.ga K "_law_log"))
  gf__law_size : mg "_law_size" = some (.ref (He.ga K "_law_size"))
  gf_law : mg "law" = some (.ref (He.ga K "law"))
  b_ValueError : mg "ValueError" = none
  b_abs : mg "abs" = none
  b_any : mg "any" = none
  b_bool : mg "bool" = none
  b_enumerate : mg "enumerate" = none
  b_int : mg "int" = none
  b_isinstance : mg "isinstance" = none
  b_len : mg "len" = none
  b_list : mg "list" = none
  b_max : mg "max" = none
  b_min : mg "min" = none
  b_range : mg "range" = none
  b_set : mg "set" = none
  b_sorted : mg "sorted" = none
  b_str : mg "str" = none
  b_sum : mg "sum" = none
  b_tuple : mg "tuple" = none
  k_DIGITS : ∃ t, mg "DIGITS" = some (.str "0123456789" t)
  k_MOST_DIGITS : ∃ t, mg "MOST_DIGITS" = some (.int 9 t)
  cc_Links_MOST : ∃ mc u, ClX.CRead K (He.ga K "Links") mc ∧ ClX.CVal K (He.ga K "Links") mc "MOST" (.int 60) u
  cl_Links : Cls K (He.ga K "Links")
  ty_Links : PySem.W.findIn K (.ref (He.ga K "Links")) "__class__" = some (some (.builtin "object.__class__")) ∧ PySem.W.mroIn K (He.ga K "Links") (.type "object") = some true
  na_Links__lefts : NoAttr K (He.ga K "Links") "_lefts"
  na_Links__out : NoAttr K (He.ga K "Links") "_out"
  na_Links__rights : NoAttr K (He.ga K "Links") "_rights"
  na_Links_size : NoAttr K (He.ga K "Links") "size"
  me_Links_outs : Meth K (He.ga K "Links") "outs" (He.ma K (He.ga K "Links") "outs")
  me_Links_is_out : Meth K (He.ga K "Links") "is_out" (He.ma K (He.ga K "Links") "is_out")
  me_Links_left : Meth K (He.ga K "Links") "left" (He.ma K (He.ga K "Links") "left")
  me_Links_right : Meth K (He.ga K "Links") "right" (He.ma K (He.ga K "Links") "right")
  mk_Links : Mk K (He.ga K "Links") (He.ma K (He.ga K "Links") "__init__")
  me_Links_is_legal : Meth K (He.ga K "Links") "is_legal" (He.ma K (He.ga K "Links") "is_legal")
  me_Links_check : Meth K (He.ga K "Links") "check" (He.ma K (He.ga K "Links") "check")
  me_Links_apply_at : Meth K (He.ga K "Links") "apply_at" (He.ma K (He.ga K "Links") "apply_at")
  me_Links_apply : Meth K (He.ga K "Links") "apply" (He.ma K (He.ga K "Links") "apply")
  me_Links_copy : Meth K (He.ga K "Links") "copy" (He.ma K (He.ga K "Links") "copy")
  me_Links___eq__ : Meth K (He.ga K "Links") "__eq__" (He.ma K (He.ga K "Links") "__eq__")
  me_Links_is_whole : Meth K (He.ga K "Links") "is_whole" (He.ma K (He.ga K "Links") "is_whole")
  ex_BadDump : ExK K (He.ga K "BadDump")
  ex_BadGap : ExK K (He.ga K "BadGap")
  ex_BadNode : ExK K (He.ga K "BadNode")
  ex_BadOperation : ExK K (He.ga K "BadOperation")
  ex_BadSize : ExK K (He.ga K "BadSize")
  ex_BadWeights : ExK K (He.ga K "BadWeights")
  ex_Illegal : ExK K (He.ga K "Illegal")
  ex_LinkError : ExK K (He.ga K "LinkError")
  ex_LogError : ExK K (He.ga K "LogError")
  ex_NotOnce : ExK K (He.ga K "NotOnce")
  ex_NotRepairable : ExK K (He.ga K "NotRepairable")
  oe_BadGap : OexC K (He.ga K "BadGap") ∧ ∀ f ∈ (["gap"] : List Str), PySem.W.findIn K (.ref (He.ga K "BadGap")) f = some none
  in_BadGap : PySem.W.findIn K (.ref (He.ga K "BadGap")) "__init__" = some (some (.ref (He.ma K (He.ga K "BadGap") "__init__"))) ∧ PySem.W.typeIn K (.ref (He.ma K (He.ga K "BadGap") "__init__")) = some (.type "function")
  oe_BadNode : OexC K (He.ga K "BadNode") ∧ ∀ f ∈ (["node"] : List Str), PySem.W.findIn K (.ref (He.ga K "BadNode")) f = some none
  in_BadNode : PySem.W.findIn K (.ref (He.ga K "BadNode")) "__init__" = some (some (.ref (He.ma K (He.ga K "BadNode") "__init__"))) ∧ PySem.W.typeIn K (.ref (He.ma K (He.ga K "BadNode") "__init__")) = some (.type "function")
  oe_BadOperation : OexC K (He.ga K "BadOperation") ∧ ∀ f ∈ (["operation", "index"] : List Str), PySem.W.findIn K (.ref (He.ga K "BadOperation")) f = some none
  in_BadOperation : PySem.W.findIn K (.ref (He.ga K "BadOperation")) "__init__" = some (some (.ref (He.ma K (He.ga K "BadOperation") "__init__"))) ∧ PySem.W.typeIn K (.ref (He.ma K (He.ga K "BadOperation") "__init__")) = some (.type "function")
  sm_BadOperation : He.ma K (He.ga K "BadOperation") "__init__" = He.ma K (He.ga K "LogError") "__init__"
  oe_BadSize : OexC K (He.ga K "BadSize") ∧ ∀ f ∈ (["size"] : List Str), PySem.W.findIn K (.ref (He.ga K "BadSize")) f = some none
  in_BadSize : PySem.W.findIn K (.ref (He.ga K "BadSize")) "__init__" = some (some (.ref (He.ma K (He.ga K "BadSize") "__init__"))) ∧ PySem.W.typeIn K (.ref (He.ma K (He.ga K "BadSize") "__init__")) = some (.type "function")
  oe_BadWeights : OexC K (He.ga K "BadWeights") ∧ ∀ f ∈ (["count"] : List Str), PySem.W.findIn K (.ref (He.ga K "BadWeights")) f = some none
  in_BadWeights : PySem.W.findIn K (.ref (He.ga K "BadWeights")) "__init__" = some (some (.ref (He.ma K (He.ga K "BadWeights") "__init__"))) ∧ PySem.W.typeIn K (.ref (He.ma K (He.ga K "BadWeights") "__init__")) = some (.type "function")
  oe_Illegal : OexC K (He.ga K "Illegal") ∧ ∀ f ∈ (["operation", "index"] : List Str), PySem.W.findIn K (.ref (He.ga K "Illegal")) f = some none
  in_Illegal : PySem.W.findIn K (.ref (He.ga K "Illegal")) "__init__" = some (some (.ref (He.ma K (He.ga K "Illegal") "__init__"))) ∧ PySem.W.typeIn K (.ref (He.ma K (He.ga K "Illegal") "__init__")) = some (.type "function")
  sm_Illegal : He.ma K (He.ga K "Illegal") "__init__" = He.ma K (He.ga K "LogError") "__init__"
  oe_NotOnce : OexC K (He.ga K "NotOnce") ∧ ∀ f ∈ (["index"] : List Str), PySem.W.findIn K (.ref (He.ga K "NotOnce")) f = some none
  in_NotOnce : PySem.W.findIn K (.ref (He.ga K "NotOnce")) "__init__" = some (some (.ref (He.ma K (He.ga K "NotOnce") "__init__"))) ∧ PySem.W.typeIn K (.ref (He.ma K (He.ga K "NotOnce") "__init__")) = some (.type "function")
  oe_NotRepairable : OexC K (He.ga K "NotRepairable") ∧ ∀ f ∈ (["gap"] : List Str), PySem.W.findIn K (.ref (He.ga K "NotRepairable")) f = some none
  in_NotRepairable : PySem.W.findIn K (.ref (He.ga K "NotRepairable")) "__init__" = some (some (.ref (He.ma K (He.ga K "NotRepairable") "__init__"))) ∧ PySem.W.typeIn K (.ref (He.ma K (He.ga K "NotRepairable") "__init__")) = some (.type "function")
theorem txt_of {K : PySem.W.Frag} {h : Heap} {mg : Str → Option Value} (X : K.In h) (G : h.Ns mainGlobals mg) (c : SaysY chkL fnL K) : Txt K mg where
  g_LinkError := He.glo_ok X G (c.fact 0 (f := fa_ (.glo "LinkError")) rfl)
  g_LogError := He.glo_ok X G (c.fact 1 (f := fa_ (.glo "LogError")) rfl)
  g_BadOperation := He.glo_ok X G (c.fact 2 (f := fa_ (.glo "BadOperation")) rfl)
  g_Illegal := He.glo_ok X G (c.fact 3 (f := fa_ (.glo "Illegal")) rfl)
  g_BadSize := He.glo_ok X G (c.fact 4 (f := fa_ (.glo "BadSize")) rfl)
  g_BadNode := He.glo_ok X G (c.fact 5 (f := fa_ (.glo "BadNode")) rfl)
  g_BadGap := He.glo_ok X G (c.fact 6 (f := fa_ (.glo "BadGap")) rfl)
  g_BadDump := He.glo_ok X G (c.fact 7 (f := fa_ (.glo "BadDump")) rfl)
  g_BadWeights := He.glo_ok X G (c.fact 8 (f := fa_ (.glo "BadWeights")) rfl)
  g_NotRepairable := He.glo_ok X G (c.fact 9 (f := fa_ (.glo "NotRepairable")) rfl)
  g_NotOnce := He.glo_ok X G (c.fact 10 (f := fa_ (.glo "NotOnce")) rfl)
  g_Links := He.glo_ok X G (c.fact 11 (f := fa_ (.glo "Links")) rfl)
  gf__law_box := He.glo_ok X G (c.fact 12 (f := fa_ (.glo "_law_box")) rfl)
  gf__law_start := He.glo_ok X G (c.fact 13 (f := fa_ (.glo "_law_start")) rfl)
  gf__law_step := He.glo_ok X G (c.fact 14 (f := fa_ (.glo "_law_step")) rfl)
  gf__law_after := He.glo_ok X G (c.fact 15 (f := fa_ (.glo "_law_after")) rfl)
  gf__law_holders := He.glo_ok X G (c.fact 16 (f := fa_ (.glo "_law_holders")) rfl)
  gf__law_integer := He.glo_ok X G (c.fact 17 (f := fa_ (.glo "_law_integer")) rfl)
  gf__law_row := He.glo_ok X G (c.fact 18 (f := fa_ (.glo "_law_row")) rfl)
  gf__law_states := He.glo_ok X G (c.fact 19 (f := fa_ (.glo "_law_states")) rfl)
  gf_check_gap := He.glo_ok X G (c.fact 20 (f := fa_ (.glo "check_gap")) rfl)
  gf_gap_state := He.glo_ok X G (c.fact 21 (f := fa_ (.glo "gap_state")) rfl)
  gf_gap_states := He.glo_ok X G (c.fact 22 (f := fa_ (.glo "gap_states")) rfl)
  gf_lost_gaps := He.glo_ok X G (c.fact 23 (f := fa_ (.glo "lost_gaps")) rfl)
  gf_check_repairable := He.glo_ok X G (c.fact 24 (f := fa_ (.glo "check_repairable")) rfl)
  gf_sole_holders := He.glo_ok X G (c.fact 25 (f := fa_ (.glo "sole_holders")) rfl)
  gf_due_nodes := He.glo_ok X G (c.fact 26 (f := fa_ (.glo "due_nodes")) rfl)
  gf_repair_cost := He.glo_ok X G (c.fact 27 (f := fa_ (.glo "repair_cost")) rfl)
  gf_debt_of := He.glo_ok X G (c.fact 28 (f := fa_ (.glo "debt_of")) rfl)
  gf_check_size := He.glo_ok X G (c.fact 29 (f := fa_ (.glo "check_size")) rfl)
  gf_check_operation := He.glo_ok X G (c.fact 30 (f := fa_ (.glo "check_operation")) rfl)
  gf_play := He.glo_ok X G (c.fact 31 (f := fa_ (.glo "play")) rfl)
  gf_replay := He.glo_ok X G (c.fact 32 (f := fa_ (.glo "replay")) rfl)
  gf__check_once := He.glo_ok X G (c.fact 33 (f := fa_ (.glo "_check_once")) rfl)
  gf__late_gaps := He.glo_ok X G (c.fact 34 (f := fa_ (.glo "_late_gaps")) rfl)
  gf_late_writes := He.glo_ok X G (c.fact 35 (f := fa_ (.glo "late_writes")) rfl)
  gf__law_calm := He.glo_ok X G (c.fact 36 (f := fa_ (.glo "_law_calm")) rfl)
  gf__law_texts := He.glo_ok X G (c.fact 37 (f := fa_ (.glo "_law_texts")) rfl)
  gf__law_is_pair := He.glo_ok X G (c.fact 38 (f := fa_ (.glo "_law_is_pair")) rfl)
  gf__law_told_gaps := He.glo_ok X G (c.fact 39 (f := fa_ (.glo "_law_told_gaps")) rfl)
  gf_is_complete := He.glo_ok X G (c.fact 40 (f := fa_ (.glo "is_complete")) rfl)
  gf__law_complete := He.glo_ok X G (c.fact 41 (f := fa_ (.glo "_law_complete")) rfl)
  gf__law_late := He.glo_ok X G (c.fact 42 (f := fa_ (.glo "_law_late")) rfl)
  gf__law_first_late := He.glo_ok X G (c.fact 43 (f := fa_ (.glo "_law_first_late")) rfl)
  gf__law_mixed := He.glo_ok X G (c.fact 44 (f := fa_ (.glo "_law_mixed")) rfl)
  gf__law_take := He.glo_ok X G (c.fact 45 (f := fa_ (.glo "_law_take")) rfl)
  gf__law_pattern := He.glo_ok X G (c.fact 46 (f := fa_ (.glo "_law_pattern")) rfl)
  gf__law_range := He.glo_ok X G (c.fact 47 (f := fa_ (.glo "_law_range")) rfl)
  gf__law_log := He.glo_ok X G (c.fact 48 (f := fa_ (.glo "_law_log")) rfl)
  gf__law_size := He.glo_ok X G (c.fact 49 (f := fa_ (.glo "_law_size")) rfl)
  gf_law := He.glo_ok X G (c.fact 50 (f := fa_ (.glo "law")) rfl)
  b_ValueError := He.free_ok X G (c.fact 51 (f := fa_ (.free "ValueError")) rfl)
  b_abs := He.free_ok X G (c.fact 52 (f := fa_ (.free "abs")) rfl)
  b_any := He.free_ok X G (c.fact 53 (f := fa_ (.free "any")) rfl)
  b_bool := He.free_ok X G (c.fact 54 (f := fa_ (.free "bool")) rfl)
  b_enumerate := He.free_ok X G (c.fact 55 (f := fa_ (.free "enumerate")) rfl)
  b_int := He.free_ok X G (c.fact 56 (f := fa_ (.free "int")) rfl)
  b_isinstance := He.free_ok X G (c.fact 57 (f := fa_ (.free "isinstance")) rfl)
  b_len := He.free_ok X G (c.fact 58 (f := fa_ (.free "len")) rfl)
  b_list := He.free_ok X G (c.fact 59 (f := fa_ (.free "list")) rfl)
  b_max := He.free_ok X G (c.fact 60 (f := fa_ (.free "max")) rfl)
  b_min := He.free_ok X G (c.fact 61 (f := fa_ (.free "min")) rfl)
  b_range := He.free_ok X G (c.fact 62 (f := fa_ (.free "range")) rfl)
  b_set := He.free_ok X G (c.fact 63 (f := fa_ (.free "set")) rfl)
  b_sorted := He.free_ok X G (c.fact 64 (f := fa_ (.free "sorted")) rfl)
  b_str := He.free_ok X G (c.fact 65 (f := fa_ (.free "str")) rfl)
  b_sum := He.free_ok X G (c.fact 66 (f := fa_ (.free "sum")) rfl)
  b_tuple := He.free_ok X G (c.fact 67 (f := fa_ (.free "tuple")) rfl)
  k_DIGITS := He.str_ok X G (c.fact 68 (f := fa_ (.str "DIGITS" "0123456789")) rfl)
  k_MOST_DIGITS := He.int_ok X G (c.fact 69 (f := fa_ (.int "MOST_DIGITS" 9)) rfl)
  cc_Links_MOST := ccB_ok (c.fact 70 (f := ccB "Links" "MOST" 60) rfl)
  cl_Links := He.cls_ok (c.fact 71 (f := fa_ (.cls "Links")) rfl)
  ty_Links := tyB_ok (c.fact 72 (f := tyB "Links") rfl)
  na_Links__lefts := He.noat_ok (c.fact 73 (f := fa_ (.noat "Links" "_lefts")) rfl)
  na_Links__out := He.noat_ok (c.fact 74 (f := fa_ (.noat "Links" "_out")) rfl)
  na_Links__rights := He.noat_ok (c.fact 75 (f := fa_ (.noat "Links" "_rights")) rfl)
  na_Links_size := He.noat_ok (c.fact 76 (f := fa_ (.noat "Links" "size")) rfl)
  me_Links_outs := He.meth_ok (c.fact 77 (f := fa_ (.meth "Links" "outs")) rfl)
  me_Links_is_out := He.meth_ok (c.fact 78 (f := fa_ (.meth "Links" "is_out")) rfl)
  me_Links_left := He.meth_ok (c.fact 79 (f := fa_ (.meth "Links" "left")) rfl)
  me_Links_right := He.meth_ok (c.fact 80 (f := fa_ (.meth "Links" "right")) rfl)
  mk_Links := He.mkr_ok (c.fact 81 (f := fa_ (.mkr "Links")) rfl)
  me_Links_is_legal := He.meth_ok (c.fact 82 (f := fa_ (.meth "Links" "is_legal")) rfl)
  me_Links_check := He.meth_ok (c.fact 83 (f := fa_ (.meth "Links" "check")) rfl)
  me_Links_apply_at := He.meth_ok (c.fact 84 (f := fa_ (.meth "Links" "apply_at")) rfl)
  me_Links_apply := He.meth_ok (c.fact 85 (f := fa_ (.meth "Links" "apply")) rfl)
  me_Links_copy := He.meth_ok (c.fact 86 (f := fa_ (.meth "Links" "copy")) rfl)
  me_Links___eq__ := He.meth_ok (c.fact 87 (f := fa_ (.meth "Links" "__eq__")) rfl)
  me_Links_is_whole := He.meth_ok (c.fact 88 (f := fa_ (.meth "Links" "is_whole")) rfl)
  ex_BadDump := askB_ok (c.fact 89 (f := askB "BadDump") rfl)
  ex_BadGap := askB_ok (c.fact 90 (f := askB "BadGap") rfl)
  ex_BadNode := askB_ok (c.fact 91 (f := askB "BadNode") rfl)
  ex_BadOperation := askB_ok (c.fact 92 (f := askB "BadOperation") rfl)
  ex_BadSize := askB_ok (c.fact 93 (f := askB "BadSize") rfl)
  ex_BadWeights := askB_ok (c.fact 94 (f := askB "BadWeights") rfl)
  ex_Illegal := askB_ok (c.fact 95 (f := askB "Illegal") rfl)
  ex_LinkError := askB_ok (c.fact 96 (f := askB "LinkError") rfl)
  ex_LogError := askB_ok (c.fact 97 (f := askB "LogError") rfl)
  ex_NotOnce := askB_ok (c.fact 98 (f := askB "NotOnce") rfl)
  ex_NotRepairable := askB_ok (c.fact 99 (f := askB "NotRepairable") rfl)
  oe_BadGap := excB_ok (c.fact 100 (f := excB "BadGap" ["gap"]) rfl)
  in_BadGap := iniB_ok (c.fact 101 (f := iniB "BadGap") rfl)
  oe_BadNode := excB_ok (c.fact 102 (f := excB "BadNode" ["node"]) rfl)
  in_BadNode := iniB_ok (c.fact 103 (f := iniB "BadNode") rfl)
  oe_BadOperation := excB_ok (c.fact 104 (f := excB "BadOperation" ["operation", "index"]) rfl)
  in_BadOperation := iniB_ok (c.fact 105 (f := iniB "BadOperation") rfl)
  sm_BadOperation := of_decide_eq_true (c.fact 106 (f := (fun K => decide (He.ma K (He.ga K "BadOperation") "__init__" = He.ma K (He.ga K "LogError") "__init__"))) rfl)
  oe_BadSize := excB_ok (c.fact 107 (f := excB "BadSize" ["size"]) rfl)
  in_BadSize := iniB_ok (c.fact 108 (f := iniB "BadSize") rfl)
  oe_BadWeights := excB_ok (c.fact 109 (f := excB "BadWeights" ["count"]) rfl)
  in_BadWeights := iniB_ok (c.fact 110 (f := iniB "BadWeights") rfl)
  oe_Illegal := excB_ok (c.fact 111 (f := excB "Illegal" ["operation", "index"]) rfl)
  in_Illegal := iniB_ok (c.fact 112 (f := iniB "Illegal") rfl)
  sm_Illegal := of_decide_eq_true (c.fact 113 (f := (fun K => decide (He.ma K (He.ga K "Illegal") "__init__" = He.ma K (He.ga K "LogError") "__init__"))) rfl)
  oe_NotOnce := excB_ok (c.fact 114 (f := excB "NotOnce" ["index"]) rfl)
  in_NotOnce := iniB_ok (c.fact 115 (f := iniB "NotOnce") rfl)
  oe_NotRepairable := excB_ok (c.fact 116 (f := excB "NotRepairable" ["gap"]) rfl)
  in_NotRepairable := iniB_ok (c.fact 117 (f := iniB "NotRepairable") rfl)
end G
set_option Elab.async false
set_option linter.all false
set_option maxRecDepth 100000
set_option maxHeartbeats 4000000
/-! What a log writes down: last writes, last changes, the first loss. Promises of the defs that read logs. -/
namespace G
open PySem PySem.Spec PyProof.Rows L2
/-! ### the book -/
structure Bk where
  s : Sd
  k : Nat
  wr : List Int
  wl : List Int
  de : List Int
  ls : Option (Nat × Nat)
def lowN (s : Sd) (op : Int) : Nat := (gI s.L op.natAbs).toNat
def hiN (s : Sd) (op : Int) : Nat := (gI s.R op.natAbs).toNat - 1
def deS (s s' : Sd) (k : Nat) (de : List Int) (g : Nat) : List Int := if stT s g = stT s' g then de else de.set g (k : Int)
def lsS (s s' : Sd) (k g : Nat) (ls : Option (Nat × Nat)) : Option (Nat × Nat) := if ls = none ∧ stT s g ≠ stT s' g ∧ stT s' g = "lost" then some (k, g) else ls
def bstep (b : Bk) (op : Int) : Bk :=
  let s' := stepS b.s op
  ⟨s', b.k + 1, b.wr.set (lowN b.s op) (b.k : Int), b.wl.set (hiN b.s op) (b.k : Int), deS b.s s' b.k (deS b.s s' b.k b.de (lowN b.s op)) (hiN b.s op), lsS b.s s' b.k (hiN b.s op) (lsS b.s s' b.k (lowN b.s op) b.ls)⟩
def bk0 (n : Nat) : Bk := ⟨wholeS n, 0, List.replicate (n + 1) (-1), List.replicate (n + 1) (-1), List.replicate (n + 1) (-1), none⟩
def bkR (n : Nat) (log : List Int) : Bk := log.foldl bstep (bk0 n)
/-- bounds of the two touched gaps -/
theorem touch_bd {s : Sd} (w : Wf s) {op : Int} (h : IsOp s.n op) : lowN s op < op.natAbs ∧ op.natAbs ≤ hiN s op ∧ hiN s op ≤ s.n ∧ gI s.L op.natAbs = (lowN s op : Int) ∧ gI s.R op.natAbs = (hiN s op : Int) + 1 := by
  unfold lowN hiN
  obtain ⟨r1, r2⟩ := w.rb op.natAbs h.2
  obtain ⟨l1, l2⟩ := w.lb op.natAbs h.1 (by have := h.2; omega)
  refine ⟨by omega, by omega, by omega, by omega, by omega⟩
/-! ### promises -/
section
variable (K : PySem.W.Frag)
/-- the errors of a log from the whole list -/
structure RepE (H : Hp) (size : Int) (log : List Int) (E : XK) : Prop where
  op : SizeOk size → LogE K (wholeS size.toNat) log E H
  sz : ¬ SizeOk size → ∀ H', Kp [] H H' → Ex K "BadSize" [("size", .int size)] E H'
theorem RepE.kp {K : PySem.W.Frag} {H H1 : Hp} {size : Int} {log : List Int} {E : XK} (r : RepE K H size log E) (k : Kp [] H H1) : RepE K H1 size log E :=
  ⟨fun ok i op h l b H' k' => r.op ok i op h l b H' (k.trans k'), fun b H' k' => r.sz b H' (k.trans k')⟩
end
end G
set_option Elab.async false
set_option linter.all false
set_option maxRecDepth 100000
set_option maxHeartbeats 4000000
/-! What the law's own defs promise. -/
namespace G
open PySem PySem.Spec PyProof.Rows L2
def Bag (H : Hp) (b : Addr) : Prop := ∃ c m t : Int, H b = some (.lst [.int c, .int m, .int t])
/-- the law's own standing: a list of a size and three lists -/
structure LW (H : Hp) (w r l o : Addr) (s : Sd) : Prop where
  ob : H w = some (.lst [.int s.n, .ref r, .ref l, .ref o])
  hr : H r = some (.lst (s.R.map V.int))
  hl : ∃ L' : List Int, H l = some (.lst (L'.map V.int)) ∧ L'.length = s.n + 2 ∧ ∀ v, 1 ≤ v → gI L' v = gI s.L v
  ho : H o = some (.lst (s.O.map V.bl))
  ne : r ≠ l ∧ r ≠ o ∧ l ≠ o ∧ w ≠ r ∧ w ≠ l ∧ w ≠ o
  wf : Wf s
theorem LW.kp {H H' : Hp} {w r l o : Addr} {s : Sd} {S : List Addr} (a : LW H w r l o s) (k : Kp S H H') (h1 : w ∉ S) (h2 : r ∉ S) (h3 : l ∉ S) (h4 : o ∉ S) : LW H' w r l o s := by
  obtain ⟨L', e1, e2⟩ := a.hl
  exact ⟨k _ _ h1 a.ob, k _ _ h2 a.hr, ⟨L', k _ _ h3 e1, e2⟩, k _ _ h4 a.ho, a.ne, a.wf⟩
theorem LW.k0 {H H' : Hp} {w r l o : Addr} {s : Sd} (a : LW H w r l o s) (k : Kp [] H H') : LW H' w r l o s := a.kp k (by simp) (by simp) (by simp) (by simp)
/-- out, by the last operation of the node -/
def outF (log : List Int) (v : Nat) : Bool := match log.reverse.find? (fun x => decide (x.natAbs = v)) with
  | some x => decide (x < 0)
  | none => false
theorem outF_snoc (log : List Int) (op : Int) (v : Nat) : outF (log ++ [op]) v = if op.natAbs = v then decide (op < 0) else outF log v := by
  unfold outF
  rw [List.reverse_append, List.reverse_singleton, List.singleton_append, List.find?_cons]
  by_cases h : op.natAbs = v
  · rw [decide_eq_true h, if_pos h]
  · rw [decide_eq_false h, if_neg h]
theorem run_out {n : Nat} (hn : n ≤ 60) : ∀ log : List Int, (∀ x ∈ log, IsOp n x) → ∀ v, gB (runS (wholeS n) log).O v = outF log v := by
  intro log
  induction log using snoc_ind with
  | h0 =>
    intro _ v
    show gB (List.replicate (n + 2) false) v = false
    unfold gB
    rw [List.getD_eq_getElem?_getD]
    by_cases h : v < n + 2
    · rw [List.getElem?_replicate_of_lt h] <;> rfl
    · rw [List.getElem?_eq_none (by rw [List.length_replicate]; omega)] <;> rfl
  | h1 l x ih =>
    intro h v
    have hx := h x (by simp)
    have lo : (runS (wholeS n) l).O.length = n + 2 := by
      clear ih h hx
      induction l using snoc_ind with
      | h0 => exact List.length_replicate
      | h1 l y ih =>
        rw [runS_snoc]
        show (List.set _ _ _).length = _
        rw [List.length_set, ih]
    rw [runS_snoc, outF_snoc]
    show gB ((runS (wholeS n) l).O.set x.natAbs (decide (x < 0))) v = _
    rw [gB_set (by rw [lo]; have := hx.2; omega), ih (fun y hy => h y (by simp [hy]))]
    by_cases e : x.natAbs = v
    · rw [if_pos e.symm, if_pos e]
    · rw [if_neg (fun z => e z.symm), if_neg e]
/-- each operation turns its node -/
def Alt (log : List Int) : Prop := ∀ i op, log[i]? = some op → outF (log.take i) op.natAbs = decide (0 < op)
theorem leg_of {n : Nat} (hn : n ≤ 60) {log : List Int} (h : ∀ x ∈ log, IsOp n x) (a : Alt log) : Leg (wholeS n) log := by
  intro i op hi
  refine ⟨by rw [runS_n]; exact h op (List.mem_of_getElem? hi), ?_⟩
  rw [run_out hn _ (fun x hx => h x (List.mem_of_mem_take hx))]
  exact a i op hi
theorem Leg.isop {n : Nat} {log : List Int} (h : Leg (wholeS n) log) : ∀ x ∈ log, IsOp n x := by
  intro x hx
  obtain ⟨i, hi⟩ := List.getElem?_of_mem hx
  have := (h i x hi).1
  rwa [runS_n] at this
theorem ok_out {n : Nat} (hn : n ≤ 60) {log : List Int} (h : Leg (wholeS n) log) {op : Int} : OkOp (runS (wholeS n) log) op ↔ IsOp n op ∧ outF log op.natAbs = decide (0 < op) := by
  unfold OkOp
  rw [run_out hn log h.isop, runS_n] <;> rfl
section
def sp_law (K : PySem.W.Frag) : Sp := fun vs H Q E => ∃ (a : Addr) (ns : List Int), vs = [.ref a] ∧ SqL K H a (ns.map V.int) ∧ ns.length ≤ 63 ∧ ∀ H', Q (.bl true) H'
end
end G
set_option Elab.async false
set_option linter.all false
set_option maxRecDepth 100000
set_option maxHeartbeats 4000000
/-! k10: verdicts, certificates, values of many kinds. -/
namespace G
open PySem PySem.Spec PyProof.Rows L2
/-- .. over a list -/
theorem cp_mutL {K : PySem.W.Frag} {σ : L2.St} {H : Hp} {Q : VK} {te : TE} {tt : TT} {g : TG} {vs : List Nat} {a : Addr} {xs : List V} (Pv : Addr → Nat → List V → Hp → Prop) (hn : xs.length < sizeLine)
    (h0 : ∀ D H', H D = none → Kp [] H H' → H' D = some (.lst []) → Pv D 0 [] H')
    (hl : ∀ D i acc H', H D = none → Pv D i acc H' → SqL K H' a xs)
    (hs : ∀ (D : Addr) (i : Nat) (x : V) (acc : List V) (H' : Hp) (S : V → Hp → Prop) (N : Hp → Prop), H D = none → xs[i]? = some x → H' D = some (.lst acc) → Pv D i acc H' →
      (∀ y H4, H4 D = some (.lst acc) → (∀ H5, Kp [D] H4 H5 → H5 D = some (.lst (acc ++ [y])) → Pv D (i + 1) (acc ++ [y]) H5) → S y H4) → (∀ H4, H4 D = some (.lst acc) → Pv D (i + 1) acc H4 → N H4) →
      g x (wipe σ vs) H' fun σ2 H2 => wipe σ2 vs = wipe σ vs ∧ tt σ2 H2 fun b H3 => if b = true then te σ2 H3 S else N H3)
    (hd : ∀ D acc H', H D = none → H' D = some (.lst acc) → acc.length ≤ xs.length → Pv D xs.length acc H' → Q (.ref D) H') : CompG (Itl K a) g tt te vs σ Q H := by
  intro D nD
  refine ⟨fun i m H' => m = xs.length - i ∧ i ≤ xs.length ∧ ∃ acc, acc.length ≤ i ∧ H' D = some (.lst acc) ∧ Pv D i acc H', ⟨xs.length, by simp, Nat.zero_le _, [], Nat.le_refl _, upd_same, h0 D _ nD (Kp.new nD) upd_same⟩, ?_⟩
  rintro i m H' ⟨rfl, hi, acc, la, e, p⟩
  have q := hl D i acc H' nD p
  by_cases lt : i < xs.length
  · refine .inr ⟨⟨xs, xs[i], q, by simp [lt]⟩, fun H'' => ∃ acc, acc.length ≤ i + 1 ∧ H'' D = some (.lst acc) ∧ Pv D (i + 1) acc H'', fun H'' p => ⟨xs.length - (i + 1), by omega, rfl, lt, p⟩, fun x H'' y => ?_⟩
    obtain ⟨rfl, hx⟩ := y
    refine hs D i x acc _ _ _ nD (hx xs q) e p (fun y H4 h4 k4 => ⟨acc, h4, by omega, acc ++ [y], by rw [List.length_append]; show acc.length + 1 ≤ _; omega, upd_same, k4 _ (Kp.put (by simp)) upd_same⟩) (fun H4 h4 k4 => ⟨acc, by omega, h4, k4⟩)
  · have ei : i = xs.length := by omega
    subst ei
    exact .inl ⟨⟨xs, q, Nat.le_refl _⟩, hd D acc H' nD e la p⟩
/-- the nodes that are out, from the least on -/
def outN (n : Nat) (O : List Bool) : List Int := (((List.range n).map fun (v : Nat) => v + 1).filter fun v => gB O v).map fun (v : Nat) => (v : Int)
theorem outN_len (n : Nat) (O : List Bool) : (outN n O).length ≤ n := by
  unfold outN
  rw [List.length_map]
  refine Nat.le_trans (List.length_filter_le _ _) ?_
  rw [List.length_map, List.length_range]
  exact Nat.le_refl _
/-! a verdict in the heap -/
def vfl (g a b w : V) : List (Str × V) := putF "whole" w (putF "index" b (putF "gap" a (putF "out_nodes" g [])))
theorem m1 : ¬ (("out_nodes" : Str) = "gap") := by decide +kernel
theorem m2 : ¬ (("out_nodes" : Str) = "index") := by decide +kernel
theorem m3 : ¬ (("out_nodes" : Str) = "whole") := by decide +kernel
def whB (a : V) (gone : List Int) : Bool := match a with
  | .non => decide ((gone.length : Int) = 0)
  | _ => false
structure VdAt (K : PySem.W.Frag) (H : Hp) (x g : Addr) (gone : List Int) (a b : V) : Prop where
  ob : ∃ dx, H x = some (.ins (He.ga K "Verdict") dx (vfl (.ref g) a b (.bl (whB a gone))))
  hg : H g = some (.lst (gone.map V.int))
theorem VdAt.kp {K : PySem.W.Frag} {H H' : Hp} {x g : Addr} {gone : List Int} {a b : V} {S : List Addr} (v : VdAt K H x g gone a b) (k : Kp S H H') (h1 : x ∉ S) (h2 : g ∉ S) : VdAt K H' x g gone a b := by
  obtain ⟨dx, h⟩ := v.ob
  exact ⟨⟨dx, k _ _ h1 h⟩, k _ _ h2 v.hg⟩
theorem VdAt.k0 {K : PySem.W.Frag} {H H' : Hp} {x g : Addr} {gone : List Int} {a b : V} (v : VdAt K H x g gone a b) (k : Kp [] H H') : VdAt K H' x g gone a b := v.kp k (by simp) (by simp)
/-- the certificate of a gap -/
def paper (n : Nat) (log : List Int) (i : Nat) : List V := [.str (stT (runS (wholeS n) log) i), .int (gI (bkR n log).wr i), .int (gI (bkR n log).wl i)]
def PapersAt (H : Hp) (p : Addr) (n : Nat) (log : List Int) : Prop := ∃ ps : List V, H p = some (.lst ps) ∧ ps.length = n + 1 ∧ ∀ i, i ≤ n → ∃ t, ps[i]? = some (.ref t) ∧ H t = some (.tup (paper n log i))
theorem PapersAt.k0 {H H' : Hp} {p : Addr} {n : Nat} {log : List Int} (a : PapersAt H p n log) (k : Kp [] H H') : PapersAt H' p n log := by
  obtain ⟨ps, h1, h2, h3⟩ := a
  refine ⟨ps, k.at0 h1, h2, fun i hi => ?_⟩
  obtain ⟨t, h4, h5⟩ := h3 i hi
  exact ⟨t, h4, k.at0 h5⟩
theorem PapersAt.k1 {H H' : Hp} {p b : Addr} {n : Nat} {log : List Int} (a : PapersAt H p n log) (hb : Bag H b) (ne : p ≠ b) (k : Kp [b] H H') : PapersAt H' p n log := by
  obtain ⟨ps, h1, h2, h3⟩ := a
  refine ⟨ps, k.at1 ne h1, h2, fun i hi => ?_⟩
  obtain ⟨t, h4, h5⟩ := h3 i hi
  obtain ⟨c, m, t', hb⟩ := hb
  exact ⟨t, h4, k.at1 (ne_of h5 hb (by intro z; cases z)) h5⟩
/-! values of many kinds, apart from b -/
mutual
inductive Vl (b : Addr) (H : Hp) : V → PyData → Prop
  | non : Vl b H .non .none
  | bl (k : Bool) : Vl b H (.bl k) (.bool k)
  | int (i : Int) : Vl b H (.int i) (.int i)
  | str (x : Str) : Vl b H (.str x) (.str x)
  | lst {a : Addr} {xs : List V} {ds : List PyData} : a ≠ b → H a = some (.lst xs) → VlA b H xs ds → Vl b H (.ref a) (.list ds)
  | tup {a : Addr} {xs : List V} {ds : List PyData} : a ≠ b → H a = some (.tup xs) → VlA b H xs ds → Vl b H (.ref a) (.tuple ds)
inductive VlA (b : Addr) (H : Hp) : List V → List PyData → Prop
  | nil : VlA b H [] []
  | cons {v : V} {vs : List V} {d : PyData} {ds : List PyData} : Vl b H v d → VlA b H vs ds → VlA b H (v :: vs) (d :: ds)
end
mutual
theorem Vl.kp {b : Addr} {H H' : Hp} (k : Kp [b] H H') : ∀ (d : PyData) (v : V), Vl b H v d → Vl b H' v d
  | .none, _, h => by cases h; exact .non
  | .bool b, _, h => by cases h; exact .bl b
  | .int i, _, h => by cases h; exact .int i
  | .str x, _, h => by cases h; exact .str x
  | .list ds, _, h => by
    cases h with
    | lst ne hs ha => exact .lst ne (k.at1 ne hs) (VlA.kp k ds _ ha)
  | .tuple ds, _, h => by
    cases h with
    | tup ne hs ha => exact .tup ne (k.at1 ne hs) (VlA.kp k ds _ ha)
  | .dict _, _, h => by cases h
theorem VlA.kp {b : Addr} {H H' : Hp} (k : Kp [b] H H') : ∀ (ds : List PyData) (vs : List V), VlA b H vs ds → VlA b H' vs ds
  | [], _, h => by cases h; exact .nil
  | d :: ds, _, h => by
    cases h with
    | cons h1 h2 => exact .cons (Vl.kp k d _ h1) (VlA.kp k ds _ h2)
end
theorem Vl.k0 {b : Addr} {H H' : Hp} {v : V} {d : PyData} (h : Vl b H v d) (k : Kp [] H H') : Vl b H' v d := Vl.kp k.all d v h
/-- no truth value stands where a whole number should -/
def okv : PyData → Bool
  | .tuple [_, .bool _, _] => false
  | .tuple [_, _, .bool _] => false
  | _ => true
structure Val (b : Addr) (H : Hp) (v : V) : Prop where
  ex : ∃ d, Vl b H v d ∧ SeqAt.shaped d = true ∧ okv d = true
theorem Val.k1 {b : Addr} {H H' : Hp} {v : V} (h : Val b H v) (k : Kp [b] H H') : Val b H' v := by
  obtain ⟨d, h1, h2⟩ := h.ex
  exact ⟨d, Vl.kp k d v h1, h2⟩
/-! promises -/
section
def sp_Links_outs (K : PySem.W.Frag) : Sp := fun vs H Q E => ∃ (p r l o : Addr) (s : Sd), vs = [.ref p] ∧ LinksAt K H p r l o s ∧ ∀ q H', H q = none → Kp [] H H' → H' q = some (.lst ((outN s.n s.O).map V.int)) → Q (.ref q) H'
end
end G
set_option Elab.async false
set_option linter.all false
set_option maxRecDepth 100000
set_option maxHeartbeats 4000000
/-! Texts of numbers, and of standings. -/
namespace G
open PySem PySem.Spec PyProof.Rows L2 TL
def spS : Str := " "
def barS : Str := " | "
/-! ### a text's parts -/
def noneS : Str := "none"
/-! ### the dump -/
end G
set_option Elab.async false
set_option linter.all false
set_option maxRecDepth 100000
set_option maxHeartbeats 4000000
/-! k07, k06: standings read from texts; what an operation changes. -/
namespace G
open PySem PySem.Spec PyProof.Rows L2
/-- a standing that can be read back: no left link of the head, the sentinels in -/
structure Snd (s : Sd) : Prop where
  l0 : ∃ t, s.L = 0 :: t
  o0 : gB s.O 0 = false
  o1 : gB s.O (s.n + 1) = false
theorem stepS_snd {s : Sd} (w : Wf s) (d : Snd s) {op : Int} (h : IsOp s.n op) : Snd (stepS s op) := by
  obtain ⟨t, e⟩ := d.l0
  obtain ⟨r1, r2⟩ := w.rb op.natAbs (by have := h.2; omega)
  have h1 := h.1
  have h2 := h.2
  refine ⟨?_, ?_, ?_⟩
  · obtain ⟨k, ek⟩ : ∃ k, (gI s.R op.natAbs).toNat = k + 1 := ⟨(gI s.R op.natAbs).toNat - 1, by omega⟩
    refine ⟨t.set k (if op < 0 then gI s.L op.natAbs else (op.natAbs : Int)), ?_⟩
    show s.L.set (gI s.R op.natAbs).toNat _ = _
    rw [ek]
    generalize (if op < 0 then gI s.L op.natAbs else (op.natAbs : Int)) = v
    rw [e]
    rfl
  · show gB (s.O.set op.natAbs _) 0 = false
    rw [gB_set (by rw [w.lO]; omega), if_neg (by omega)]
    exact d.o0
  · show gB (s.O.set op.natAbs _) (s.n + 1) = false
    rw [gB_set (by rw [w.lO]; omega), if_neg (by omega)]
    exact d.o1
theorem runS_snd {s : Sd} (w : Wf s) (d : Snd s) : ∀ {log : List Int}, Leg s log → Snd (runS s log) := by
  intro log
  induction log using snoc_ind with
  | h0 => exact fun _ => d
  | h1 l x ih =>
    intro h
    have h1 : Leg s l := by
      have := h.take l.length
      rwa [List.take_left' rfl] at this
    have h2 := h l.length x (by simp)
    rw [List.take_left' rfl] at h2
    rw [runS_snoc]
    exact stepS_snd (h1.wf w) (ih h1) h2.1
theorem wholeS_snd (n : Nat) : Snd (wholeS n) := by
  refine ⟨⟨_, rfl⟩, ?_, ?_⟩
  · exact gB_of (by show (List.replicate (n + 2) false)[0]? = _; rw [List.getElem?_replicate_of_lt (by omega)])
  · exact gB_of (by show (List.replicate (n + 2) false)[n + 1]? = _; rw [List.getElem?_replicate_of_lt (by omega)])
/-! ### the gaps of foreign writes -/
/-! ### changes -/
abbrev Tr := Nat × Str × Str
def trV (t : Tr) : List V := [.int (t.1 : Int), .str t.2.1, .str t.2.2]
def TupsAt (H : Hp) (xs : List V) (ts : List Tr) : Prop := xs.length = ts.length ∧ ∀ (i : Nat) (t : Tr), ts[i]? = some t → ∃ a, xs[i]? = some (.ref a) ∧ H a = some (.tup (trV t))
theorem TupsAt.kp {S : List Addr} {H H' : Hp} {xs : List V} {ts : List Tr} (h : TupsAt H xs ts) (k : Kp S H H') (hS : ∀ b ∈ S, ∀ ys, H b ≠ some (.tup ys)) : TupsAt H' xs ts := by
  refine ⟨h.1, fun i t e => ?_⟩
  obtain ⟨a, h1, h2⟩ := h.2 i t e
  exact ⟨a, h1, k _ _ (fun z => hS a z _ h2) h2⟩
theorem TupsAt.k0 {H H' : Hp} {xs : List V} {ts : List Tr} (h : TupsAt H xs ts) (k : Kp [] H H') : TupsAt H' xs ts := h.kp k (by simp)
theorem TupsAt.snoc {H : Hp} {xs : List V} {ts : List Tr} {a : Addr} {t : Tr} (h : TupsAt H xs ts) (ha : H a = some (.tup (trV t))) : TupsAt H (xs ++ [.ref a]) (ts ++ [t]) := by
  refine ⟨by rw [List.length_append, List.length_append, h.1] <;> rfl, fun i u e => ?_⟩
  by_cases c : i < ts.length
  · rw [List.getElem?_append_left c] at e
    obtain ⟨b, h1, h2⟩ := h.2 i u e
    exact ⟨b, by rw [List.getElem?_append_left (by rw [h.1]; exact c)]; exact h1, h2⟩
  · have hl := (List.getElem?_eq_some_iff.mp e).1
    rw [List.length_append] at hl
    have ei : i = ts.length := by simp at hl; omega
    subst ei
    rw [List.getElem?_append_right (Nat.le_refl _), Nat.sub_self] at e
    have eu : t = u := by simpa using e
    subst eu
    exact ⟨a, by rw [List.getElem?_append_right (by rw [h.1]; exact Nat.le_refl _), h.1, Nat.sub_self] <;> rfl, ha⟩
theorem TupsAt.nil {H : Hp} : TupsAt H [] [] := ⟨rfl, fun i t e => by simp at e⟩
theorem ne_w : ¬ ("joined" : Str) = "lost" ∧ ¬ ("left" : Str) = "lost" ∧ ¬ ("right" : Str) = "lost" ∧ ¬ ("left" : Str) = "joined" ∧ ¬ ("right" : Str) = "joined" ∧ ¬ ("lost" : Str) = "joined" ∧ ¬ ("right" : Str) = "left" ∧ ¬ ("lost" : Str) = "left" ∧ ¬ ("lost" : Str) = "right" ∧ ¬ ("joined" : Str) = "left" ∧ ¬ ("joined" : Str) = "right" ∧ ¬ ("left" : Str) = "right" := by
  decide +kernel
theorem step_gR {s : Sd} (w : Wf s) {op : Int} (h : IsOp s.n op) (g : Nat) : gI (stepS s op).R g = if g = lowN s op then (if op < 0 then (hiN s op : Int) + 1 else (op.natAbs : Int)) else gI s.R g := by
  obtain ⟨t1, t2, t3, t4, t5⟩ := touch_bd w h
  show gI (s.R.set _ _) g = _
  rw [gI_set (by rw [w.lR, t4]; have := h.2; omega), t4, Int.toNat_natCast, t5]
theorem step_gL {s : Sd} (w : Wf s) {op : Int} (h : IsOp s.n op) (g : Nat) : gI (stepS s op).L (g + 1) = if g = hiN s op then (if op < 0 then (lowN s op : Int) else (op.natAbs : Int)) else gI s.L (g + 1) := by
  obtain ⟨t1, t2, t3, t4, t5⟩ := touch_bd w h
  show gI (s.L.set _ _) (g + 1) = _
  rw [gI_set (by rw [w.lL, t5]; omega), t5, t4, show ((hiN s op : Int) + 1).toNat = hiN s op + 1 by omega]
  by_cases c : g = hiN s op
  · rw [if_pos c, if_pos (by omega)]
  · rw [if_neg c, if_neg (by omega)]
/-! ### promises -/
section
/-- a new list -/
def NewL (H : Hp) (xs : List V) (Q : VK) : Prop := ∀ a H', H a = none → Kp [] H H' → H' a = some (.lst xs) → Q (.ref a) H'
def Any (H : Hp) (v : V) (Q : VK) : Prop := ∀ H', Kp [] H H' → Q v H'
end
end G
set_option Elab.async false
set_option linter.all false
set_option maxRecDepth 100000
set_option maxHeartbeats 4000000
/-! Comprehensions over texts and pairs; cuts; all. -/
namespace G
open PySem PySem.Spec PyProof.Rows L2
section
variable {K : PySem.W.Frag} {σ : L2.St} {H : Hp} {Q : VK} {te : TE} {tt : TT} {g : TG} {vs : List Nat} {p : Addr} {xs ys : List V}
theorem w_slL {lo hi : Option Int} (h : SqL K H p xs) (g : ∀ q H', H q = none → Kp [] H H' → H' q = some (.lst (cutV xs lo hi)) → Q (.ref q) H') : rSlL K (.ref p) lo hi H Q := ⟨p, xs, rfl, h, nw g⟩
theorem cut_take (xs : List V) (k : Nat) (h : k ≤ xs.length) : cutV xs none (some (k : Int)) = xs.take k := by
  unfold cutV
  rw [HT.sIx_nat, HT.sIx_none, Nat.min_eq_left h, List.drop_zero, Nat.sub_zero]
theorem w_asu {D : Ends} {k : Nat} {ts : TGs} (h : te σ H fun v H0 => gUnl K k ts v σ H0 D.nx) : tAsg te (gUnl K k ts) D σ H := h
end
/-! ### joins behind an if -/
section
variable {σ : L2.St} {H : Hp} {s1 s2 a b : TS} {t : TT} {D : Ends}
def SeqIf (t : TT) (a b s2 : TS) : TS := tSeq (tIfS t a b) s2
theorem w_seqI (g : SeqIf t a b s2 D σ H) : tSeq (tIfS t a b) s2 D σ H := g
theorem w_ifK (P : Hp → Prop) (h1 : ∀ N : L2.St → Hp → Prop, (∀ H', P H' → N σ H') → tIfS t a b { D with nx := N } σ H) (h2 : ∀ H', P H' → s2 D σ H') : SeqIf t a b s2 D σ H := h1 _ h2
theorem w_ifJ (P : L2.St → Hp → Prop) (h1 : ∀ N : L2.St → Hp → Prop, (∀ σ' H', P σ' H' → N σ' H') → tIfS t a b { D with nx := N } σ H) (h2 : ∀ σ' H', P σ' H' → s2 D σ' H') : SeqIf t a b s2 D σ H := h1 _ h2
end
section
variable {K : PySem.W.Frag} {H : Hp} {Q : VK}
theorem inI (i : Int) (l : List Int) : inV (.int i) (l.map V.int) = decide (i ∈ l) := by
  unfold inV
  rw [Bool.eq_iff_iff, List.any_eq_true, decide_eq_true_iff]
  constructor
  · rintro ⟨y, hy, e⟩
    obtain ⟨j, hj, rfl⟩ := List.mem_map.mp hy
    have : j = i := by simpa [eqV] using e
    rw [← this]
    exact hj
  · intro h
    exact ⟨.int i, List.mem_map.mpr ⟨i, h, rfl⟩, by simp [eqV]⟩
end
end G
set_option Elab.async false
set_option linter.all false
set_option maxRecDepth 100000
set_option maxHeartbeats 4000000
/-! for over a tuple, a list, where an exception is handled. -/
set_option Elab.async false
set_option linter.all false
set_option maxRecDepth 100000
set_option maxHeartbeats 4000000
/-! xs[lo::k], `in` over data of any depth. -/
set_option Elab.async false
set_option linter.all false
set_option maxRecDepth 100000
set_option maxHeartbeats 1000000
/-! Words with a sign; f"{x:+d}". -/
set_option Elab.async false
set_option linter.all false
set_option maxRecDepth 100000
set_option maxHeartbeats 1000000
set_option Elab.async false
set_option linter.all false
set_option maxRecDepth 100000
set_option maxHeartbeats 1000000
/-! Words of logs, the text of a log, pieces of texts. -/
namespace G
open PySem PySem.Spec PyProof.Rows L2 TL NumText
def spC : Str := " "
theorem tl_spC : tl spC = [32] := by decide +kernel
def posL (cs : List Nat) : Bool := decide (cs ≠ [] ∧ cs.length ≤ 9 ∧ cs.head? ≠ some 48) && cs.all fun c => decide (48 ≤ c ∧ c ≤ 57)
def okW (w : Str) : Bool := match tl w with
  | [] => false
  | c :: cs => decide (c = 43 ∨ c = 45) && posL cs
def valW (w : Str) : Int := match tl w with
  | [] => 0
  | c :: cs => if c = 45 then -((digitsVal cs : Nat) : Int) else ((digitsVal cs : Nat) : Int)
/-! ### the numbers of a log -/
def wordsT (t : Str) : List Str := if t = "" then [] else Txt.split t spC
def badW (ws : List Str) : Option Nat := ws.findIdx? fun w => !okW w
/-! ### lengths -/
def sumL (ws : List Str) : Nat := (ws.map (·.length)).sum
theorem spl_sum : ∀ (l acc : List Nat), ((spl [32] 0 acc l).map List.length).sum ≤ acc.length + l.length ∧ (spl [32] 0 acc l).length ≤ l.length + 1 ∧ spl [32] 0 acc l ≠ []
  | [], acc => by
    rw [spl_nil]
    refine ⟨by simp, by simp, by simp⟩
  | c :: r, acc => by
    cases h : pre [32] (c :: r) with
    | true =>
      rw [spl_hit h]
      obtain ⟨i1, i2, i3⟩ := spl_sum r []
      show ((acc :: spl [32] 0 [] r).map List.length).sum ≤ _ ∧ (acc :: spl [32] 0 [] r).length ≤ _ ∧ acc :: spl [32] 0 [] r ≠ []
      refine ⟨?_, ?_, by simp⟩
      · simp only [List.map_cons, List.sum_cons, List.length_cons, List.length_nil] at i1 ⊢
        omega
      · simp only [List.length_cons] at i2 ⊢
        omega
    | false =>
      rw [spl_miss h]
      obtain ⟨i1, i2, i3⟩ := spl_sum r (acc ++ [c])
      refine ⟨?_, ?_, i3⟩
      · simp only [List.length_append, List.length_cons, List.length_nil] at i1 ⊢
        omega
      · simp only [List.length_cons] at i2 ⊢
        omega
theorem split_sum (t : Str) : sumL (Txt.split t spC) ≤ t.length ∧ (Txt.split t spC).length ≤ t.length + 1 ∧ Txt.split t spC ≠ [] := by
  have e := split_spl t spC (by rw [tl_spC]; simp) (kind_ok (by decide +kernel))
  rw [tl_spC] at e
  obtain ⟨h1, h2, h3⟩ := spl_sum (tl t) []
  rw [← e] at h1 h2 h3
  refine ⟨?_, ?_, fun z => h3 (by rw [z] <;> rfl)⟩
  · have : (List.map List.length ((Txt.split t spC).map tl)).sum = sumL (Txt.split t spC) := by
      unfold sumL
      rw [List.map_map]
      congr 1
    rw [this] at h1
    rw [len_tl]
    simpa using h1
  · rw [List.length_map] at h2
    rw [len_tl]
    exact h2
end G
set_option Elab.async false
set_option linter.all false
set_option maxRecDepth 100000
set_option maxHeartbeats 4000000
/-! Steps over texts: cuts, signs that are not in a text, insert, f"{x:+d}". -/
set_option Elab.async false
set_option linter.all false
set_option maxRecDepth 100000
set_option maxHeartbeats 4000000
/-! k00: promises. -/
namespace G
open PySem PySem.Spec PyProof.Rows L2 TL
/-- the law's box of draws: cells, place, number, seed, count -/
structure BxI (H : Hp) (b c : Addr) : Prop where
  ob : ∃ p q m t : Int, H b = some (.lst [.ref c, .int p, .int q, .int m, .int t]) ∧ 0 ≤ p
  hc : ∃ ns : List Int, H c = some (.lst (ns.map V.int)) ∧ ns.length ≤ 63
theorem BxI.ne {H : Hp} {b c : Addr} (h : BxI H b c) : b ≠ c := by
  obtain ⟨p, q, m, t, h1, _⟩ := h.ob
  obtain ⟨ns, h2, _⟩ := h.hc
  rintro rfl
  rw [h1] at h2
  injection h2 with h2
  injection h2 with h2
  cases ns with
  | nil => cases h2
  | cons x ns =>
    injection h2 with h2
    cases h2
theorem BxI.kp {H H' : Hp} {b c : Addr} {S : List Addr} (a : BxI H b c) (k : Kp S H H') (h1 : b ∉ S) (h2 : c ∉ S) : BxI H' b c := by
  obtain ⟨p, q, m, t, e1, p0⟩ := a.ob
  obtain ⟨ns, e2, e3⟩ := a.hc
  exact ⟨⟨p, q, m, t, k _ _ h1 e1, p0⟩, ⟨ns, k _ _ h2 e2, e3⟩⟩
theorem BxI.k0 {H H' : Hp} {b c : Addr} (a : BxI H b c) (k : Kp [] H H') : BxI H' b c := a.kp k (by simp) (by simp)
theorem BxI.fr {H : Hp} {b c x : Addr} (a : BxI H b c) (n : H x = none) : x ≠ b ∧ x ≠ c := by
  obtain ⟨_, _, _, _, e1, _⟩ := a.ob
  obtain ⟨_, e2, _⟩ := a.hc
  exact ⟨(ne_of_none e1 n).symm, (ne_of_none e2 n).symm⟩
/-- what a reading of the text is due to tell -/
def DueA (H : Hp) (t : Str) (xs : List V) : Prop := (∃ k : Nat, badW (wordsT t) = some k ∧ xs = [.bl false, .int (k : Int)]) ∨ (badW (wordsT t) = none ∧ ∃ l, xs = [.bl true, .ref l] ∧ H l = some (.lst (((wordsT t).map valW).map V.int)))
theorem DueA.k0 {H H' : Hp} {t : Str} {xs : List V} (h : DueA H t xs) (k : Kp [] H H') : DueA H' t xs := by
  rcases h with h | ⟨h, l, e, hl⟩
  · exact .inl h
  · exact .inr ⟨h, l, e, k.at0 hl⟩
end G
set_option Elab.async false
set_option linter.all false
set_option maxRecDepth 100000
set_option maxHeartbeats 4000000
/-! k03: dumps of any form. -/
namespace G
open PySem PySem.Spec PyProof.Rows L2 TL NumText
/-! ### canonical digits -/
def numZ (w : Str) : Int := if tl w = [48] then 0 else if posL (tl w) = true then ((digitsVal (tl w) : Nat) : Int) else -1
/-! ### what is split is joined again -/
/-! ### the parts of a dump -/
def nz (t : Str) : List Int := (Txt.split t spS).map numZ
theorem nz_len (t : Str) : (nz t).length = (Txt.split t spS).length := List.length_map ..
theorem nz_ne (t : Str) : nz t ≠ [] := fun z => (split_sum t).2.2 (by
  have := nz_len t
  rw [z] at this
  exact List.length_eq_zero_iff.mp this.symm)
def okR (R : List Int) : Prop := R.length ≤ 61 ∧ ∀ v, v < R.length → (v : Int) < gI R v ∧ gI R v ≤ R.length
def okL (L : List Int) (n : Nat) : Prop := L.length = n + 1 ∧ ∀ v, v ≤ n → 0 ≤ gI L v ∧ gI L v ≤ v
def okO (O : List Int) (n : Nat) : Prop := ∀ i, i < O.length → gI (0 :: O) i < gI O i ∧ gI O i ≤ n
def prt (t : Str) (i : Nat) : Str := (Txt.split t barS ++ (["", ""] : List Str)).getD i ""
def szT (t : Str) : Nat := (nz (prt t 0)).length - 1
def osT (t : Str) : List Int := if prt t 2 = noneS then [] else nz (prt t 2)
def bitsO (n : Nat) (O : List Int) : List Bool := (List.range (n + 2)).map fun (v : Nat) => decide ((v : Int) ∈ O)
def sdT (t : Str) : Sd := ⟨szT t, nz (prt t 0), 0 :: nz (prt t 1), bitsO (szT t) (osT t)⟩
theorem bits_len (n : Nat) (O : List Int) : (bitsO n O).length = n + 2 := by
  unfold bitsO
  rw [List.length_map, List.length_range]
/-- a right text -/
structure RightT (t : Str) : Prop where
  r : okR (nz (prt t 0))
  l : okL (nz (prt t 1)) (szT t)
  o : okO (osT t) (szT t)
theorem RightT.wf {t : Str} (h : RightT t) : Wf (sdT t) := by
  have hn := List.length_pos_iff.mpr (nz_ne (prt t 0))
  have e : (nz (prt t 0)).length = szT t + 1 := by
    unfold szT
    omega
  refine ⟨?_, e, by show (nz (prt t 1)).length + 1 = _; rw [h.l.1] <;> rfl, bits_len _ _, fun v hv => ?_, fun v h1 h2 => ?_⟩
  · have := h.r.1
    show szT t ≤ 60
    omega
  · have := h.r.2 v (by rw [e]; exact Nat.lt_succ_of_le hv)
    rw [e] at this
    exact this
  · obtain ⟨u, rfl⟩ : ∃ u, v = u + 1 := ⟨v - 1, by omega⟩
    have := h.l.2 u (by show u ≤ szT t; have : u + 1 ≤ szT t + 1 := h2; omega)
    show 0 ≤ gI (nz (prt t 1)) u ∧ gI (nz (prt t 1)) u < _
    omega
end G
set_option Elab.async false
set_option linter.all false
set_option maxRecDepth 100000
set_option maxHeartbeats 4000000
/-! k03: promises. -/
namespace G
open PySem PySem.Spec PyProof.Rows L2 TL
/-- the law's lists of links -/
structure WdZ (H : Hp) (r l o : Addr) (n : Nat) (R L : List Int) (O : List Bool) : Prop where
  hr : H r = some (.lst (R.map V.int))
  hl : H l = some (.lst (L.map V.int))
  ho : H o = some (.lst (O.map V.bl))
  ne : r ≠ l ∧ r ≠ o ∧ l ≠ o
  lR : R.length = n + 1
  lL : L.length = n + 2
  lO : O.length = n + 2
  rb : ∀ v : Nat, v ≤ n → (v : Int) < gI R v ∧ gI R v ≤ (n : Int) + 1
  lb : ∀ v : Nat, 1 ≤ v → v ≤ n + 1 → 0 ≤ gI L v ∧ gI L v < (v : Int)
  o0 : gB O 0 = false
  o1 : gB O (n + 1) = false
theorem WdZ.kp {H H' : Hp} {r l o : Addr} {n : Nat} {R L : List Int} {O : List Bool} {S : List Addr} (a : WdZ H r l o n R L O) (k : Kp S H H') (h1 : r ∉ S) (h2 : l ∉ S) (h3 : o ∉ S) : WdZ H' r l o n R L O :=
  ⟨k _ _ h1 a.hr, k _ _ h2 a.hl, k _ _ h3 a.ho, a.ne, a.lR, a.lL, a.lO, a.rb, a.lb, a.o0, a.o1⟩
theorem WdZ.k0 {H H' : Hp} {r l o : Addr} {n : Nat} {R L : List Int} {O : List Bool} (a : WdZ H r l o n R L O) (k : Kp [] H H') : WdZ H' r l o n R L O := a.kp k (by simp) (by simp) (by simp)
theorem WdZ.setR {H H' : Hp} {r l o : Addr} {n v : Nat} {x : Int} {R L : List Int} {O : List Bool} (a : WdZ H r l o n R L O) (hv : v ≤ n) (h1 : (v : Int) < x) (h2 : x ≤ (n : Int) + 1) (k : Kp [r] H H') (h : H' r = some (.lst ((R.map V.int).set v (.int x)))) : WdZ H' r l o n (R.set v x) L O := by
  refine ⟨by rw [h, set_I], k.at1 (Ne.symm a.ne.1) a.hl, k.at1 (Ne.symm a.ne.2.1) a.ho, a.ne, by rw [List.length_set, a.lR], a.lL, a.lO, fun u hu => ?_, a.lb, a.o0, a.o1⟩
  rw [gI_set (by rw [a.lR]; omega)]
  by_cases c : u = v
  · rw [if_pos c]
    omega
  · rw [if_neg c]
    exact a.rb u hu
section
def sp03_Links_is_out (K : PySem.W.Frag) : Sp := fun vs H Q E => ∃ (p r l o : Addr) (s : Sd) (v : Nat), vs = [.ref p, .int (v : Int)] ∧ LinksAt K H p r l o s ∧ v ≤ s.n + 1 ∧ Q (.bl (gB s.O v)) H
end
end G
set_option Elab.async false
set_option linter.all false
set_option maxRecDepth 100000
set_option maxHeartbeats 4000000
/-! Two clauses under one name. -/
set_option Elab.async false
set_option linter.all false
set_option maxRecDepth 100000
set_option maxHeartbeats 4000000
/-! == with data of another kind, len and str by an own method, len(range(..)). -/
set_option Elab.async false
set_option linter.all false
set_option maxRecDepth 100000
set_option maxHeartbeats 4000000
/-! k02: mathematics and promises. -/
namespace G
open PySem PySem.Spec PyProof.Rows L2 TL
/-! ### the standing of the law's lists -/
def wS (n : Nat) (R L : List Int) (O : List Bool) : Sd := ⟨n, R, 0 :: L.drop 1, O⟩
theorem gI_wL {L : List Int} {v : Nat} (h : 1 ≤ v) : gI (0 :: L.drop 1) v = gI L v := by
  obtain ⟨u, rfl⟩ : ∃ u, v = u + 1 := ⟨v - 1, by omega⟩
  show (L.drop 1).getD u 0 = L.getD (u + 1) 0
  rw [List.getD_eq_getElem?_getD, List.getD_eq_getElem?_getD, List.getElem?_drop, Nat.add_comm]
theorem WdZ.wf {H : Hp} {r l o : Addr} {n : Nat} {R L : List Int} {O : List Bool} (a : WdZ H r l o n R L O) (hn : n ≤ 60) : Wf (wS n R L O) := by
  refine ⟨hn, a.lR, ?_, a.lO, a.rb, fun v h1 h2 => ?_⟩
  · show (L.drop 1).length + 1 = n + 2
    rw [List.length_drop, a.lL]
    omega
  · show 0 ≤ gI (0 :: L.drop 1) v ∧ gI (0 :: L.drop 1) v < _
    rw [gI_wL h1]
    exact a.lb v h1 h2
/-! ### dumps are alike exactly if the standings are -/
end G
set_option Elab.async false
set_option linter.all false
set_option maxRecDepth 100000
set_option maxHeartbeats 4000000
/-! k02: promises. -/
set_option Elab.async false
set_option linter.all false
set_option maxRecDepth 100000
set_option maxHeartbeats 4000000
/-! Generators by a method, `in` by an own method, comprehensions over reversed lists. -/
set_option Elab.async false
set_option linter.all false
set_option maxRecDepth 100000
set_option maxHeartbeats 4000000
/-! a < b < c < d. -/
set_option Elab.async false
set_option linter.all false
set_option maxRecDepth 100000
set_option maxHeartbeats 4000000
/-! {elt for x in xs}, elt a whole number that leaves the heap as it is; sorted of it. -/
set_option Elab.async false
set_option linter.all false
set_option maxRecDepth 100000
set_option maxHeartbeats 4000000
/-! shared small facts: == of lists of numbers; reverse. -/
set_option Elab.async false
set_option linter.all false
set_option maxRecDepth 100000
set_option maxHeartbeats 4000000
/-! tables of sets laid anew, for the masks that a union meets. -/
namespace G
open PySem PySem.Spec PyProof.Rows L2
def MaskU (m : Nat) : Prop := m = 7 ∨ m = 15 ∨ m = 31 ∨ m = 63 ∨ m = 127 ∨ m = 255
def rnd (m : Nat) : Bool := ((List.range (m + 1)).all fun j => (List.range (m + 1)).any fun b => lcgN m b == j) && (lcgN m (m + 1) == 0)
theorem rnd_all {m : Nat} (h : MaskU m) : rnd m = true := by
  rcases h with e | e | e | e | e | e <;> subst e <;> decide +kernel
/-- i -> 5 i + 1 comes around to every place, from every place -/
theorem rnd_any {m i j : Nat} (h : MaskU m) (hi : i ≤ m) (hj : j ≤ m) : ∃ k, k ≤ m ∧ lcgI m i k = j := by
  have z := rnd_all h
  unfold rnd at z
  rw [Bool.and_eq_true, List.all_eq_true, beq_iff_eq] at z
  obtain ⟨z1, z2⟩ := z
  have at_ : ∀ j, j ≤ m → ∃ b, b ≤ m ∧ lcgN m b = j := fun j hj => by
    obtain ⟨b, hb, e⟩ := List.any_eq_true.mp (z1 j (List.mem_range.mpr (Nat.lt_succ_of_le hj)))
    exact ⟨b, Nat.le_of_lt_succ (List.mem_range.mp hb), beq_iff_eq.mp e⟩
  obtain ⟨a, ha, ea⟩ := at_ i hi
  obtain ⟨b, hb, eb⟩ := at_ j hj
  by_cases c : a ≤ b
  · refine ⟨b - a, by omega, ?_⟩
    rw [← ea, lcgN_add, show a + (b - a) = b by omega, eb]
  · -- once more around
    refine ⟨(m + 1 - a) + b, by omega, ?_⟩
    have more : ∀ k, lcgI m 0 k = lcgN m k := fun k => by
      have := lcgN_add m 0 k
      rw [Nat.zero_add] at this
      exact this
    have split : ∀ x k l, lcgI m x (k + l) = lcgI m (lcgI m x k) l := fun x k l => by
      induction l with
      | zero => rfl
      | succ l ih => show (lcgI m x (k + l) * 5 + 1) % (m + 1) = _; rw [ih]; rfl
    rw [split, ← ea, lcgN_add, show a + (m + 1 - a) = m + 1 by omega, z2, more, eb]
/-- a free place is found -/
theorem free_ok {m : Nat} (hm : MaskU m) (owner : Array (Option Nat)) (x : Int) {j : Nat} (hj : j ≤ m) (hf : oAt owner j = none) :
    ∃ j', SetTable.layClean.free m owner (SetTable.turns m) (SetTable.bits x % (m + 1)) (SetTable.bits x) = some j' ∧ j' ≤ m ∧ oAt owner j' = none := by
  obtain ⟨k, hk, ek⟩ := rnd_any hm (runI_le m (SetTable.bits x) 12) hj
  rw [← runI_tail (bits_lt x)] at ek
  have start : ∀ n, (nth m (runAt m (SetTable.bits x % (m + 1)) (SetTable.bits x)) (off m (SetTable.bits x % (m + 1)) (SetTable.bits x) n)).j = runI m (SetTable.bits x) n := fun n => by
    rw [nth_off, itL_run]
    rfl
  obtain ⟨K, k1, k2, k3⟩ := st_least (p := fun q => oAt owner (nth m (runAt m (SetTable.bits x % (m + 1)) (SetTable.bits x)) q).j = none) _ (show oAt owner (nth m (runAt m (SetTable.bits x % (m + 1)) (SetTable.bits x)) (off m (SetTable.bits x % (m + 1)) (SetTable.bits x) (12 + k))).j = none by rw [start, ek]; exact hf)
  have r0 := runI_le m (SetTable.bits x) 0
  have rb := runEnd_bd (m := m) (i := SetTable.bits x % (m + 1)) r0
  refine ⟨_, free_spec m owner (SetTable.turns m) (12 + k) _ _ K (by unfold SetTable.turns; omega) k1 (fun q hq => ?_) (by rw [show oAt owner _ = none from k2]; rfl), ?_, k2⟩
  · cases z : oAt owner (nth m (runAt m (SetTable.bits x % (m + 1)) (SetTable.bits x)) q).j with
    | none => exact absurd z (k3 q hq)
    | some _ => rfl
  · have := nth_in K (runAt m (SetTable.bits x % (m + 1)) (SetTable.bits x)) (show SetTable.bits x % (m + 1) + (SetTable.runEnd m (SetTable.bits x % (m + 1)) - SetTable.bits x % (m + 1)) ≤ m by omega)
    omega
/-- k numbers are placed, the i-th at f i -/
structure Reg (m k : Nat) (owner : Array (Option Nat)) : Prop where
  sz : owner.size = m + 1
  at_ : ∃ f : Nat → Nat, (∀ i, i < k → f i ≤ m ∧ oAt owner (f i) = some i) ∧ ∀ j, j ≤ m → oAt owner j ≠ none → ∃ i, i < k ∧ f i = j
theorem reg_fold {m : Nat} (hm : MaskU m) : ∀ (rest : List Int) (k : Nat) (owner : Array (Option Nat)), Reg m k owner → k + rest.length ≤ m → ∃ owner', rest.foldl (stepF m) (some (owner, k)) = some (owner', k + rest.length) ∧ Reg m (k + rest.length) owner'
  | [], k, owner, W, _ => ⟨owner, rfl, W⟩
  | x :: rest, k, owner, W, hl => by
    rw [List.length_cons] at hl ⊢
    obtain ⟨f, h1, h2⟩ := W.at_
    obtain ⟨j0, a1, a2⟩ := st_missing ((List.range k).map f) (m + 1) (by rw [List.length_map, List.length_range]; omega)
    have n0 : oAt owner j0 = none := Classical.byContradiction fun c => by
      obtain ⟨i, hi, e⟩ := h2 j0 (by omega) c
      exact a2 (List.mem_map.mpr ⟨i, List.mem_range.mpr hi, e⟩)
    obtain ⟨j, e, jm, nj⟩ := free_ok hm owner x (Nat.le_of_lt_succ a1) n0
    have js : j < owner.size := by rw [W.sz]; omega
    have self := oAt_set_self (owner := owner) (some k) js
    have W' : Reg m (k + 1) (owner.setIfInBounds j (some k)) := by
      refine ⟨by rw [Array.size_setIfInBounds]; exact W.sz, fun i => if i = k then j else f i, fun i hi => ?_, fun q hq hn => ?_⟩
      · dsimp only
        by_cases c : i = k
        · rw [if_pos c, c]
          exact ⟨jm, self⟩
        · rw [if_neg c]
          obtain ⟨b1, b2⟩ := h1 i (by omega)
          exact ⟨b1, by rw [oAt_set_ne _ (fun z => by rw [z, nj] at b2; cases b2)]; exact b2⟩
      · by_cases c : q = j
        · exact ⟨k, Nat.lt_succ_self k, by dsimp only; rw [if_pos rfl]; exact c.symm⟩
        · rw [oAt_set_ne _ c] at hn
          obtain ⟨i, hi, e⟩ := h2 q hq hn
          exact ⟨i, by omega, by dsimp only; rw [if_neg (by omega)]; exact e⟩
    obtain ⟨o', e1, e2⟩ := reg_fold hm rest (k + 1) _ W' (by omega)
    rw [show k + (rest.length + 1) = k + 1 + rest.length by omega]
    refine ⟨o', ?_, e2⟩
    rw [List.foldl_cons, stepF_some e]
    exact e1
/-- numbers laid on a clean table -/
theorem lay_ok {m : Nat} (hm : MaskU m) {hs : Array Int} (hn : hs.size ≤ m) : ∃ owner, SetTable.layClean m hs = some owner ∧ Ris ((liveOf m owner).map (·.1)) ∧ ((liveOf m owner).map (·.2)).Perm (List.range hs.size) := by
  have W0 : Reg m 0 (Array.replicate (m + 1) none) := ⟨by simp, fun _ => 0, fun i hi => absurd hi (Nat.not_lt_zero i), fun j hj hnn => absurd (oAt_init hj) hnn⟩
  obtain ⟨owner, e, W⟩ := reg_fold hm hs.toList 0 _ W0 (by rw [Array.length_toList]; omega)
  rw [Nat.zero_add, Array.length_toList] at W
  obtain ⟨f, h1, h2⟩ := W.at_
  have ris := ris_live (fun j => owner.getD j none) (List.range (m + 1)) (by
    unfold Ris
    first | exact List.pairwise_lt_range | exact List.pairwise_lt_range _)
  have r1 : Ris ((liveOf m owner).map (·.1)) := ris.1
  refine ⟨owner, by rw [layClean_eq, e] <;> rfl, r1, ?_⟩
  have nd : ((liveOf m owner).map (·.1)).Nodup := List.Pairwise.imp (fun h => Nat.ne_of_lt h) r1
  have a := nat_nodup_len ((liveOf m owner).map (·.1)) ((List.range hs.size).map f) nd fun x hx => by
    obtain ⟨⟨y, k⟩, hq, rfl⟩ := List.mem_map.mp hx
    obtain ⟨b1, b2⟩ := (mem_live W.sz).1 hq
    obtain ⟨i, hi, ei⟩ := h2 y b1 (by rw [b2]; exact fun z => nomatch z)
    exact List.mem_map.mpr ⟨i, List.mem_range.mpr hi, ei⟩
  have cov : ∀ k, k < hs.size → k ∈ (liveOf m owner).map (·.2) := fun k hk => List.mem_map.mpr ⟨(f k, k), (mem_live W.sz).2 (h1 k hk), rfl⟩
  have b := nat_nodup_len (List.range hs.size) ((liveOf m owner).map (·.2)) List.nodup_range fun k hk => cov k (List.mem_range.mp hk)
  rw [List.length_map, List.length_map, List.length_range] at a
  rw [List.length_map, List.length_range] at b
  exact perm_range hs.size _ (by rw [List.length_map]; omega) cov
/-- what a table is built of, taken in the order that the table wants -/
theorem pick_perm2 (es : Array (Int × Value)) (order : Array Nat) (h : order.toList.Perm (List.range es.size)) : (order.filterMap (es[·]?)).toList.Perm es.toList := by
  have e1 : (order.filterMap (es[·]?)).toList = order.toList.filterMap (es[·]?) := by first | exact Array.toList_filterMap .. | simp
  rw [e1]
  refine (h.filterMap _).trans ?_
  have : ∀ n, n ≤ es.size → (List.range n).filterMap (es[·]?) = es.toList.take n := by
    intro n
    induction n with
    | zero => intro _; rfl
    | succ n ih =>
      intro hn
      rw [List.range_succ, List.filterMap_append, ih (by omega), List.take_succ, Array.getElem?_toList]
      congr 1
  rw [this es.size (Nat.le_refl _), List.take_of_length_le (by rw [Array.length_toList]; exact Nat.le_refl _)]
end G
set_option Elab.async false
set_option linter.all false
set_option maxRecDepth 100000
set_option maxHeartbeats 4000000
/-! a set of whole numbers with all that its table is. -/
namespace G
open PySem PySem.Spec PyProof.Rows L2
structure SX (w : World) (h : Heap) (a : Addr) (es : Array (Int × Value)) (ep : Nat) (t : SetTable) : Prop where
  ob : ∃ o, h.get? a = some o ∧ o.ExactSet ∧ o.data = .set es ep t
  good : ∀ e ∈ es.toList, GoodE e
  nd : (es.toList.map keyOf).Nodup
  sz : es.size < scanBound
  fit : t.fits es.size = true
  ris : Ris t.place.toList
  led : w.params.followText "set-order" = true ∨ t.led = true
theorem SX.setR {w : World} {h : Heap} {a : Addr} {es : Array (Int × Value)} {ep : Nat} {t : SetTable} (R : SX w h a es ep t) {S : Int → Bool} (hS : ∀ k, S k = true ↔ k ∈ es.toList.map keyOf) : SetR w h a S es.size := by
  obtain ⟨o, ho, hx, hd⟩ := R.ob
  exact ⟨o, es, ep, t, ho, hx, hd, R.good, R.nd, hS, R.sz, R.fit, rfl, R.ris, R.led⟩
theorem sx_of {w : World} {h : Heap} {a : Addr} {S : Int → Bool} {n : Nat} (R : SetR w h a S n) : ∃ es ep t, SX w h a es ep t ∧ (∀ k, S k = true ↔ k ∈ es.toList.map keyOf) ∧ es.size = n := by
  obtain ⟨o, es, ep, t, ho, hx, hd, g, nd, hm, hb, hf, hn, hr, hl⟩ := R
  exact ⟨es, ep, t, ⟨⟨o, ho, hx, hd⟩, g, nd, hb, hf, hr, hl⟩, hm, hn⟩
theorem SX.at {w : World} {h h' : Heap} {a : Addr} {es : Array (Int × Value)} {ep : Nat} {t : SetTable} (R : SX w h a es ep t) (k : ∀ o, h.get? a = some o → h'.get? a = some o) : SX w h' a es ep t := by
  obtain ⟨o, ho, r⟩ := R.ob
  exact ⟨⟨o, k o ho, r⟩, R.good, R.nd, R.sz, R.fit, R.ris, R.led⟩
theorem fits_iff {t : SetTable} {n : Nat} : t.fits n = true ↔ t.place.size = n ∧ t.fill ≤ t.mask := by
  unfold SetTable.fits
  rw [Bool.and_eq_true, beq_iff_eq, decide_eq_true_eq]
theorem mask_u {n : Nat} (h : n < 255) : MaskU (SetTable.sizeAbove n - 1) ∧ n ≤ SetTable.sizeAbove n - 1 ∧ SetTable.sizeAbove n ≤ 256 := by
  have key : ((List.range 255).all fun n => ((SetTable.sizeAbove n - 1 == 7) || (SetTable.sizeAbove n - 1 == 15) || (SetTable.sizeAbove n - 1 == 31) || (SetTable.sizeAbove n - 1 == 63) || (SetTable.sizeAbove n - 1 == 127) || (SetTable.sizeAbove n - 1 == 255)) && decide (n ≤ SetTable.sizeAbove n - 1) && decide (SetTable.sizeAbove n ≤ 256)) = true := by decide +kernel
  have z := List.all_eq_true.mp key n (List.mem_range.mpr h)
  simp only [Bool.and_eq_true, Bool.or_eq_true, beq_iff_eq, decide_eq_true_eq] at z
  obtain ⟨⟨z1, z2⟩, z3⟩ := z
  refine ⟨?_, z2, z3⟩
  unfold MaskU
  omega
section
variable {P : Program} {w : World} {A : Around} {E : Value → Shared → Prop} {s : Shared} {a : Addr} {es : Array (Int × Value)} {ep : Nat} {t : SetTable}
theorem storeX (R : SX w s.heap a es ep t) {es' : Array (Int × Value)} {t' : SetTable} {Q : Unit → Shared → Prop} (g : ∀ e ∈ es'.toList, GoodE e) (nd : (es'.toList.map keyOf).Nodup) (sz : es'.size < scanBound) (fit : t'.fits es'.size = true) (ris : Ris t'.place.toList)
    (led : w.params.followText "set-order" = true ∨ t'.led = true) (h : ∀ h', Heap.SameBut a s.heap h' → SX w h' a es' (ep + 1) t' → Q () { s with heap := h' }) : wpAny (model P w) A (storeSet a es' t') Q E s := by
  obtain ⟨o, ho, hx, hd⟩ := R.ob
  refine wpAny_storeSet_of ho hd ?_ (fits_of_scanBound sz)
  exact h _ (Heap.SameBut.update ..) ⟨⟨_, store_at ho hd, ⟨hx.1, hx.2.1, hx.2.2⟩, rfl⟩, g, nd, sz, fit, ris, led⟩
theorem stateX (R : SX w s.heap a es ep t) {Q : (Array (Int × Value) × Nat × SetTable) → Shared → Prop} (h : Q (es, ep, t) s) : wpAny (model P w) A (setState a) Q E s := by
  obtain ⟨o, ho, hx, hd⟩ := R.ob
  exact wpAny_setState_of ho hd R.fit h
/-- entries laid on a clean table of this mask -/
theorem clean_at {es : Array (Int × Value)} (good : ∀ e ∈ es.toList, GoodE e) (nd : (es.toList.map keyOf).Nodup) {M : Nat} (hm : MaskU M) (hn : es.size ≤ M) :
    ∃ owner, SetTable.layClean M (es.map (·.1)) = some owner ∧ Ris ((liveOf M owner).map (·.1)) ∧ (((liveOf M owner).map (·.2)).toArray.filterMap (es[·]?)).toList.Perm es.toList ∧ (liveOf M owner).length = es.size := by
  obtain ⟨owner, e, r, p⟩ := lay_ok hm (hs := es.map (·.1)) (by rw [Array.size_map]; exact hn)
  rw [Array.size_map] at p
  refine ⟨owner, e, r, pick_perm2 es _ p, ?_⟩
  have := p.length_eq
  rw [List.length_map, List.length_range] at this
  exact this
theorem relayX (R : SX w s.heap a es ep t) {wanted : Nat} (hw : wanted < 255) (hn : es.size ≤ wanted) {Q : Unit → Shared → Prop}
    (h : ∀ h' es' t', Heap.SameBut a s.heap h' → SX w h' a es' (ep + 1) t' → es'.toList.Perm es.toList → MaskU t'.mask → wanted ≤ t'.mask → t'.fill = es.size → Q () { s with heap := h' }) : wpAny (model P w) A (setRelay a wanted) Q E s := by
  obtain ⟨m1, m2, m3⟩ := mask_u hw
  obtain ⟨owner, e, r, p, l⟩ := clean_at R.good R.nd m1 (by omega)
  have hr : t.relaid (es.map (·.1)) wanted = some (tabOf t (SetTable.sizeAbove wanted - 1) owner, ((liveOf (SetTable.sizeAbove wanted - 1) owner).map (·.2)).toArray) := by
    rw [relaid_eq, e] <;> rfl
  have hs : (((liveOf (SetTable.sizeAbove wanted - 1) owner).map (·.2)).toArray.filterMap (es[·]?)).size = es.size := by
    rw [← Array.length_toList, p.length_eq, Array.length_toList]
  rw [setRelay_eq]
  refine wpAny_bind (stateX R ?_)
  dsimp only
  refine wp_if_neg (by rw [sizeLine_eq]; omega) ?_
  try refine wpAny_bind (wpAny_pure ?_)
  rw [hr]
  dsimp only
  refine wpAny_bind ?_
  refine wp_if_neg (by rw [hs]; simp) ?_
  try refine wpAny_bind (wpAny_pure ?_)
  refine wpAny_pure ?_
  dsimp only
  refine storeX R (fun e he => R.good e (p.mem_iff.mp he)) ((p.map keyOf).nodup_iff.mpr R.nd) (by rw [hs]; exact R.sz) ?_ r R.led fun h' sb x => h h' _ _ sb x p m1 m2 (by show ((liveOf _ owner).map (·.1)).toArray.size + 0 = es.size; rw [List.size_toArray, List.length_map, l]; rfl)
  rw [fits_iff, hs]
  refine ⟨by show ((liveOf _ owner).map (·.1)).toArray.size = _; rw [List.size_toArray, List.length_map, l], ?_⟩
  show ((liveOf _ owner).map (·.1)).toArray.size + 0 ≤ SetTable.sizeAbove wanted - 1
  rw [List.size_toArray, List.length_map, l]
  omega
theorem roomX (R : SX w s.heap a es ep t) (hm : MaskU t.mask) {more : Nat} (hw : es.size + more < 127) {Q : Unit → Shared → Prop}
    (h : ∀ h' es' ep' t', Heap.SameBut a s.heap h' → SX w h' a es' ep' t' → es'.toList.Perm es.toList → MaskU t'.mask → more ≤ t'.mask → (t.fill = 0 → t'.fill = 0) → Q () { s with heap := h' }) : wpAny (model P w) A (setRoomFor a more) Q E s := by
  unfold setRoomFor
  refine wpAny_bind (stateX R ?_)
  dsimp only
  have fp := (fits_iff.mp R.fit).1
  unfold SetTable.roomFor
  by_cases c : (t.fill + more) * 5 ≥ t.mask * 3
  · rw [if_pos c, fp]
    dsimp only
    exact relayX R (by omega) (by omega) fun h' es' t' sb x p m1 m2 m3 => h h' es' _ t' sb x p m1 (by omega) fun z => (by unfold SetTable.fill at z m3 ⊢; omega)
  · rw [if_neg c]
    dsimp only
    exact wpAny_pure (h s.heap es ep t (Heap.SameBut.refl _ _) R (List.Perm.refl _) hm (by omega) id)
end
end G
set_option Elab.async false
set_option linter.all false
set_option maxRecDepth 100000
set_option maxHeartbeats 4000000
/-! a set of whole numbers walked. -/
namespace G
open PySem PySem.Spec PyProof.Rows L2
section
variable {P : Program} {w : World} {A : Around} {E : Value → Shared → Prop} {s : Shared} {a b : Addr} {es eb : Array (Int × Value)} {ep epb : Nat} {t tb : SetTable}
theorem walk0 (O : SX w s.heap b eb epb tb) {Q : Array (Int × Value) → Shared → Prop} (h : ∀ (ys : Array (Int × Value)) d, ys.toList.Perm eb.toList → Q ys { s with drawn := d }) : wpAny (model P w) A (setWalk b) Q E s := by
  unfold setWalk
  refine wpAny_bind (stateX O ?_)
  dsimp only
  refine wpAny_bind (wpAny_byText ?_)
  by_cases c : w.params.followText "set-order" = true
  · refine wp_if_pos c ?_
    refine wpAny_bind (wpAny_askSetting (wpAny_pure ?_))
    exact h _ s.drawn (pick_perm _ _)
  · refine wp_if_neg c ?_
    have led := O.led.resolve_left c
    show wpAny _ _ (if (!tb.plain && decide (eb.size > 1)) = true then _ else _) _ _ _
    by_cases c2 : (!tb.plain && decide (eb.size > 1)) = true
    · refine wp_if_pos c2 ?_
      refine wpAny_bind (drawOrder_at _ _ _ _ (by rw [Array.length_toList]; exact Nat.le_refl _) fun ys d hp => ?_)
      exact wpAny_pure (h ys.toArray d (by simpa using hp))
    · refine wp_if_neg c2 ?_
      refine wpAny_bind ?_
      show wpAny _ _ (if (!tb.led && decide (eb.size > 1)) = true then _ else _) _ _ _
      refine wp_if_neg (by rw [led]; simp) ?_
      exact wpAny_pure (wpAny_pure (h eb s.drawn (List.Perm.refl _)))
theorem quiet0 (O : SX w s.heap b eb epb tb) (R : SX w s.heap a es ep t) {Q : Bool → Shared → Prop} (h : Q true s) : wpAny (model P w) A (setsQuiet [b, a]) Q E s := by
  unfold setsQuiet
  refine wpAny_bind (wpAny_forIn_list _ (fun l r s' => r = (none, ()) ∧ s' = s ∧ ∀ x ∈ l, x = b ∨ x = a) _ (fun x rest r s' ⟨hr, hs, hx⟩ => ?_) (fun r s' ⟨hr, hs, _⟩ => ?_) _ _ ⟨rfl, rfl, by simp⟩)
  · subst hr hs
    have X0 : ∃ es0 ep0 t0, SX w s'.heap x es0 ep0 t0 := by
      rcases hx x List.mem_cons_self with e | e
      · rw [e]; exact ⟨_, _, _, O⟩
      · rw [e]; exact ⟨_, _, _, R⟩
    obtain ⟨es0, ep0, t0, X0⟩ := X0
    obtain ⟨o, ho, _, hd⟩ := X0.ob
    refine wpAny_bind (wpAny_setEntries_of ho hd X0.fit ?_)
    rw [← Array.forIn_toList]
    refine wpAny_bind (wpAny_forIn_list _ (fun l r s2 => r = (none, ()) ∧ s2 = s' ∧ ∀ e ∈ l, GoodE e) _ (fun e rest2 r s2 ⟨hr, hs, hg⟩ => ?_) (fun r s2 ⟨hr, hs, _⟩ => ?_) _ _ ⟨rfl, rfl, X0.good⟩)
    · subst hr hs
      obtain ⟨k, tk, ek, _⟩ := hg e List.mem_cons_self
      obtain ⟨e1, e2⟩ := e
      dsimp only at ek
      subst ek
      exact wpAny_pure ⟨rfl, rfl, fun q hq => hg q (List.mem_cons_of_mem _ hq)⟩
    · subst hr hs
      exact wpAny_pure ⟨rfl, rfl, fun y hy => hx y (List.mem_cons_of_mem _ hy)⟩
  · subst hr hs
    exact wpAny_pure h
theorem walkX (O : SX w s.heap b eb epb tb) (R : SX w s.heap a es ep t) (ne : a ≠ b) {Q : Array (Int × Value) → Shared → Prop} (h : ∀ (ys : Array (Int × Value)) h' ep' t' d, ys.toList.Perm eb.toList → Heap.SameBut a s.heap h' → SX w h' a es ep' t' → Q ys { s with heap := h', drawn := d }) :
    wpAny (model P w) A (setWalkUnseen b [a] (some a)) Q E s := by
  unfold setWalkUnseen
  refine wpAny_bind (stateX O ?_)
  dsimp only
  refine wpAny_bind (wpAny_byText ?_)
  by_cases c : (w.params.followText "set-order" || (tb.led && tb.plain) || decide (eb.size ≤ 1)) = true
  · refine wp_if_pos c ?_
    exact walk0 O fun ys d p => h ys s.heap ep t d p (Heap.SameBut.refl _ _) R
  · refine wp_if_neg c ?_
    have c' : w.params.followText "set-order" = false := by
      cases z : w.params.followText "set-order" with
      | false => rfl
      | true => rw [z] at c; exact absurd rfl c
    have lo : tb.led = true := O.led.resolve_left (by rw [c']; exact Bool.false_ne_true)
    refine wpAny_bind (quiet0 O R ?_)
    refine wp_if_neg (by simp) ?_
    refine wpAny_bind (wpAny_rule ?_)
    refine wpAny_bind (stateX R ?_)
    dsimp only
    split
    · refine wpAny_bind (storeX R R.good R.nd R.sz R.fit R.ris (by
        rcases R.led with z | z
        · exact .inl z
        · exact .inr (by rw [z, lo]; rfl)) fun h' sb X => ?_)
      exact wpAny_pure (h eb h' _ _ s.drawn (List.Perm.refl _) sb X)
    · exact wpAny_pure (h eb s.heap ep t s.drawn (List.Perm.refl _) (Heap.SameBut.refl _ _) R)
end
end G
set_option Elab.async false
set_option linter.all false
set_option maxRecDepth 100000
set_option maxHeartbeats 4000000
/-! a set merged into another. -/
namespace G
open PySem PySem.Spec PyProof.Rows L2
section
variable {P : Program} {w : World} {A : Around} {E : Value → Shared → Prop} {s : Shared} {a b : Addr} {es eb : Array (Int × Value)} {ep epb : Nat} {t tb : SetTable}
theorem mergeX {each : Sem Unit} (hE : ∀ (s1 : Shared) (Q1 : Unit → Shared → Prop), SX w s1.heap b eb epb tb → Q1 () s1 → wpAny (model P w) A each Q1 E s1) (R : SX w s.heap a es ep t) (hm : MaskU t.mask) (O : SX w s.heap b eb epb tb) (ne : a ≠ b) (room : es.size + eb.size < 127) {Q : Unit → Shared → Prop}
    (h : ∀ h' es' ep' t' d, Heap.SameBut a s.heap h' → SX w h' a es' ep' t' → (∀ k, k ∈ es'.toList.map keyOf ↔ k ∈ es.toList.map keyOf ∨ k ∈ eb.toList.map keyOf) → es'.size ≤ es.size + eb.size → (t.fill = 0 → MaskU t'.mask) → Q () { s with heap := h', drawn := d }) :
    wpAny (model P w) A (setMerge a b each) Q E s := by
  unfold setMerge
  refine wp_if_neg (by simpa using ne) ?_
  refine wpAny_bind (stateX O ?_)
  dsimp only
  by_cases c0 : eb.isEmpty = true
  · refine wp_if_pos c0 ?_
    have e0 : eb.toList = [] := by simpa using c0
    refine wpAny_pure (h s.heap es ep t s.drawn (Heap.SameBut.refl _ _) R (fun k => by rw [e0]; simp) (Nat.le_add_right _ _) fun _ => hm)
  refine wp_if_neg c0 ?_
  refine wpAny_bind (roomX R hm room fun h1 es1 ep1 t1 sb1 R1 p1 m1 m2 m3 => ?_)
  have O1 : SX w h1 b eb epb tb := O.at fun o e => (sb1.2 b ne.symm).trans e
  refine wpAny_bind (stateX R1 ?_)
  dsimp only
  have s1 : es1.size = es.size := by rw [← Array.length_toList, p1.length_eq, Array.length_toList]
  have k1 : ∀ k, k ∈ es1.toList.map keyOf ↔ k ∈ es.toList.map keyOf := fun k => (p1.map keyOf).mem_iff
  have f1 := (fits_iff.mp R1.fit).1
  have empty : t1.fill = 0 → ∀ k, k ∉ es.toList.map keyOf := fun z k hk => by
    have z0 : es.size = 0 := by
      unfold SetTable.fill at z
      omega
    have : es.toList = [] := List.eq_nil_of_length_eq_zero (by rw [Array.length_toList]; exact z0)
    rw [this] at hk
    cases hk
  cases rd : t1.road tb with
  | slotForSlot =>
    have z : t1.fill = 0 ∧ t1.mask = tb.mask := by
      unfold SetTable.road at rd
      split at rd
      · cases rd
      · rename_i c1
        split at rd
        · rename_i c2
          refine ⟨by simpa using c1, ?_⟩
          rw [Bool.and_eq_true, beq_iff_eq] at c2
          exact c2.1
        · cases rd
    dsimp only
    refine storeX R1 O.good O.nd O.sz O.fit O.ris ?_ fun h' sb X => h h' _ _ _ s.drawn (sb1.trans sb) X (fun k => ⟨.inr, fun y => y.elim (fun y => absurd y (empty z.1 k)) id⟩) (Nat.le_add_left _ _) fun _ => (by show MaskU tb.mask; rw [← z.2]; exact m1)
    rcases R1.led with y | y
    · exact .inl y
    · rcases O.led with x | x
      · exact .inl x
      · exact .inr (by show (t1.led && tb.led) = true; rw [x, y]; rfl)
  | clean =>
    have z : t1.fill = 0 := by
      unfold SetTable.road at rd
      split at rd
      · cases rd
      · rename_i c1
        simpa using c1
    obtain ⟨owner, e, r, p, l⟩ := clean_at O.good O.nd m1 m2
    have hs : (((liveOf t1.mask owner).map (·.2)).toArray.filterMap (eb[·]?)).size = eb.size := by
      rw [← Array.length_toList, p.length_eq, Array.length_toList]
    have el : SetTable.laid t1.mask t1.finger t1.moves (t1.led && tb.led) (t1.plain && tb.plain) (eb.map (·.1)) = some ({ mask := t1.mask, place := ((liveOf t1.mask owner).map (·.1)).toArray, dummies := #[], finger := t1.finger, led := t1.led && tb.led, moves := t1.moves, plain := t1.plain && tb.plain }, ((liveOf t1.mask owner).map (·.2)).toArray) := by
      show (SetTable.layClean t1.mask (eb.map (·.1))).bind _ = _
      rw [e] <;> rfl
    dsimp only
    rw [el]
    refine wpAny_bind ?_
    show wpAny _ _ (if ((((liveOf t1.mask owner).map (·.2)).toArray.filterMap (eb[·]?)).size != eb.size) = true then _ else _) _ _ _
    refine wp_if_neg (by rw [hs]; simp) ?_
    refine wpAny_pure ?_
    dsimp only
    refine storeX R1 (fun x hx => O.good x (p.mem_iff.mp hx)) ((p.map keyOf).nodup_iff.mpr O.nd) (by rw [hs]; exact O.sz) ?_ r ?_ fun h' sb X => h h' _ _ _ s.drawn (sb1.trans sb) X (fun k => ?_) (by rw [hs]; exact Nat.le_add_left _ _) fun _ => m1
    · rw [fits_iff, hs]
      refine ⟨by show ((liveOf _ owner).map (·.1)).toArray.size = _; rw [List.size_toArray, List.length_map, l], ?_⟩
      show ((liveOf _ owner).map (·.1)).toArray.size + 0 ≤ t1.mask
      rw [List.size_toArray, List.length_map, l]
      exact m2
    · rcases R1.led with y | y
      · exact .inl y
      · rcases O.led with x | x
        · exact .inl x
        · exact .inr (by show (t1.led && tb.led) = true; rw [x, y]; rfl)
    · rw [(p.map keyOf).mem_iff]
      exact ⟨.inr, fun y => y.elim (fun y => absurd y (empty z k)) id⟩
  | oneByOne =>
    have nz : t.fill ≠ 0 := fun z => by
      have z1 := m3 z
      unfold SetTable.road at rd
      rw [if_neg (by simp [z1])] at rd
      split at rd <;> cases rd
    dsimp only
    refine wpAny_bind (walkX O1 R1 ne fun ys h2 ep2 t2 d2 py sb2 R2 => ?_)
    have O2 : SX w h2 b eb epb tb := O1.at fun o e => (sb2.2 b ne.symm).trans e
    have sy : ys.size = eb.size := by rw [← Array.length_toList, py.length_eq, Array.length_toList]
    rw [← Array.forIn_toList]
    refine wpAny_bind (wpAny_forIn_list _ (fun l r s' => ∃ h3 S n, s' = { s with heap := h3, drawn := d2 } ∧ Heap.SameBut a s.heap h3 ∧ SX w h3 b eb epb tb ∧ SetR w h3 a S n ∧ n + l.length ≤ es.size + eb.size ∧ (∀ e ∈ l, GoodE e) ∧ ∀ k, (S k = true ∨ k ∈ l.map keyOf) ↔ (k ∈ es.toList.map keyOf ∨ k ∈ eb.toList.map keyOf)) _ (fun x rest r s' hI => ?_) (fun r s' hI => ?_) _ _ ?_)
    · obtain ⟨h3, S, n, rfl, sb, OX, RX, hn, hg, hk⟩ := hI
      obtain ⟨k0, tk, ek, eh⟩ := hg x List.mem_cons_self
      obtain ⟨x1, x2⟩ := x
      dsimp only at ek eh
      subst ek eh
      rw [List.length_cons] at hn
      refine wpAny_bind (wpAny_holding (setR_add_hashed (k := k0) RX (by unfold scanBound; omega) fun h4 sb4 R4 => ?_))
      have OX4 : SX w h4 b eb epb tb := OX.at fun o e => (sb4.2 b ne.symm).trans e
      refine wpAny_bind (hE _ _ OX4 ?_)
      refine wpAny_bind (stateX OX4 ?_)
      dsimp only
      refine wp_if_neg (by simp) ?_
      refine wpAny_pure ⟨h4, _, _, rfl, sb.trans sb4, OX4, R4, by split <;> omega, fun e he => hg e (List.mem_cons_of_mem _ he), fun k => ?_⟩
      rw [← hk k, List.map_cons, List.mem_cons, Bool.or_eq_true, decide_eq_true_eq]
      show (S k = true ∨ k = k0) ∨ k ∈ rest.map keyOf ↔ S k = true ∨ k = k0 ∨ k ∈ rest.map keyOf
      exact or_assoc
    · obtain ⟨h3, S, n, rfl, sb, OX, RX, hn, hg, hk⟩ := hI
      obtain ⟨es', ep', t', X, hS, sz⟩ := sx_of RX
      refine wpAny_pure (h h3 es' ep' t' d2 sb X (fun k => ?_) (by rw [sz]; exact hn) fun z => absurd z nz)
      rw [← hk k, ← hS k]
      simp
    · refine ⟨h2, _, es1.size, rfl, sb1.trans sb2, O2, R2.setR (S := fun k => decide (k ∈ es1.toList.map keyOf)) (fun k => decide_eq_true_iff), by rw [Array.length_toList, sy, s1]; exact Nat.le_refl _, fun e he => O.good e (py.mem_iff.mp he), fun k => ?_⟩
      rw [decide_eq_true_iff, k1 k, (py.map keyOf).mem_iff]
end
end G
set_option Elab.async false
set_option linter.all false
set_option maxRecDepth 100000
set_option maxHeartbeats 4000000
/-! a | b of sets of whole numbers. -/
namespace G
open PySem PySem.Spec PyProof.Rows L2
theorem entry_or_set : entryFor table "set.__or__" = some Builtin.«frozenset.__or__» :=
  entryFor_alias (id' := "frozenset.__or__") (by kernel_rfl) rfl (by decide +kernel) (by kernel_rfl)
section
variable {P : Program} {w : World} {A : Around} {E : Value → Shared → Prop} {s : Shared} {a b : Addr} {ea eb : Array (Int × Value)} {epa epb : Nat} {ta tb : SetTable}
theorem tyX {h : Heap} {es : Array (Int × Value)} {ep : Nat} {t : SetTable} (R : SX w h a es ep t) {g d tk os} : (⟨h, g, d, tk, os⟩ : Shared).TypeIs (.ref a) "set" := by
  obtain ⟨o, ho, hx, _⟩ := R.ob
  exact ⟨o, ho, hx.1⟩
theorem anySet {es : Array (Int × Value)} {ep : Nat} {t : SetTable} (R : SX w s.heap a es ep t) {Q : Bool → Shared → Prop} (h : Q true s) : wpAny (model P w) A (Builtin.Frozenset.isAnySet (.ref a)) Q E s := by
  have hT : s.TypeIs (.ref a) "set" := tyX R
  unfold Builtin.Frozenset.isAnySet
  show wpAny _ _ (isInstance (.ref a) (.type "set") >>= fun _ => _) _ _ _
  refine wpAny_bind (wpAny_isInstance (b := true) hT sub_set_self ?_)
  exact wpAny_pure h
/-- copyOf -/
theorem copyX (R : SX w s.heap a ea epa ta) (room : ea.size < 127) {Q : Value → Shared → Prop}
    (h : ∀ h' p es' ep' t' d, (∀ c o, s.heap.get? c = some o → h'.get? c = some o) → p = s.heap.objs.size → SX w h' p es' ep' t' → MaskU t'.mask → (∀ k, k ∈ es'.toList.map keyOf ↔ k ∈ ea.toList.map keyOf) → es'.size ≤ ea.size → Q (.ref p) { s with heap := h', drawn := d }) :
    wpAny (model P w) A (Builtin.Frozenset.copyOf a) Q E s := by
  have hT : s.TypeIs (.ref a) "set" := tyX R
  unfold Builtin.Frozenset.copyOf Builtin.Frozenset.baseOf
  refine wpAny_bind (wpAny_bind (wpAny_isInstance (b := true) hT sub_set_self (wpAny_pure ?_)))
  show wpAny _ _ (newSet (.type "set") >>= fun _ => _) _ _ _
  refine wpAny_bind (PpSet.newSet_ok ?_)
  have kp : ∀ c o, s.heap.get? c = some o → (s.heap.push { cls := .type "set", dict := none, data := .set #[] 0 (.fresh 0 0 (!w.params.followText "set-order")) }).get? c = some o := fun c o e => Heap.get?_push_of_some _ e
  obtain ⟨o, ho, _⟩ := R.ob
  have lt := Heap.lt_size ho
  obtain ⟨ob, hx, hd⟩ : ∃ ob, (s.heap.push { cls := .type "set", dict := none, data := .set #[] 0 (.fresh 0 0 (!w.params.followText "set-order")) }).get? s.heap.objs.size = some ob ∧ ob.ExactSet ∧ ob.data = .set #[] 0 (.fresh 0 0 (!w.params.followText "set-order")) := ⟨_, Heap.get?_push_size _ rfl, ⟨rfl, rfl, rfl⟩, rfl⟩
  have N : SX w (s.heap.push { cls := .type "set", dict := none, data := .set #[] 0 (.fresh 0 0 (!w.params.followText "set-order")) }) s.heap.objs.size #[] 0 (.fresh 0 0 (!w.params.followText "set-order")) := by
    refine ⟨⟨ob, hx, hd⟩, fun e he => (by simp at he), by simp, by decide, rfl, List.Pairwise.nil, ?_⟩
    show _ ∨ (!w.params.followText "set-order") = true
    cases w.params.followText "set-order"
    · exact .inr rfl
    · exact .inl rfl
  generalize s.heap.push { cls := .type "set", dict := none, data := .set #[] 0 (.fresh 0 0 (!w.params.followText "set-order")) } = h0 at kp N
  refine wpAny_bind (m := Builtin.Frozenset.addrOf _) (wpAny_pure ?_)
  refine wpAny_bind (mergeX (fun s1 Q1 _ q => wpAny_pure q) N (.inl rfl) (R.at fun o e => kp _ _ e) (Nat.ne_of_gt lt) (by simpa using room) fun h' es' ep' t' d sb X hk hs hm => ?_)
  refine wpAny_pure (h h' _ es' ep' t' d (fun c o e => ?_) rfl X (hm rfl) (fun k => by rw [hk k]; simp) (by simpa using hs))
  exact (sb.2 c (Nat.ne_of_lt (Heap.lt_size e))).trans (kp c o e)
theorem or_sets (Ra : SX w s.heap a ea epa ta) (Rb : SX w s.heap b eb epb tb) (ne : a ≠ b) (room : ea.size + eb.size < 127) {Q : Value → Shared → Prop}
    (h : ∀ h' p es' ep' t' d, (∀ c o, s.heap.get? c = some o → h'.get? c = some o) → p = s.heap.objs.size → SX w h' p es' ep' t' → (∀ k, k ∈ es'.toList.map keyOf ↔ k ∈ ea.toList.map keyOf ∨ k ∈ eb.toList.map keyOf) → es'.size ≤ ea.size + eb.size → Q (.ref p) { s with heap := h', drawn := d }) :
    wpAny (model P w) A (binaryOp .BitOr (.ref a) (.ref b)) Q E s := by
  have hTa : s.TypeIs (.ref a) "set" := tyX Ra
  have hTb : s.TypeIs (.ref b) "set" := tyX Rb
  refine wpAny_binaryOp_same hTa hTb PySem.F.fills_set_or PySem.F.slot_set_or (wpAny_call_entry PySem.F.slot_set_or hTa entry_or_set ?_ (PySem.F.args_set_or_2 _ _))
  show wpAny _ _ (Builtin.Frozenset.slot1 "__or__" ⟨[.ref a, .ref b], []⟩ >>= fun _ => _) _ _ _
  refine wpAny_bind (m := Builtin.Frozenset.slot1 "__or__" _) (wpAny_of_eq (a := (.ref a, .ref b)) (by rfl) ?_)
  dsimp only
  rw [if_neg Bool.false_ne_true]
  dsimp only
  refine wpAny_bind ?_
  show wpAny _ _ (Builtin.Frozenset.isAnySet (.ref a) >>= fun _ => _) _ _ _
  refine wpAny_bind (anySet Ra ?_)
  refine anySet Rb ?_
  refine wp_if_neg (by simp) ?_
  refine wpAny_bind (m := Builtin.Frozenset.addrOf _) (wpAny_pure ?_)
  refine wpAny_bind ?_
  show wpAny _ _ (Builtin.Frozenset.copyOf a >>= fun _ => _) _ _ _
  refine wpAny_bind (copyX Ra (by omega) fun h1 p es1 ep1 t1 d1 k1 ep X1 m1 hk1 hs1 => ?_)
  have Rb1 : SX w h1 b eb epb tb := Rb.at fun o e => k1 b o e
  obtain ⟨ob, hob, _⟩ := Rb.ob
  have pb : p ≠ b := by rw [ep]; exact Nat.ne_of_gt (Heap.lt_size hob)
  dsimp only
  refine wp_if_pos (by simpa using ne.symm) ?_
  refine wpAny_bind (m := Builtin.Frozenset.addrOf _) (wpAny_pure ?_)
  refine wpAny_bind (wpAny_holding ?_)
  unfold Builtin.Frozenset.updateFrom
  refine wpAny_bind (anySet Rb1 ?_)
  refine wp_if_pos rfl ?_
  refine wpAny_bind (m := Builtin.Frozenset.addrOf _) (wpAny_pure ?_)
  unfold Builtin.Frozenset.merge
  obtain ⟨o1, ho1, _, hd1⟩ := Rb1.ob
  refine wpAny_bind (wpAny_setEpoch_of ho1 hd1 Rb1.fit ?_)
  refine mergeX (fun s1 Q1 O q => ?_) X1 m1 Rb1 pb (by omega) fun h2 es2 ep2 t2 d2 sb2 X2 hk2 hs2 _ => ?_
  · obtain ⟨o2, ho2, _, hd2⟩ := O.ob
    unfold Builtin.Frozenset.unchanged
    refine wpAny_bind (wpAny_setEpoch_of ho2 hd2 O.fit ?_)
    refine wp_if_neg (by simp) ?_
    exact wpAny_pure q
  · refine wpAny_pure (wpAny_pure ⟨_, rfl, (fun z => nomatch z), h h2 p es2 ep2 t2 d2 (fun c o e => ?_) ep X2 (fun k => by rw [hk2 k, hk1 k]) (by omega)⟩)
    exact (sb2.2 c (by rw [ep]; exact Nat.ne_of_lt (Heap.lt_size e))).trans (k1 c o e)
end
end G
set_option Elab.async false
set_option linter.all false
set_option maxRecDepth 100000
set_option maxHeartbeats 4000000
/-! set(xs) of a list of whole numbers; what a def sees of it, of a | b. -/
namespace G
open PySem PySem.Spec PyProof.Rows L2
section
variable {P : Program} {w : World} {A : Around} {E : Value → Shared → Prop} {s : Shared}
/-- a new set, empty -/
abbrev newS (w : World) : Obj := { cls := .type "set", dict := none, data := .set #[] 0 (.fresh 0 0 (!w.params.followText "set-order")) }
/-- set(x), by what __init__ does with the new set -/
theorem call_set1 {x : Value} {Q : Value → Shared → Prop}
    (hi : wpAny (model P w) A.in1.in1 (Builtin.«set.__init__» ⟨[.ref s.heap.objs.size, x], []⟩) (fun fin s' => fin = .done (.ret .none) ∧ Q (.ref s.heap.objs.size) s') E { s with heap := s.heap.push (newS w) }) :
    wpAny (model P w) A (call (.type "set") [x]) Q E s := by
  obtain ⟨c, tl, hmro⟩ := F.called_set.mro
  have hmade := F.called_set.made
  have hsub := F.called_set.sub
  refine wpAny_call (codeAny_of_tree ?_)
  show wpAny _ _ (callAny (.type "set") _) _ _ _
  refine wpAny_pure ⟨Code.quiet_builtin _ (by decide +kernel), codeAny_builtin F.entry_type_call ?_⟩
  rw [Around.under_plain (weight_type_call_type "set" [x] []) rfl]
  have h1 := F.called_set.notType
  have h2 := F.called_set.canCreate
  have hct := F.typeCall_set_1 x
  repeat (any_goals (first | assumption | wp_step))
  refine codeAny_mono (code_set_led1 x (E := E) (Q₁ := fun obj s₁ => obj = .ref s.heap.objs.size ∧ s₁ = { s with heap := s.heap.push (newS w) }) ⟨rfl, rfl⟩) fun r s₁ hr => ?_
  cases r with
  | error e => exact hr
  | ok fl =>
    cases fl with
    | ret obj =>
      obtain ⟨rfl, rfl⟩ := hr
      have hT : Shared.TypeIs { s with heap := s.heap.push (newS w) } (.ref s.heap.objs.size) "set" := ⟨_, Heap.get?_push_size _ rfl, rfl⟩
      have hli := F.called_set.init.lookup
      have hbi := F.called_set.init.bind (.ref s.heap.objs.size)
      repeat (any_goals (first | assumption | wp_step))
      refine codeAny_mono (codeAny_call_builtin (R := wants (fun r s₂ => r = .none ∧ Q (.ref s.heap.objs.size) s₂) E) F.called_set.init.plain F.entry_set_init (check_set_init_1 hT ?_)) fun r₂ s₂ hr₂ => ?_
      · exact wpAny_mono hi (fun fin s' ⟨e, q⟩ => by subst e; exact ⟨rfl, q⟩) fun _ _ z => z
      · cases r₂ with
        | error e => exact hr₂
        | ok fl₂ =>
          cases fl₂ with
          | ret r =>
            obtain ⟨rfl, q⟩ := hr₂
            repeat (any_goals (first | assumption | wp_step))
          | _ => exact hr₂.elim
    | _ => exact hr.elim
/-- __init__ of a new set with a list of whole numbers -/
theorem init_list {l S : Addr} {items : Array Value} {ns : List Int} (hh : A.handled = none) (hS : s.heap.get? S = some (newS w)) (hl : s.heap.IsList l items) (hit : IntsAre items.toList ns) (hb : ns.length + 1 < scanBound) {R : Shared → Prop}
    (h : ∀ (h' : Heap) (tk c : Nat), SetR w h' S (fun j => decide (j ∈ ns)) c → c ≤ ns.length → (∀ b o, b ≠ S → s.heap.get? b = some o → h'.get? b = some o) → R { s with heap := h', toks := tk }) :
    wpAny (model P w) A (Builtin.«set.__init__» ⟨[.ref S, .ref l], []⟩) (fun fin s' => fin = .done (.ret .none) ∧ R s') E s := by
  have hisz : items.size = ns.length := by
    have q := IntsAre.length hit
    rw [Array.length_toList] at q
    exact q
  have hT : s.TypeIs (.ref S) "set" := ⟨_, hS, rfl⟩
  obtain ⟨ol, hol, hcl, nl, hdl⟩ := hl
  have hl : s.heap.IsList l items := ⟨ol, hol, hcl, nl, hdl⟩
  have hsls := F.sub_list_set
  have hslf := F.sub_list_frozenset
  have hne : (Value.type "list" == Value.type "dict") = false := by decide
  have hTl : s.TypeIs (.ref l) "list" := ⟨_, hol, hcl⟩
  unfold Builtin.«set.__init__» noKeywords Builtin.Frozenset.updateFrom
  generalize hPI : pyIter = PI
  wp_walk
  subst hPI
  refine wpAny_pyIter_list hl ?_
  refine wpAny_bind (wpAny_runValue ?_)
  have lS : S < s.heap.objs.size := Heap.lt_size hS
  have ll : l < s.heap.objs.size := Heap.lt_size hol
  have Sl : S ≠ l := fun z => by
    rw [z, hol] at hS
    have e : ol = newS w := Option.some.inj hS
    rw [e] at hcl
    exact absurd hcl (by show ¬ (Value.type "set" = Value.type "list"); decide)
  have hSf : S ∉ [s.heap.objs.size, l] := by
    simp only [List.mem_cons, List.not_mem_nil, or_false, not_or]
    exact ⟨Nat.ne_of_lt lS, Sl⟩
  have hval : ∀ (i : Nat) (v : Value), items[i]? = some v → ∃ k t, ns[i]? = some k ∧ v = .int k t := fun i v hv => by
    have hi : i < ns.length := by rw [← hisz]; exact (Array.getElem?_eq_some_iff.mp hv).1
    obtain ⟨t, e⟩ := PyProof.Rows.IntsAre.int_at hit i v (by rw [Array.getElem?_toList]; exact hv)
    refine ⟨ns[i], t, List.getElem?_eq_getElem hi, ?_⟩
    rw [e, List.getD_eq_getElem?_getD, List.getElem?_eq_getElem hi] <;> rfl
  refine set_update_ints ((Walks.list (by simpa using hh) _ l (Nat.ne_of_lt ll) items).toS) S hSf ns hisz hb hval (items.size - 0) 0 _ (by omega) (Nat.zero_le _) ⟨⟨_, Heap.get?_push_size _ rfl, rfl, rfl⟩, (hl.push _)⟩ ⟨0, Nat.le_refl 0, setR_new_at (Heap.get?_push_of_some _ hS)⟩ fun s' c hm hc hR => ?_
  obtain ⟨h', g2, d', tk', os'⟩ := s'
  have eg : g2 = s.gens := hm.gens
  have ed : d' = s.drawn := hm.drawn
  have eo : os' = s.os := hm.os
  subst eg ed eo
  show wpAny _ _ _ _ _ _
  refine wpAny_pure (wpAny_pure ⟨rfl, h h' tk' c hR (by rw [← hisz]; exact hc) fun b o hb e => ?_⟩)
  have lb : b < s.heap.objs.size := Heap.lt_size e
  exact hm.heap b o (by simp only [List.mem_cons, List.not_mem_nil, or_false, not_or]; exact ⟨hb, Nat.ne_of_lt lb⟩) (Heap.get?_push_of_some _ e)
end
theorem nodup_le : ∀ (l L : List Int), l.Nodup → (∀ x ∈ l, x ∈ L) → l.length ≤ L.length
  | [], _, _, _ => Nat.zero_le _
  | x :: l, L, h, hs => by
    obtain ⟨h1, h2⟩ := List.nodup_cons.mp h
    have hx := hs x List.mem_cons_self
    have ih := nodup_le l (L.erase x) h2 fun y hy => (List.mem_erase_of_ne (fun e => h1 (by rw [← e]; exact hy))).mpr (hs y (List.mem_cons_of_mem _ hy))
    rw [List.length_erase_of_mem hx] at ih
    have := List.length_pos_of_mem hx
    rw [List.length_cons]
    omega
/-! ### what a def sees -/
section
variable {X : Cx}
def rSetOfL (w : World) (K : PySem.W.Frag) : List V → Hp → VK → Prop := fun xs H Q => ∃ (l : Addr) (ns : List Int), xs = [.ref l] ∧ SqL K H l (ns.map V.int) ∧ ns.length ≤ 1000 ∧ ∀ S c, H S = none → c ≤ ns.length → Q (.ref S) (upd H S (SetO w S (fun j => decide (j ∈ ns)) c))
theorem cr_setOfL (hc : X.calm = true) : CallR X (.type "set") (rSetOfL X.w X.K) := by
  intro pins s σ H xs us Q I r h
  obtain ⟨l, ns, rfl, hs, hl, q⟩ := h
  rw [Vals.ref1 r]
  obtain ⟨its, rv, pl, hz⟩ := I.list hs
  have hi : IntsAre its.toArray.toList ns := by simpa using ints_of_vals rv
  obtain ⟨o, n, ho, hcl, _, hd⟩ := pl
  refine call_set1 (init_list (l := l) (items := its.toArray) (ns := ns) (by simpa using I.ok.hd hc) (Heap.get?_push_size _ rfl) ⟨o, Heap.get?_push_of_some _ ho, hcl, n, hd⟩ hi (by unfold scanBound; omega) fun h' tk c R1 hcn k => ?_)
  refine ⟨.ref _, upd H s.heap.objs.size (SetO X.w s.heap.objs.size (fun j => decide (j ∈ ns)) c), I.laid (t' := tk) (fun b u e => k b u (Nat.ne_of_lt (Heap.lt_size e)) (Heap.get?_push_of_some _ e)) (Nat.le_refl _) (setO_new R1), rfl, q _ c (I.hok.fresh (Nat.le_refl _)) hcn⟩
def rOrS (w : World) : R2 := fun x y H Q => ∃ (a b : Addr) (S T : Int → Bool) (n m : Nat), x = .ref a ∧ y = .ref b ∧ a ≠ b ∧ H a = some (SetO w a S n) ∧ H b = some (SetO w b T m) ∧ n + m < 127 ∧ ∀ p c, H p = none → (∀ L : List Int, (∀ k, (S k || T k) = true → k ∈ L) → c ≤ L.length) → Q (.ref p) (upd H p (SetO w p (fun j => S j || T j) c))
theorem op_orS : OpR X (binaryOp .BitOr) (rOrS X.w) := by
  intro pins s σ H x y v u Q I rx ry h
  obtain ⟨a, b, S, T, n, m, rfl, rfl, ne, ha, hb, room, q⟩ := h
  cases rx
  cases ry
  obtain ⟨ea, epa, ta, Xa, Sa, na⟩ := sx_of (setO_get I ha)
  obtain ⟨eb, epb, tb, Xb, Sb, nb⟩ := sx_of (setO_get I hb)
  refine or_sets Xa Xb ne (by omega) fun h' p es ep t d k epp R hk hs => ?_
  subst epp
  have R' : SetR X.w h' s.heap.objs.size (fun j => S j || T j) es.size := R.setR fun j => by rw [Bool.or_eq_true, Sa j, Sb j, hk j]
  have J : Inv X pins σ (upd H s.heap.objs.size (SetO X.w s.heap.objs.size (fun j => S j || T j) es.size)) { s with heap := h', drawn := d } := by
    exact I.call (ch := []) (Un.laid k (Nat.le_refl _) (I.hok.fresh (Nat.le_refl _))) (I.hok.laid k (Nat.le_refl _) (setO_new R')) I.bare (fun _ z => nomatch z)
  refine ⟨.ref _, _, J, rfl, q _ es.size (I.hok.fresh (Nat.le_refl _)) fun L hL => ?_⟩
  have := nodup_le _ L R.nd fun x hx => hL x (by rw [Bool.or_eq_true, Sa x, Sb x]; exact (hk x).mp hx)
  rw [List.length_map, Array.length_toList] at this
  exact this
end
end G
set_option Elab.async false
set_option linter.all false
set_option maxRecDepth 100000
set_option maxHeartbeats 1000000
set_option Elab.async false
set_option linter.all false
set_option maxRecDepth 100000
set_option maxHeartbeats 2000000
/-! comprehensions while an exception is handled -/
set_option Elab.async false
set_option linter.all false
set_option maxRecDepth 100000
set_option maxHeartbeats 2000000
/-! a list comprehension while an exception is handled -/
set_option Elab.async false
set_option linter.all false
set_option maxRecDepth 100000
set_option maxHeartbeats 2000000
/-! methods called, ranges walked while an exception is handled -/
set_option Elab.async false
set_option linter.all false
set_option maxRecDepth 100000
set_option maxHeartbeats 4000000
/-! k21: certificates of loss. -/
namespace G
open PySem PySem.Spec PyProof.Rows L2
theorem jl : ¬ (("joined" : Str) = "lost") := by decide +kernel
theorem ll : ¬ (("left" : Str) = "lost") := by decide +kernel
theorem rl_ : ¬ (("right" : Str) = "lost") := by decide +kernel
theorem jl2 : ¬ (("left" : Str) = "joined") := by decide +kernel
theorem jr2 : ¬ (("right" : Str) = "joined") := by decide +kernel
theorem jx2 : ¬ (("lost" : Str) = "joined") := by decide +kernel
theorem stT_joined {s : Sd} {g : Nat} : stT s g = "joined" ↔ gI s.R g = (g : Int) + 1 ∧ gI s.L (g + 1) = (g : Int) := by
  unfold stT
  split <;> split <;> rename_i a b
  · exact ⟨fun _ => ⟨a, b⟩, fun _ => rfl⟩
  · exact ⟨fun z => absurd z jl2, fun z => absurd z.2 b⟩
  · exact ⟨fun z => absurd z jr2, fun z => absurd z.1 a⟩
  · exact ⟨fun z => absurd z jx2, fun z => absurd z.1 a⟩
theorem stT_lost2 {s : Sd} {g : Nat} : stT s g = "lost" ↔ ¬ gI s.R g = (g : Int) + 1 ∧ ¬ gI s.L (g + 1) = (g : Int) := by
  unfold stT
  split <;> split <;> rename_i a b
  · exact ⟨fun z => absurd z jl, fun z => absurd a z.1⟩
  · exact ⟨fun z => absurd z ll, fun z => absurd a z.1⟩
  · exact ⟨fun z => absurd z rl_, fun z => absurd b z.2⟩
  · exact ⟨fun _ => ⟨a, b⟩, fun _ => rfl⟩
/-! ### triples -/
abbrev Ct := Int × Int × Int
def ctV (t : Ct) : List V := [.int t.1, .int t.2.1, .int t.2.2]
def CPs (H : Hp) (xs : List V) (es : List Ct) : Prop := xs.length = es.length ∧ ∀ (i : Nat) (e : Ct), es[i]? = some e → ∃ a, xs[i]? = some (.ref a) ∧ H a = some (.tup (ctV e))
theorem CPs.kp {S : List Addr} {H H' : Hp} {xs : List V} {es : List Ct} (h : CPs H xs es) (k : Kp S H H') (hS : ∀ b ∈ S, ∀ ys, H b ≠ some (.tup ys)) : CPs H' xs es := by
  refine ⟨h.1, fun i t e => ?_⟩
  obtain ⟨a, h1, h2⟩ := h.2 i t e
  exact ⟨a, h1, k _ _ (fun z => hS a z _ h2) h2⟩
theorem CPs.k0 {H H' : Hp} {xs : List V} {es : List Ct} (h : CPs H xs es) (k : Kp [] H H') : CPs H' xs es := h.kp k (by simp)
theorem CPs.app {H : Hp} {xs ys : List V} {es fs : List Ct} (h : CPs H xs es) (h2 : CPs H ys fs) : CPs H (xs ++ ys) (es ++ fs) := by
  refine ⟨by rw [List.length_append, List.length_append, h.1, h2.1], fun i u e => ?_⟩
  by_cases c : i < es.length
  · rw [List.getElem?_append_left c] at e
    obtain ⟨b, e1, e2⟩ := h.2 i u e
    exact ⟨b, by rw [List.getElem?_append_left (by rw [h.1]; exact c)]; exact e1, e2⟩
  · rw [List.getElem?_append_right (by omega)] at e
    obtain ⟨b, e1, e2⟩ := h2.2 _ u e
    exact ⟨b, by rw [List.getElem?_append_right (by rw [h.1]; omega), h.1]; exact e1, e2⟩
theorem CPs.one {H : Hp} {a : Addr} {t : Ct} (ha : H a = some (.tup (ctV t))) : CPs H [.ref a] [t] := by
  refine ⟨rfl, fun i u e => ?_⟩
  match i, e with
  | 0, e =>
    have eu : t = u := by simpa using e
    subst eu
    exact ⟨a, rfl, ha⟩
  | i + 1, e => simp at e
theorem CPs.nil {H : Hp} : CPs H [] [] := ⟨rfl, fun i t e => by simp at e⟩
/-! ### the law's things -/
structure Bk5 (H : Hp) (w l r o : Addr) (s : Sd) : Prop where
  ob : H w = some (.lst [.int s.n, .ref l, .ref r, .ref o])
  hl : ∃ L' : List Int, H l = some (.lst (L'.map V.int)) ∧ L'.length = s.n + 2 ∧ ∀ v, 1 ≤ v → v ≤ s.n + 1 → gI L' v = gI s.L v
  hr : ∃ R' : List Int, H r = some (.lst (R'.map V.int)) ∧ R'.length = s.n + 2 ∧ ∀ v, v ≤ s.n → gI R' v = gI s.R v
  ho : H o = some (.lst (s.O.map V.bl))
  ne : l ≠ r ∧ l ≠ o ∧ r ≠ o ∧ w ≠ l ∧ w ≠ r ∧ w ≠ o
  wf : Wf s
theorem Bk5.kp {H H' : Hp} {w l r o : Addr} {s : Sd} {S : List Addr} (a : Bk5 H w l r o s) (k : Kp S H H') (h1 : w ∉ S) (h2 : l ∉ S) (h3 : r ∉ S) (h4 : o ∉ S) : Bk5 H' w l r o s := by
  obtain ⟨L', e1, e2⟩ := a.hl
  obtain ⟨R', f1, f2⟩ := a.hr
  exact ⟨k _ _ h1 a.ob, ⟨L', k _ _ h2 e1, e2⟩, ⟨R', k _ _ h3 f1, f2⟩, k _ _ h4 a.ho, a.ne, a.wf⟩
theorem Bk5.k0 {H H' : Hp} {w l r o : Addr} {s : Sd} (a : Bk5 H w l r o s) (k : Kp [] H H') : Bk5 H' w l r o s := a.kp k (by simp) (by simp) (by simp) (by simp)
theorem Bk5.fr {H : Hp} {w l r o x : Addr} {s : Sd} (a : Bk5 H w l r o s) (n : H x = none) : w ≠ x ∧ l ≠ x ∧ r ≠ x ∧ o ≠ x := by
  obtain ⟨L', e1, e2⟩ := a.hl
  obtain ⟨R', f1, f2⟩ := a.hr
  exact ⟨ne_of_none a.ob n, ne_of_none e1 n, ne_of_none f1 n, ne_of_none a.ho n⟩
structure Bag5 (H : Hp) (b c : Addr) : Prop where
  ob : ∃ p q m t : Int, H b = some (.lst [.ref c, .int p, .int q, .int m, .int t]) ∧ 0 ≤ p
  hc : ∃ ns : List Int, H c = some (.lst (ns.map V.int)) ∧ ns.length ≤ 63
theorem Bag5.ne {H : Hp} {b c : Addr} (h : Bag5 H b c) : b ≠ c := by
  obtain ⟨p, q, m, t, h1, _⟩ := h.ob
  obtain ⟨ns, h2, _⟩ := h.hc
  rintro rfl
  rw [h1] at h2
  injection h2 with h2
  injection h2 with h2
  cases ns with
  | nil => cases h2
  | cons x ns =>
    injection h2 with h2
    cases h2
theorem Bag5.kp {H H' : Hp} {b c : Addr} {S : List Addr} (a : Bag5 H b c) (k : Kp S H H') (h1 : b ∉ S) (h2 : c ∉ S) : Bag5 H' b c := by
  obtain ⟨p, q, m, t, e1, p0⟩ := a.ob
  obtain ⟨ns, e2, e3⟩ := a.hc
  exact ⟨⟨p, q, m, t, k _ _ h1 e1, p0⟩, ⟨ns, k _ _ h2 e2, e3⟩⟩
theorem Bag5.k0 {H H' : Hp} {b c : Addr} (a : Bag5 H b c) (k : Kp [] H H') : Bag5 H' b c := a.kp k (by simp) (by simp)
theorem Bag5.fr {H : Hp} {b c x : Addr} (a : Bag5 H b c) (n : H x = none) : x ≠ b ∧ x ≠ c := by
  obtain ⟨_, _, _, _, e1, _⟩ := a.ob
  obtain ⟨_, e2, _⟩ := a.hc
  exact ⟨(ne_of_none e1 n).symm, (ne_of_none e2 n).symm⟩
structure ValS (b : Addr) (H : Hp) (v : V) : Prop where
  ex : ∃ d, Vl b H v d ∧ SeqAt.shaped d = true
theorem ValS.k1 {b : Addr} {H H' : Hp} {v : V} (h : ValS b H v) (k : Kp [b] H H') : ValS b H' v := by
  obtain ⟨d, h1, h2⟩ := h.ex
  exact ⟨d, Vl.kp k d v h1, h2⟩
theorem ValS.k0 {b : Addr} {H H' : Hp} {v : V} (h : ValS b H v) (k : Kp [] H H') : ValS b H' v := h.k1 k.all
/-! ### promises -/
end G
set_option Elab.async false
set_option linter.all false
set_option maxRecDepth 100000
set_option maxHeartbeats 4000000
/-! k06: sole holders; promises. -/
namespace G
open PySem PySem.Spec PyProof.Rows L2
/-- v holds a gap alone -/
def soleB (s : Sd) (v : Nat) : Bool := decide (stT s v = "left") || decide (stT s (v - 1) = "right")
def aloneL (s : Sd) : List Int := (((List.range s.n).map fun (v : Nat) => v + 1).filter fun v => soleB s v).map fun (v : Nat) => (v : Int)
theorem stT_left {s : Sd} {g : Nat} : stT s g = "left" ↔ gI s.R g = (g : Int) + 1 ∧ gI s.L (g + 1) ≠ (g : Int) := by
  obtain ⟨a, b, c, d, e, f, h, i, j, k, l, m⟩ := ne_w
  unfold stT
  by_cases h1 : gI s.R g = (g : Int) + 1 <;> by_cases h2 : gI s.L (g + 1) = (g : Int)
  · rw [if_pos h1, if_pos h2]
    exact ⟨fun z => absurd z k, fun z => absurd h2 z.2⟩
  · rw [if_pos h1, if_neg h2]
    exact ⟨fun _ => ⟨h1, h2⟩, fun _ => rfl⟩
  · rw [if_neg h1, if_pos h2]
    exact ⟨fun z => absurd z h, fun z => absurd z.1 h1⟩
  · rw [if_neg h1, if_neg h2]
    exact ⟨fun z => absurd z i, fun z => absurd z.1 h1⟩
theorem stT_right {s : Sd} {g : Nat} : stT s g = "right" ↔ gI s.R g ≠ (g : Int) + 1 ∧ gI s.L (g + 1) = (g : Int) := by
  obtain ⟨a, b, c, d, e, f, h, i, j, k, l, m⟩ := ne_w
  unfold stT
  by_cases h1 : gI s.R g = (g : Int) + 1 <;> by_cases h2 : gI s.L (g + 1) = (g : Int)
  · rw [if_pos h1, if_pos h2]
    exact ⟨fun z => absurd z l, fun z => absurd h1 z.1⟩
  · rw [if_pos h1, if_neg h2]
    exact ⟨fun z => absurd z m, fun z => absurd h1 z.1⟩
  · rw [if_neg h1, if_pos h2]
    exact ⟨fun _ => ⟨h1, h2⟩, fun _ => rfl⟩
  · rw [if_neg h1, if_neg h2]
    exact ⟨fun z => absurd z j, fun z => absurd z.2 h2⟩
theorem not_left0 {s : Sd} (w : Wf s) : stT s 0 ≠ "left" := fun z => by
  have h1 := (stT_left.mp z).2
  have h2 := w.lb 1 (by omega) (by omega)
  have e : gI s.L (0 + 1) = gI s.L 1 := rfl
  rw [e] at h1
  omega
theorem not_rightn {s : Sd} (w : Wf s) : stT s s.n ≠ "right" := fun z => by
  have h := (stT_right.mp z).1
  have := w.rb s.n (by omega)
  omega
theorem mem_alone {s : Sd} {i : Int} : i ∈ aloneL s ↔ 1 ≤ i ∧ i ≤ s.n ∧ soleB s i.toNat = true := by
  unfold aloneL
  constructor
  · intro h
    obtain ⟨v, hv, rfl⟩ := List.mem_map.mp h
    obtain ⟨h1, h2⟩ := List.mem_filter.mp hv
    obtain ⟨u, hu, rfl⟩ := List.mem_map.mp h1
    have := List.mem_range.mp hu
    rw [Int.toNat_natCast]
    exact ⟨by omega, by omega, h2⟩
  · rintro ⟨h1, h2, h3⟩
    exact List.mem_map.mpr ⟨i.toNat, List.mem_filter.mpr ⟨List.mem_map.mpr ⟨i.toNat - 1, List.mem_range.mpr (by omega), by omega⟩, h3⟩, by omega⟩
theorem alone_sorted (s : Sd) : (aloneL s).Pairwise (· < ·) := by
  unfold aloneL
  refine List.Pairwise.map (R := fun a b : Nat => a < b) _ (fun a b h => ?_) (List.Pairwise.filter (R := fun a b : Nat => a < b) _ (List.Pairwise.map (R := fun a b : Nat => a < b) (S := fun a b : Nat => a < b) _ (fun a b h => ?_) (List.pairwise_lt_range (n := s.n))))
  · exact Int.ofNat_lt.mpr h
  · exact Nat.succ_lt_succ h
theorem alone_len (s : Sd) : (aloneL s).length ≤ s.n := by
  unfold aloneL
  rw [List.length_map]
  refine Nat.le_trans (List.length_filter_le _ _) ?_
  rw [List.length_map, List.length_range]
  exact Nat.le_refl _
theorem sorted_ext : ∀ {a b : List Int}, a.Pairwise (· < ·) → b.Pairwise (· < ·) → (∀ x, x ∈ a ↔ x ∈ b) → a = b
  | [], [], _, _, _ => rfl
  | [], y :: b, _, _, h => by
    have := (h y).mpr List.mem_cons_self
    cases this
  | x :: a, [], _, _, h => by
    have := (h x).mp List.mem_cons_self
    cases this
  | x :: a, y :: b, ha, hb, h => by
    obtain ⟨a1, a2⟩ := List.pairwise_cons.mp ha
    obtain ⟨b1, b2⟩ := List.pairwise_cons.mp hb
    have exy : x = y := by
      rcases List.mem_cons.mp ((h x).mp List.mem_cons_self) with e | e
      · exact e
      · rcases List.mem_cons.mp ((h y).mpr List.mem_cons_self) with f | f
        · exact f.symm
        · have := a1 y f
          have := b1 x e
          omega
    subst exy
    congr 1
    refine sorted_ext a2 b2 fun z => ⟨fun hz => ?_, fun hz => ?_⟩
    · rcases List.mem_cons.mp ((h z).mp (List.mem_cons_of_mem _ hz)) with e | e
      · have := a1 z hz
        omega
      · exact e
    · rcases List.mem_cons.mp ((h z).mpr (List.mem_cons_of_mem _ hz)) with e | e
      · have := b1 z hz
        omega
      · exact e
/-- the holders found behind i gaps -/
def holdB (s : Sd) (i : Nat) (k : Int) : Bool := (List.range i).any fun g => (decide (stT s g = "left") && decide (k = (g : Int))) || (decide (stT s g = "right") && decide (k = (g : Int) + 1))
theorem holdB_all {s : Sd} (w : Wf s) {k : Int} : holdB s (s.n + 1) k = true ↔ k ∈ aloneL s := by
  rw [mem_alone]
  unfold holdB soleB
  rw [List.any_eq_true]
  constructor
  · rintro ⟨g, hg, h⟩
    have hg := List.mem_range.mp hg
    rw [Bool.or_eq_true, Bool.and_eq_true, Bool.and_eq_true, decide_eq_true_iff, decide_eq_true_iff, decide_eq_true_iff, decide_eq_true_iff] at h
    rcases h with ⟨h1, rfl⟩ | ⟨h1, rfl⟩
    · have g0 : g ≠ 0 := fun z => by
        subst z
        exact not_left0 w h1
      have gn : g ≠ s.n ∨ g = s.n := by omega
      refine ⟨by omega, ?_, ?_⟩
      · omega
      · rw [Int.toNat_natCast, decide_eq_true h1, Bool.true_or]
    · have gn : g ≠ s.n := fun z => by
        subst z
        exact not_rightn w h1
      refine ⟨by omega, by omega, ?_⟩
      rw [show ((g : Int) + 1).toNat = g + 1 by omega, Nat.add_sub_cancel, decide_eq_true h1, Bool.or_true]
  · rintro ⟨h1, h2, h3⟩
    obtain ⟨v, rfl⟩ : ∃ v : Nat, k = (v : Int) := ⟨k.toNat, by omega⟩
    rw [Int.toNat_natCast, Bool.or_eq_true, decide_eq_true_iff, decide_eq_true_iff] at h3
    rcases h3 with h3 | h3
    · exact ⟨v, List.mem_range.mpr (by omega), by rw [decide_eq_true h3, decide_eq_true rfl] <;> rfl⟩
    · refine ⟨v - 1, List.mem_range.mpr (by omega), ?_⟩
      rw [Bool.or_eq_true]
      refine .inr ?_
      rw [decide_eq_true h3, decide_eq_true (by omega)] <;> rfl
theorem holdB_snoc (s : Sd) (i : Nat) (k : Int) : holdB s (i + 1) k = (holdB s i k || ((decide (stT s i = "left") && decide (k = (i : Int))) || (decide (stT s i = "right") && decide (k = (i : Int) + 1)))) := by
  unfold holdB
  rw [List.range_succ, List.any_append]
  simp
/-- the four words of a state, one by one -/
theorem st_cases (s : Sd) (g : Nat) : (gI s.R g = (g : Int) + 1 ∧ gI s.L (g + 1) = (g : Int) ∧ stT s g = "joined") ∨ (gI s.R g = (g : Int) + 1 ∧ ¬ gI s.L (g + 1) = (g : Int) ∧ stT s g = "left") ∨
    (¬ gI s.R g = (g : Int) + 1 ∧ gI s.L (g + 1) = (g : Int) ∧ stT s g = "right") ∨ (¬ gI s.R g = (g : Int) + 1 ∧ ¬ gI s.L (g + 1) = (g : Int) ∧ stT s g = "lost") := by
  unfold stT
  by_cases h1 : gI s.R g = (g : Int) + 1 <;> by_cases h2 : gI s.L (g + 1) = (g : Int)
  · exact .inl ⟨h1, h2, by rw [if_pos h1, if_pos h2]⟩
  · exact .inr (.inl ⟨h1, h2, by rw [if_pos h1, if_neg h2]⟩)
  · exact .inr (.inr (.inl ⟨h1, h2, by rw [if_neg h1, if_pos h2]⟩))
  · exact .inr (.inr (.inr ⟨h1, h2, by rw [if_neg h1, if_neg h2]⟩))
/-! ### promises -/
section
def sp_sole_holders (K : PySem.W.Frag) : Sp := fun vs H Q E => ∃ (p r l o : Addr) (s : Sd), vs = [.ref p] ∧ LinksAt K H p r l o s ∧ NewL H ((aloneL s).map V.int) Q
end
end G
set_option Elab.async false
set_option linter.all false
set_option maxRecDepth 100000
set_option maxHeartbeats 4000000
/-! k04: mathematics. -/
namespace G
open PySem PySem.Spec PyProof.Rows L2 TL
/-! ### walks -/
/-! ### sound, whole -/
/-! ### the mirror -/
theorem sd_ext {s t : Sd} (w : Wf s) (w' : Wf t) (d : Snd s) (d' : Snd t) (hn : s.n = t.n) (hR : ∀ v, v ≤ s.n → gI s.R v = gI t.R v) (hL : ∀ v, 1 ≤ v → v ≤ s.n + 1 → gI s.L v = gI t.L v) (hO : ∀ v, v ≤ s.n + 1 → gB s.O v = gB t.O v) : s = t := by
  have l1 := w.lR
  have l2 := w.lL
  have l3 := w.lO
  have m1 := w'.lR
  have m2 := w'.lL
  have m3 := w'.lO
  obtain ⟨x, hx⟩ := d.l0
  obtain ⟨y, hy⟩ := d'.l0
  have e1 : s.R = t.R := List.ext_getElem? fun i => by
    by_cases hi : i < s.n + 1
    · rw [gI_at (l := s.R) (by omega), gI_at (l := t.R) (by omega), hR i (by omega)]
    · rw [List.getElem?_eq_none (by omega), List.getElem?_eq_none (by omega)]
  have e2 : s.L = t.L := List.ext_getElem? fun i => by
    by_cases hi : i < s.n + 2
    · cases i with
      | zero => rw [hx, hy] <;> rfl
      | succ i => rw [gI_at (l := s.L) (by omega), gI_at (l := t.L) (by omega), hL (i + 1) (by omega) (by omega)]
    · rw [List.getElem?_eq_none (by omega), List.getElem?_eq_none (by omega)]
  have e3 : s.O = t.O := List.ext_getElem? fun i => by
    by_cases hi : i < s.n + 2
    · rw [gB_at (l := s.O) (by omega), gB_at (l := t.O) (by omega), hO i (by omega)]
    · rw [List.getElem?_eq_none (by omega), List.getElem?_eq_none (by omega)]
  obtain ⟨n, R, L, O⟩ := s
  obtain ⟨n', R', L', O'⟩ := t
  cases hn; cases e1; cases e2; cases e3
  rfl
theorem step_gI {s : Sd} (w : Wf s) {op : Int} (h : IsOp s.n op) (v : Nat) : gI (stepS s op).R v = (if v = (gI s.L op.natAbs).toNat then (if op < 0 then gI s.R op.natAbs else (op.natAbs : Int)) else gI s.R v) ∧ gI (stepS s op).L v = (if v = (gI s.R op.natAbs).toNat then (if op < 0 then gI s.L op.natAbs else (op.natAbs : Int)) else gI s.L v) := by
  have h1 := h.1
  have h2 := h.2
  have rb := w.rb op.natAbs h2
  have lb := w.lb op.natAbs h1 (by omega)
  have l1 := w.lR
  have l2 := w.lL
  refine ⟨?_, ?_⟩
  · show gI (s.R.set _ _) v = _
    rw [gI_set (by omega)]
  · show gI (s.L.set _ _) v = _
    rw [gI_set (by omega)]
end G
set_option Elab.async false
set_option linter.all false
set_option maxRecDepth 100000
set_option maxHeartbeats 4000000
/-! k16: due nodes, debts, finishing by relinks: mathematics. -/
namespace G
open PySem PySem.Spec PyProof.Rows L2
def dueB (s : Sd) (v : Nat) : Bool := gB s.O v || soleB s v
def dueL (s : Sd) : List Int := (((List.range s.n).map fun (v : Nat) => v + 1).filter fun v => dueB s v).map fun (v : Nat) => (v : Int)
theorem mem_due {s : Sd} {i : Int} : i ∈ dueL s ↔ 1 ≤ i ∧ i ≤ s.n ∧ dueB s i.toNat = true := by
  unfold dueL
  constructor
  · intro h
    obtain ⟨v, hv, rfl⟩ := List.mem_map.mp h
    obtain ⟨h1, h2⟩ := List.mem_filter.mp hv
    obtain ⟨u, hu, rfl⟩ := List.mem_map.mp h1
    have := List.mem_range.mp hu
    rw [Int.toNat_natCast]
    exact ⟨by omega, by omega, h2⟩
  · rintro ⟨h1, h2, h3⟩
    exact List.mem_map.mpr ⟨i.toNat, List.mem_filter.mpr ⟨List.mem_map.mpr ⟨i.toNat - 1, List.mem_range.mpr (by omega), by omega⟩, h3⟩, by omega⟩
theorem due_len (s : Sd) : (dueL s).length ≤ s.n := by
  unfold dueL
  rw [List.length_map]
  refine Nat.le_trans (List.length_filter_le _ _) ?_
  rw [List.length_map, List.length_range]
  exact Nat.le_refl _
theorem due_pair (s : Sd) : (dueL s).Pairwise (· < ·) := by
  unfold dueL
  rw [List.pairwise_map]
  refine List.Pairwise.imp (fun {a b} (h : a < b) => by omega) (List.Pairwise.filter _ ?_)
  rw [List.pairwise_map]
  exact List.Pairwise.imp (fun {a b} (h : a < b) => by omega) List.pairwise_lt_range
theorem mem_outs {s : Sd} {i : Int} : i ∈ outN s.n s.O ↔ 1 ≤ i ∧ i ≤ s.n ∧ gB s.O i.toNat = true := by
  unfold outN
  constructor
  · intro h
    obtain ⟨v, hv, rfl⟩ := List.mem_map.mp h
    obtain ⟨h1, h2⟩ := List.mem_filter.mp hv
    obtain ⟨u, hu, rfl⟩ := List.mem_map.mp h1
    have := List.mem_range.mp hu
    rw [Int.toNat_natCast]
    exact ⟨by omega, by omega, h2⟩
  · rintro ⟨h1, h2, h3⟩
    exact List.mem_map.mpr ⟨i.toNat, List.mem_filter.mpr ⟨List.mem_map.mpr ⟨i.toNat - 1, List.mem_range.mpr (by omega), by omega⟩, h3⟩, by omega⟩
theorem due_union {s : Sd} {i : Int} : i ∈ dueL s ↔ i ∈ outN s.n s.O ∨ i ∈ aloneL s := by
  rw [mem_due, mem_outs, mem_alone]
  unfold dueB
  rw [Bool.or_eq_true]
  constructor
  · rintro ⟨a, b, c | c⟩
    · exact .inl ⟨a, b, c⟩
    · exact .inr ⟨a, b, c⟩
  · rintro (⟨a, b, c⟩ | ⟨a, b, c⟩)
    · exact ⟨a, b, .inl c⟩
    · exact ⟨a, b, .inr c⟩
def costB (b : Bool) : Int := if b then 1 else 2
def owedS (s : Sd) : Int := ((dueL s).map fun v => costB (gB s.O v.toNat)).sum
/-! ### finishing by relinks alone -/
theorem lost_nil {s : Sd} : lostL s = [] ↔ ∀ g, g ≤ s.n → stT s g ≠ "lost" := by
  unfold lostL
  rw [List.filter_eq_nil_iff]
  constructor
  · intro h g hg z
    exact h g (List.mem_range.mpr (by omega)) (decide_eq_true z)
  · intro h g hg z
    exact h g (by have := List.mem_range.mp hg; omega) (of_decide_eq_true z)
theorem sole_iff {s : Sd} {v : Nat} : soleB s v = true ↔ stT s v = "left" ∨ stT s (v - 1) = "right" := by
  unfold soleB
  rw [Bool.or_eq_true, decide_eq_true_iff, decide_eq_true_iff]
/-! ### rows -/
end G
set_option Elab.async false
set_option linter.all false
set_option maxRecDepth 100000
set_option maxHeartbeats 4000000
/-! k16: promises. -/
namespace G
open PySem PySem.Spec PyProof.Rows L2
/-- the rows on the heap, none of them anything of z -/
def RowAt (H : Hp) (z w : Addr) (t : Sd) : Prop := ∃ l r o, Bk5 H w l r o t ∧ Snd t ∧ w ≠ z ∧ l ≠ z ∧ r ≠ z ∧ o ≠ z
theorem RowAt.kz {H H' : Hp} {z w : Addr} {t : Sd} (h : RowAt H z w t) (k : Kp [z] H H') : RowAt H' z w t := by
  obtain ⟨l, r, o, b, d, h1, h2, h3, h4⟩ := h
  exact ⟨l, r, o, b.kp k (by simpa using h1) (by simpa using h2) (by simpa using h3) (by simpa using h4), d, h1, h2, h3, h4⟩
def RowsAt (H : Hp) (z : Addr) (ws : List Addr) (ts : List Sd) : Prop := ws.length = ts.length ∧ ∀ (i : Nat) (w : Addr) (t : Sd), ws[i]? = some w → ts[i]? = some t → RowAt H z w t
theorem RowsAt.kz {H H' : Hp} {z : Addr} {ws : List Addr} {ts : List Sd} (h : RowsAt H z ws ts) (k : Kp [z] H H') : RowsAt H' z ws ts := ⟨h.1, fun i w t a b => (h.2 i w t a b).kz k⟩
theorem RowsAt.k0 {H H' : Hp} {z : Addr} {ws : List Addr} {ts : List Sd} (h : RowsAt H z ws ts) (k : Kp [] H H') : RowsAt H' z ws ts := h.kz k.all
theorem RowsAt.nil (H : Hp) (z : Addr) : RowsAt H z [] [] := ⟨rfl, fun i w t a _ => by simp at a⟩
theorem RowsAt.snoc {H : Hp} {z w : Addr} {t : Sd} {ws : List Addr} {ts : List Sd} (h : RowsAt H z ws ts) (r : RowAt H z w t) : RowsAt H z (ws ++ [w]) (ts ++ [t]) := by
  refine ⟨by rw [List.length_append, List.length_append, h.1]; rfl, fun i u q a b => ?_⟩
  rcases Nat.lt_or_ge i ws.length with c | c
  · rw [List.getElem?_append_left c] at a
    rw [List.getElem?_append_left (by rw [← h.1]; exact c)] at b
    exact h.2 i u q a b
  · rw [List.getElem?_append_right c] at a
    rw [List.getElem?_append_right (by rw [← h.1]; exact c)] at b
    have c2 : i - ws.length = 0 := by
      have := (List.getElem?_eq_some_iff.mp a).1
      simp at this
      omega
    rw [c2] at a
    rw [← h.1, c2] at b
    injection a with a
    injection b with b
    subst a b
    exact r
def NotRep (K : PySem.W.Frag) (s : Sd) (E : XK) (H : Hp) : Prop := ∀ (g : Nat) (gs : List Nat), lostL s = g :: gs → ∀ H', Kp [] H H' → Ex K "NotRepairable" [("gap", .int (g : Int))] E H'
theorem NotRep.k0 {K : PySem.W.Frag} {s : Sd} {E : XK} {H H1 : Hp} (h : NotRep K s E H) (k : Kp [] H H1) : NotRep K s E H1 := fun g gs e H' k' => h g gs e H' (k.trans k')
section
def sp16_due_nodes (K : PySem.W.Frag) : Sp := fun vs H Q E => ∃ (p r l o : Addr) (s : Sd), vs = [.ref p] ∧ LinksAt K H p r l o s ∧ NewL H ((dueL s).map V.int) Q
def sp16_check_repairable (K : PySem.W.Frag) : Sp := fun vs H Q E => ∃ (p r l o : Addr) (s : Sd), vs = [.ref p] ∧ LinksAt K H p r l o s ∧ (lostL s = [] → Any H .non Q) ∧ NotRep K s E H
def sp16_repair_cost (K : PySem.W.Frag) : Sp := fun vs H Q E => ∃ (p r l o a : Addr) (s : Sd), vs = [.ref p, .ref a] ∧ LinksAt K H p r l o s ∧ H a = some (.lst ((List.replicate s.n (1 : Int)).map V.int)) ∧ (lostL s = [] → Any H (.int (owedS s)) Q) ∧ NotRep K s E H
def sp16_debt_of (K : PySem.W.Frag) : Sp := fun vs H Q E => ∃ (p r l o : Addr) (s : Sd), vs = [.ref p] ∧ LinksAt K H p r l o s ∧ (lostL s = [] → Any H (.int (owedS s)) Q) ∧ NotRep K s E H
end
end G
set_option Elab.async false
set_option linter.all false
set_option maxRecDepth 100000
set_option maxHeartbeats 4000000
/-! k22: once-only logs, late writes. -/
namespace G
open PySem PySem.Spec PyProof.Rows L2
def OnceA (log : List Int) : Prop := ∀ (i : Nat) (op : Int), log[i]? = some op → op < 0 → op ∉ log.take i
theorem OnceA.take {log : List Int} (h : OnceA log) (k : Nat) : OnceA (log.take k) := by
  intro i op hi ho
  have hk : i < (log.take k).length := (List.getElem?_eq_some_iff.mp hi).1
  rw [List.length_take] at hk
  rw [List.getElem?_take_of_lt (by omega)] at hi
  rw [List.take_take, Nat.min_eq_left (by omega)]
  exact h i op hi ho
theorem OnceA.snoc {log : List Int} {op : Int} (h : OnceA log) (ho : op < 0 → op ∉ log) : OnceA (log ++ [op]) := by
  intro i x hi hx
  by_cases c : i < log.length
  · rw [List.getElem?_append_left c] at hi
    rw [List.take_append_of_le_length (by omega)]
    exact h i x hi hx
  · have hl := (List.getElem?_eq_some_iff.mp hi).1
    rw [List.length_append] at hl
    have ei : i = log.length := by simp at hl; omega
    subst ei
    rw [List.getElem?_append_right (Nat.le_refl _), Nat.sub_self] at hi
    have e : op = x := by simpa using hi
    subst e
    rw [List.take_left' rfl]
    exact ho hx
theorem OnceA.of_snoc {log : List Int} {op : Int} (h : OnceA (log ++ [op])) : OnceA log ∧ (op < 0 → op ∉ log) := by
  refine ⟨?_, fun ho => ?_⟩
  · have := h.take log.length
    rwa [List.take_left' rfl] at this
  · have := h log.length op (by simp) ho
    rwa [List.take_left' rfl] at this
theorem once_nil : OnceA [] := fun i op h => by simp at h
/-- Alt, from the back -/
theorem Alt.of_snoc {log : List Int} {op : Int} (h : Alt (log ++ [op])) : Alt log ∧ outF log op.natAbs = decide (0 < op) := by
  refine ⟨fun i x hi => ?_, ?_⟩
  · have hl := (List.getElem?_eq_some_iff.mp hi).1
    have := h i x (by rw [List.getElem?_append_left hl]; exact hi)
    rwa [List.take_append_of_le_length (by omega)] at this
  · have := h log.length op (by simp)
    rwa [List.take_left' rfl] at this
theorem alt_snoc' {ds : List Int} {op : Int} (a : Alt ds) (o : outF ds op.natAbs = decide (0 < op)) : Alt (ds ++ [op]) := by
  intro i x hi
  by_cases h : i < ds.length
  · rw [List.getElem?_append_left h] at hi
    rw [List.take_append_of_le_length (by omega)]
    exact a i x hi
  · have hl := (List.getElem?_eq_some_iff.mp hi).1
    rw [List.length_append] at hl
    have e : i = ds.length := by simp at hl; omega
    subst e
    rw [List.getElem?_append_right (Nat.le_refl _), Nat.sub_self] at hi
    have ex : op = x := by simpa using hi
    subst ex
    rw [List.take_left' rfl]
    exact o
theorem alt_nil' : Alt [] := fun i op h => by simp at h
/-- 0: has not acted, 1: out, 2: back -/
def stgF (log : List Int) (v : Nat) : Nat := match log.reverse.find? (fun x => decide (x.natAbs = v)) with
  | some x => if x < 0 then 1 else 2
  | none => 0
theorem stgF_snoc (log : List Int) (op : Int) (v : Nat) : stgF (log ++ [op]) v = if op.natAbs = v then (if op < 0 then 1 else 2) else stgF log v := by
  unfold stgF
  rw [List.reverse_append, List.reverse_singleton, List.singleton_append, List.find?_cons]
  by_cases h : op.natAbs = v
  · rw [decide_eq_true h, if_pos h]
  · rw [decide_eq_false h, if_neg h]
theorem stgF_le (log : List Int) (v : Nat) : stgF log v ≤ 2 := by
  unfold stgF
  split
  · split <;> omega
  · omega
theorem stg_out (log : List Int) (v : Nat) : outF log v = decide (stgF log v = 1) := by
  induction log using snoc_ind with
  | h0 => rfl
  | h1 l x ih =>
    rw [outF_snoc, stgF_snoc]
    by_cases c : x.natAbs = v
    · rw [if_pos c, if_pos c]
      by_cases n : x < 0
      · rw [if_pos n, decide_eq_true n] <;> rfl
      · rw [if_neg n, decide_eq_false n] <;> rfl
    · rw [if_neg c, if_neg c, ih]
/-- the operations on a node -/
def opsV (v : Nat) (log : List Int) : List Int := log.filter fun x => decide (x.natAbs = v)
theorem opsV_snoc (v : Nat) (log : List Int) (op : Int) : opsV v (log ++ [op]) = opsV v log ++ (if op.natAbs = v then [op] else []) := by
  unfold opsV
  rw [List.filter_append]
  congr 1
  by_cases c : op.natAbs = v
  · rw [if_pos c, List.filter_cons_of_pos (by rw [decide_eq_true c])] <;> rfl
  · rw [if_neg c, List.filter_cons_of_neg (by rw [decide_eq_false c]; exact Bool.false_ne_true)] <;> rfl
/-- all of a once-only log at a node -/
structure NodeI (log : List Int) (v : Nat) : Prop where
  s0 : stgF log v = 0 → (v : Int) ∉ log ∧ -(v : Int) ∉ log
  s1 : stgF log v = 1 → (v : Int) ∉ log ∧ -(v : Int) ∈ log
  s2 : stgF log v = 2 → (v : Int) ∈ log ∧ -(v : Int) ∈ log
  ln : (opsV v log).length = stgF log v
theorem nodeI : ∀ {log : List Int}, Alt log → OnceA log → ∀ v, 1 ≤ v → NodeI log v := by
  intro log
  induction log using snoc_ind with
  | h0 => exact fun _ _ v _ => ⟨fun _ => ⟨by simp, by simp⟩, fun h => (by cases h), fun h => (by cases h), rfl⟩
  | h1 l x ih =>
    intro a o v hv
    obtain ⟨a1, a2⟩ := a.of_snoc
    obtain ⟨o1, o2⟩ := o.of_snoc
    have I := ih a1 o1 v hv
    by_cases c : x.natAbs = v
    · rw [c, stg_out] at a2
      by_cases n : x < 0
      · have ex : x = -(v : Int) := by omega
        have st : stgF l v ≠ 1 := fun z => by
          rw [z] at a2
          have := (decide_eq_true_iff.mp a2.symm)
          omega
        have st0 : stgF l v = 0 := by
          have := stgF_le l v
          have : stgF l v ≠ 2 := fun z => o2 n (by rw [ex]; exact (I.s2 z).2)
          omega
        have e : stgF (l ++ [x]) v = 1 := by rw [stgF_snoc, if_pos c, if_pos n]
        refine ⟨fun z => by omega, fun _ => ⟨fun z => ?_, by simp [ex]⟩, fun z => by omega, ?_⟩
        · rcases List.mem_append.mp z with z | z
          · exact (I.s0 st0).1 z
          · simp at z
            omega
        · rw [opsV_snoc, if_pos c, List.length_append, I.ln, e, st0] <;> rfl
      · have ex : x = (v : Int) := by omega
        have st1 : stgF l v = 1 := by
          have : decide (0 < x) = true := decide_eq_true (by omega)
          rw [this] at a2
          exact decide_eq_true_iff.mp a2
        have e : stgF (l ++ [x]) v = 2 := by rw [stgF_snoc, if_pos c, if_neg n]
        refine ⟨fun z => by omega, fun z => by omega, fun _ => ⟨by simp [ex], List.mem_append.mpr (.inl (I.s1 st1).2)⟩, ?_⟩
        rw [opsV_snoc, if_pos c, List.length_append, I.ln, e, st1] <;> rfl
    · have e : stgF (l ++ [x]) v = stgF l v := by rw [stgF_snoc, if_neg c]
      have m : ∀ y : Int, y.natAbs = v → (y ∈ l ++ [x] ↔ y ∈ l) := by
        intro y hy
        rw [List.mem_append]
        constructor
        · rintro (h | h)
          · exact h
          · rw [List.mem_singleton] at h
            rw [h] at hy
            exact absurd hy c
        · exact .inl
      have mv := m (v : Int) (Int.natAbs_natCast v)
      have mw := m (-(v : Int)) (by omega)
      refine ⟨fun z => ?_, fun z => ?_, fun z => ?_, ?_⟩
      · rw [mv, mw]
        exact I.s0 (by rw [← e]; exact z)
      · rw [mv, mw]
        exact I.s1 (by rw [← e]; exact z)
      · rw [mv, mw]
        exact I.s2 (by rw [← e]; exact z)
      · rw [opsV_snoc, if_neg c, List.append_nil, e]
        exact I.ln
theorem stg2_iff {log : List Int} (a : Alt log) (o : OnceA log) {v : Nat} (hv : 1 ≤ v) : stgF log v = 2 ↔ (v : Int) ∈ log := by
  have I := nodeI a o v hv
  refine ⟨fun h => (I.s2 h).1, fun h => ?_⟩
  have := stgF_le log v
  have : stgF log v ≠ 0 := fun z => (I.s0 z).1 h
  have : stgF log v ≠ 1 := fun z => (I.s1 z).1 h
  omega
/-! ### late writes -/
def lateL (s : Sd) (earlier : List Int) (x : Nat) : List Int :=
  (if gI s.L x ≠ (x : Int) - 1 ∧ gI s.L x + 1 ∈ earlier then [gI s.L x] else []) ++ (if gI s.R x ≠ (x : Int) + 1 ∧ gI s.R x - 1 ∈ earlier then [gI s.R x - 1] else [])
theorem lateL_len (s : Sd) (e : List Int) (x : Nat) : (lateL s e x).length ≤ 2 := by
  unfold lateL
  rw [List.length_append]
  split <;> split <;> simp
/-- the late writes of a log: index, gap -/
def lateAt (n : Nat) (log : List Int) (i : Nat) (op : Int) : List (Int × Int) := (lateL (runS (wholeS n) (log.take i)) (log.take i) op.natAbs).map fun g => ((i : Int), g)
def lateW (n : Nat) (log : List Int) : List (Int × Int) := ((List.range log.length).map fun i => lateAt n log i (gI log i)).flatten
/-! ### faults -/
/-- the first second unlink -/
def TwiceAt (log : List Int) (i : Nat) : Prop := ∃ op, log[i]? = some op ∧ op < 0 ∧ op ∈ log.take i ∧ OnceA (log.take i)
structure OnE (K : PySem.W.Frag) (H : Hp) (size : Int) (log : List Int) (E : XK) : Prop where
  re : RepE K H size log E
  tw : SizeOk size → Leg (wholeS size.toNat) log → ∀ i, TwiceAt log i → ∀ H', Kp [] H H' → Ex K "NotOnce" [("index", .int (i : Int))] E H'
theorem OnE.kp {K : PySem.W.Frag} {H H1 : Hp} {size : Int} {log : List Int} {E : XK} (r : OnE K H size log E) (k : Kp [] H H1) : OnE K H1 size log E := ⟨r.re.kp k, fun a b i t H' k' => r.tw a b i t H' (k.trans k')⟩
theorem twice_once {log : List Int} {i : Nat} (hi : TwiceAt log i) (o : OnceA log) : False := by
  obtain ⟨a, a1, a2, a3, a4⟩ := hi
  exact o i a a1 a2 a3
/-! ### the law's things -/
/-- the law's book: left links, right links, stages -/
structure LB (H : Hp) (w l r g : Addr) (n : Nat) (log : List Int) : Prop where
  ob : H w = some (.lst [.ref l, .ref r, .ref g])
  hl : ∃ L' : List Int, H l = some (.lst (L'.map V.int)) ∧ L'.length = n + 2 ∧ ∀ v, 1 ≤ v → v ≤ n + 1 → gI L' v = gI (runS (wholeS n) log).L v
  hr : ∃ R' : List Int, H r = some (.lst (R'.map V.int)) ∧ R'.length = n + 2 ∧ ∀ v, v ≤ n → gI R' v = gI (runS (wholeS n) log).R v
  hg : ∃ G' : List Int, H g = some (.lst (G'.map V.int)) ∧ G'.length = n + 2 ∧ (∀ v, 1 ≤ v → v ≤ n → gI G' v = (stgF log v : Int)) ∧ gI G' 0 = 0 ∧ gI G' (n + 1) = 0
  ne : l ≠ r ∧ l ≠ g ∧ r ≠ g ∧ w ≠ l ∧ w ≠ r ∧ w ≠ g
  le : Leg (wholeS n) log
  oo : OnceA log
  n60 : n ≤ 60
theorem LB.kp {H H' : Hp} {w l r g : Addr} {n : Nat} {log : List Int} {S : List Addr} (a : LB H w l r g n log) (k : Kp S H H') (h1 : w ∉ S) (h2 : l ∉ S) (h3 : r ∉ S) (h4 : g ∉ S) : LB H' w l r g n log := by
  obtain ⟨L', e1, e2⟩ := a.hl
  obtain ⟨R', f1, f2⟩ := a.hr
  obtain ⟨G', g1, g2⟩ := a.hg
  exact ⟨k _ _ h1 a.ob, ⟨L', k _ _ h2 e1, e2⟩, ⟨R', k _ _ h3 f1, f2⟩, ⟨G', k _ _ h4 g1, g2⟩, a.ne, a.le, a.oo, a.n60⟩
theorem LB.k0 {H H' : Hp} {w l r g : Addr} {n : Nat} {log : List Int} (a : LB H w l r g n log) (k : Kp [] H H') : LB H' w l r g n log := a.kp k (by simp) (by simp) (by simp) (by simp)
/-- the law's box of draws -/
structure BoxI (H : Hp) (b c : Addr) : Prop where
  ob : ∃ x y z : Int, H b = some (.lst [.int x, .int y, .int z, .ref c])
  hc : ∃ ns : List Int, H c = some (.lst (ns.map V.int)) ∧ ns.length ≤ 63
theorem BoxI.ne {H : Hp} {b c : Addr} (h : BoxI H b c) : b ≠ c := by
  obtain ⟨x, y, z, h1⟩ := h.ob
  obtain ⟨ns, h2, _⟩ := h.hc
  rintro rfl
  rw [h1] at h2
  injection h2 with h2
  injection h2 with h2
  match ns, h2 with
  | [_, _, _, d], h2 =>
    simp at h2
theorem BoxI.kp {H H' : Hp} {b c : Addr} {S : List Addr} (a : BoxI H b c) (k : Kp S H H') (h1 : b ∉ S) (h2 : c ∉ S) : BoxI H' b c := by
  obtain ⟨x, y, z, e1⟩ := a.ob
  obtain ⟨ns, e2, e3⟩ := a.hc
  exact ⟨⟨x, y, z, k _ _ h1 e1⟩, ⟨ns, k _ _ h2 e2, e3⟩⟩
theorem BoxI.k0 {H H' : Hp} {b c : Addr} (a : BoxI H b c) (k : Kp [] H H') : BoxI H' b c := a.kp k (by simp) (by simp)
theorem BoxI.fr {H : Hp} {b c x : Addr} (a : BoxI H b c) (n : H x = none) : x ≠ b ∧ x ≠ c := by
  obtain ⟨_, _, _, e1⟩ := a.ob
  obtain ⟨_, e2, _⟩ := a.hc
  exact ⟨(ne_of_none e1 n).symm, (ne_of_none e2 n).symm⟩
/-- pairs of numbers -/
def PPs (H : Hp) (xs : List V) (es : List (Int × Int)) : Prop := xs.length = es.length ∧ ∀ (i : Nat) (e : Int × Int), es[i]? = some e → ∃ a, xs[i]? = some (.ref a) ∧ H a = some (.tup [.int e.1, .int e.2])
theorem PPs.kp {S : List Addr} {H H' : Hp} {xs : List V} {es : List (Int × Int)} (h : PPs H xs es) (k : Kp S H H') (hS : ∀ b ∈ S, ∀ ys, H b ≠ some (.tup ys)) : PPs H' xs es := by
  refine ⟨h.1, fun i t e => ?_⟩
  obtain ⟨a, h1, h2⟩ := h.2 i t e
  exact ⟨a, h1, k _ _ (fun z => hS a z _ h2) h2⟩
theorem PPs.k0 {H H' : Hp} {xs : List V} {es : List (Int × Int)} (h : PPs H xs es) (k : Kp [] H H') : PPs H' xs es := h.kp k (by simp)
theorem PPs.app {H : Hp} {xs ys : List V} {es fs : List (Int × Int)} (h : PPs H xs es) (h2 : PPs H ys fs) : PPs H (xs ++ ys) (es ++ fs) := by
  refine ⟨by rw [List.length_append, List.length_append, h.1, h2.1], fun i u e => ?_⟩
  by_cases c : i < es.length
  · rw [List.getElem?_append_left c] at e
    obtain ⟨b, e1, e2⟩ := h.2 i u e
    exact ⟨b, by rw [List.getElem?_append_left (by rw [h.1]; exact c)]; exact e1, e2⟩
  · rw [List.getElem?_append_right (by omega)] at e
    obtain ⟨b, e1, e2⟩ := h2.2 _ u e
    exact ⟨b, by rw [List.getElem?_append_right (by rw [h.1]; omega), h.1]; exact e1, e2⟩
theorem PPs.one {H : Hp} {a : Addr} {t : Int × Int} (ha : H a = some (.tup [.int t.1, .int t.2])) : PPs H [.ref a] [t] := by
  refine ⟨rfl, fun i u e => ?_⟩
  match i, e with
  | 0, e =>
    have eu : t = u := by simpa using e
    subst eu
    exact ⟨a, rfl, ha⟩
  | i + 1, e => simp at e
theorem PPs.nil {H : Hp} : PPs H [] [] := ⟨rfl, fun i t e => by simp at e⟩
/-! ### promises -/
section
def sp__late_gaps (K : PySem.W.Frag) : Sp := fun vs H Q E => ∃ (p r l o a : Addr) (s : Sd) (log : List Int) (op : Int), vs = [.ref p, .ref a, .int op] ∧ LinksAt K H p r l o s ∧ SqL K H a (log.map V.int) ∧ IsOp s.n op ∧ NewL H ((lateL s log op.natAbs).map V.int) Q
def sp__check_once (K : PySem.W.Frag) : Sp := fun vs H Q E => ∃ (a : Addr) (size : Int) (log : List Int), vs = [.int size, .ref a] ∧ SqL K H a (log.map V.int) ∧ log.length ≤ 1000 ∧ OnE K H size log E ∧ (SizeOk size → Leg (wholeS size.toNat) log → OnceA log → Any H .non Q)
def sp_late_writes (K : PySem.W.Frag) : Sp := fun vs H Q E => ∃ (a : Addr) (size : Int) (log : List Int), vs = [.int size, .ref a] ∧ SqL K H a (log.map V.int) ∧ log.length ≤ 1000 ∧ OnE K H size log E ∧
  (SizeOk size → Leg (wholeS size.toNat) log → OnceA log → ∀ xs q H', H q = none → Kp [] H H' → H' q = some (.lst xs) → PPs H' xs (lateW size.toNat log) → Q (.ref q) H')
def sp_is_complete (K : PySem.W.Frag) : Sp := fun vs H Q E => ∃ (a : Addr) (size : Int) (log : List Int), vs = [.int size, .ref a] ∧ SqL K H a (log.map V.int) ∧ log.length ≤ 1000 ∧ OnE K H size log E ∧
  (SizeOk size → Leg (wholeS size.toNat) log → OnceA log → Any H (.bl (decide (outN size.toNat (runS (wholeS size.toNat) log).O = []))) Q)
def sp__law_mixed (K : PySem.W.Frag) : Sp := fun vs H Q E => ∃ c t : Int, vs = [.int c, .int t] ∧ ∀ r, Q (.int r) H
def sp__law_box (K : PySem.W.Frag) : Sp := fun vs H Q E => ∃ (a : Addr) (ns : List Int), vs = [.ref a] ∧ SqL K H a (ns.map V.int) ∧ ns.length ≤ 63 ∧ ∀ b c H', H b = none → H c = none → Kp [] H H' → BoxI H' b c → Q (.ref b) H'
def sp__law_take (K : PySem.W.Frag) : Sp := fun vs H Q E => ∃ (b c : Addr) (many : Int), vs = [.ref b, .int many] ∧ 0 < many ∧ many < 2 ^ 30 ∧ BoxI H b c ∧ ∀ (d : Int) H', 0 ≤ d → d < many → Kp [b, c] H H' → BoxI H' b c → Q (.int d) H'
def sp22__law_size (K : PySem.W.Frag) : Sp := fun vs H Q E => ∃ b c : Addr, vs = [.ref b] ∧ BoxI H b c ∧ ∀ (n : Nat) H', n ≤ 60 → Kp [b, c] H H' → BoxI H' b c → Q (.int (n : Int)) H'
def sp__law_range (K : PySem.W.Frag) : Sp := fun vs H Q E => ∃ (b c : Addr) (n : Nat), vs = [.ref b, .int (n : Int)] ∧ n ≤ 60 ∧ BoxI H b c ∧ ∀ (lo hi : Int) q H', (1 ≤ lo ∧ hi ≤ n ∧ lo ≤ hi + 1) → H q = none → Kp [b, c] H H' → BoxI H' b c → H' q = some (.lst [.int lo, .int hi]) → Q (.ref q) H'
def sp__law_start (K : PySem.W.Frag) : Sp := fun vs H Q E => ∃ n : Nat, vs = [.int (n : Int)] ∧ n ≤ 60 ∧ ∀ w l r g H', H w = none → H l = none → H r = none → H g = none → Kp [] H H' → LB H' w l r g n [] → Q (.ref w) H'
def sp__law_late (K : PySem.W.Frag) : Sp := fun vs H Q E => ∃ (w l r g : Addr) (n v : Nat) (log : List Int), vs = [.ref w, .int (v : Int)] ∧ LB H w l r g n log ∧ 1 ≤ v ∧ v ≤ n ∧ NewL H ((lateL (runS (wholeS n) log) log v).map V.int) Q
def sp22__law_step (K : PySem.W.Frag) : Sp := fun vs H Q E => ∃ (w l r g : Addr) (n : Nat) (log : List Int) (op : Int), vs = [.ref w, .int op] ∧ LB H w l r g n log ∧ OkOp (runS (wholeS n) log) op ∧ (op < 0 → op ∉ log) ∧ ∀ H', Kp [l, r, g] H H' → LB H' w l r g n (log ++ [op]) → Q .non H'
def sp__law_pattern (K : PySem.W.Frag) : Sp := fun vs H Q E => ∃ (b c : Addr) (lo hi : Int), vs = [.ref b, .int lo, .int hi] ∧ (1 ≤ lo ∧ hi ≤ 60) ∧ BoxI H b c ∧ ∀ (ps : List Int) q H', (ps = [] ∨ ∃ x y : Int, ps = [x, y, x] ∧ lo ≤ x ∧ x ≤ hi ∧ lo ≤ y ∧ y ≤ hi ∧ x ≠ y) → H q = none → Kp [b, c] H H' → BoxI H' b c → H' q = some (.lst (ps.map V.int)) → Q (.ref q) H'
/-- a log that is legal and once-only -/
structure LgO (n : Nat) (ds : List Int) : Prop where
  ops : ∀ x ∈ ds, IsOp n x
  alt : Alt ds
  one : OnceA ds
  len : ds.length ≤ 120
def sp__law_integer (K : PySem.W.Frag) : Sp := fun vs H Q E => ∃ i : Int, vs = [.int i] ∧ Q (.bl true) H
def sp__law_row (K : PySem.W.Frag) : Sp := fun vs H Q E => ∃ (a b : Addr) (xs : List Int), vs = [.ref a, .ref b] ∧ xs.length ≤ 1000 ∧ H a = some (.lst (xs.map V.int)) ∧ H b = some (.lst (xs.map V.int)) ∧ Q (.bl true) H
end
end G
set_option Elab.async false
set_option linter.all false
set_option maxRecDepth 100000
set_option maxHeartbeats 4000000
/-! k23: the main fact about once-only logs: mathematics. -/
namespace G
open PySem PySem.Spec PyProof.Rows L2
theorem once_step {R L R' L' : Nat → Nat} {O K O' K' : Nat → Prop} {v g l r : Nat} {p : Prop}
  (el : L v = l) (er : R v = r) (hl : l < v) (hr : v < r) (hp : p ↔ O v) (hk : ¬ K v) (ok : O g → ¬ K g) (ok2 : O (g + 1) → ¬ K (g + 1))
  (r1 : ∀ u, u ≠ l → R' u = R u) (r2 : p → R' l = v) (r3 : ¬ p → R' l = r)
  (l1 : ∀ u, u ≠ r → L' u = L u) (l2 : p → L' r = v) (l3 : ¬ p → L' r = l)
  (o' : ∀ u, u ≠ v → (O' u ↔ O u)) (o1 : O' v ↔ ¬ p) (k' : ∀ u, u ≠ v → (K' u ↔ K u)) (k1 : K' v ↔ p)
  (late1 : ¬ (l = g ∧ g + 1 ≠ v ∧ K (g + 1))) (late2 : ¬ (r = g + 1 ∧ v ≠ g ∧ K g))
  (i1 : R g = g + 1 ∨ L (g + 1) = g) (i2 : L (g + 1) ≠ g → O g) (i3 : R g ≠ g + 1 → O (g + 1))
  (i4 : ¬ K (g + 1) → R g = g + 1 → ∀ y, g + 1 < y → L y ≠ g) (i5 : ¬ K g → L (g + 1) = g → ∀ y, y < g → R y ≠ g + 1) :
  (R' g = g + 1 ∨ L' (g + 1) = g) ∧ (L' (g + 1) ≠ g → O' g) ∧ (R' g ≠ g + 1 → O' (g + 1)) ∧
  (¬ K' (g + 1) → R' g = g + 1 → ∀ y, g + 1 < y → L' y ≠ g) ∧ (¬ K' g → L' (g + 1) = g → ∀ y, y < g → R' y ≠ g + 1) := by
  have a1 := r1 g
  have a2 := l1 (g + 1)
  have a3 := o' g
  have a4 := o' (g + 1)
  have a5 := k' g
  have a6 := k' (g + 1)
  have b4 := fun x y z => i4 x y v z
  have b5 := fun x y z => i5 x y v z
  have y4 : ¬ K' (g + 1) → R' g = g + 1 → ∀ y, g + 1 < y → L' y ≠ g := by
    intro h1 h2 y h3
    have c1 := l1 y
    have c2 := fun x z => i4 x z y h3
    clear r1 l1 o' k' i4 i5
    by_cases e : v = g + 1
    · subst e
      grind
    · by_cases e2 : v = g
      · subst e2
        grind
      · by_cases e3 : y = r
        · subst e3
          grind
        · grind
  have y5 : ¬ K' g → L' (g + 1) = g → ∀ y, y < g → R' y ≠ g + 1 := by
    intro h1 h2 y h3
    have c1 := r1 y
    have c2 := fun x z => i5 x z y h3
    clear r1 l1 o' k' i4 i5 y4
    by_cases e : v = g + 1
    · subst e
      grind
    · by_cases e2 : v = g
      · subst e2
        grind
      · by_cases e3 : y = l
        · subst e3
          grind
        · grind
  refine ⟨?_, ?_, ?_, y4, y5⟩
  all_goals
    clear r1 l1 o' k' i4 i5 y4 y5
    by_cases e : v = g + 1
    · subst e
      grind
    · by_cases e2 : v = g
      · subst e2
        grind
      · grind
theorem late_step {R L R' L' : Nat → Nat} {K K' : Nat → Prop} {v g l r : Nat} {p : Prop}
  (el : L v = l) (er : R v = r) (hl : l < v) (hr : v < r) (hk : ¬ K v)
  (r1 : ∀ u, u ≠ l → R' u = R u) (r2 : p → R' l = v) (r3 : ¬ p → R' l = r)
  (l1 : ∀ u, u ≠ r → L' u = L u) (l2 : p → L' r = v) (l3 : ¬ p → L' r = l)
  (k' : ∀ u, u ≠ v → (K' u ↔ K u))
  (h : (K (g + 1) ∧ R g ≠ g + 1) ∨ (K g ∧ L (g + 1) ≠ g) ∨ (l = g ∧ g + 1 ≠ v ∧ K (g + 1)) ∨ (r = g + 1 ∧ v ≠ g ∧ K g)) :
  (K' (g + 1) ∧ R' g ≠ g + 1) ∨ (K' g ∧ L' (g + 1) ≠ g) := by
  have a1 := r1 g
  have a2 := l1 (g + 1)
  have a5 := k' g
  have a6 := k' (g + 1)
  clear r1 l1 k'
  by_cases e : v = g + 1
  · subst e
    grind
  · by_cases e2 : v = g
    · subst e2
      grind
    · by_cases q : p <;> grind
/-- the links as functions, itself where none is -/
def fR (s : Sd) (u : Nat) : Nat := if u ≤ s.n then (gI s.R u).toNat else u
def fL (s : Sd) (u : Nat) : Nat := if 1 ≤ u ∧ u ≤ s.n + 1 then (gI s.L u).toNat else u
theorem fR_in {s : Sd} (w : Wf s) {u : Nat} (h : u ≤ s.n) : gI s.R u = (fR s u : Int) ∧ u < fR s u ∧ fR s u ≤ s.n + 1 := by
  have := w.rb u h
  unfold fR
  rw [if_pos h]
  omega
theorem fL_in {s : Sd} (w : Wf s) {u : Nat} (h1 : 1 ≤ u) (h2 : u ≤ s.n + 1) : gI s.L u = (fL s u : Int) ∧ fL s u < u := by
  have := w.lb u h1 h2
  unfold fL
  rw [if_pos ⟨h1, h2⟩]
  omega
theorem f_step {s : Sd} (w : Wf s) {op : Int} (h : IsOp s.n op) :
    (∀ u, u ≠ fL s op.natAbs → fR (stepS s op) u = fR s u) ∧ (0 < op → fR (stepS s op) (fL s op.natAbs) = op.natAbs) ∧ (¬ 0 < op → fR (stepS s op) (fL s op.natAbs) = fR s op.natAbs) ∧
    (∀ u, u ≠ fR s op.natAbs → fL (stepS s op) u = fL s u) ∧ (0 < op → fL (stepS s op) (fR s op.natAbs) = op.natAbs) ∧ (¬ 0 < op → fL (stepS s op) (fR s op.natAbs) = fL s op.natAbs) := by
  obtain ⟨h1, h2⟩ := h
  obtain ⟨l1, l2⟩ := fL_in w h1 (by omega)
  obtain ⟨r1, r2, r3⟩ := fR_in w h2
  have st := fun u => step_gI w ⟨h1, h2⟩ u
  rw [l1, r1, Int.toNat_natCast, Int.toNat_natCast] at st
  have en : (stepS s op).n = s.n := rfl
  refine ⟨fun u hu => ?_, fun p => ?_, fun p => ?_, fun u hu => ?_, fun p => ?_, fun p => ?_⟩
  · unfold fR
    rw [en, (st u).1, if_neg hu]
  · show (if fL s op.natAbs ≤ (stepS s op).n then (gI (stepS s op).R (fL s op.natAbs)).toNat else _) = _
    rw [en, if_pos (by omega), (st _).1, if_pos rfl, if_neg (by omega)]
    omega
  · show (if fL s op.natAbs ≤ (stepS s op).n then (gI (stepS s op).R (fL s op.natAbs)).toNat else _) = _
    rw [en, if_pos (by omega), (st _).1, if_pos rfl, if_pos (by omega)]
    omega
  · unfold fL
    rw [en, (st u).2, if_neg hu]
  · show (if 1 ≤ fR s op.natAbs ∧ fR s op.natAbs ≤ (stepS s op).n + 1 then (gI (stepS s op).L (fR s op.natAbs)).toNat else _) = _
    rw [en, if_pos ⟨by omega, by omega⟩, (st _).2, if_pos rfl, if_neg (by omega)]
    omega
  · show (if 1 ≤ fR s op.natAbs ∧ fR s op.natAbs ≤ (stepS s op).n + 1 then (gI (stepS s op).L (fR s op.natAbs)).toNat else _) = _
    rw [en, if_pos ⟨by omega, by omega⟩, (st _).2, if_pos rfl, if_pos (by omega)]
    omega
abbrev oF (log : List Int) (u : Nat) : Prop := stgF log u = 1
abbrev kF (log : List Int) (u : Nat) : Prop := stgF log u = 2
structure GapI (s : Sd) (log : List Int) (g : Nat) : Prop where
  i1 : fR s g = g + 1 ∨ fL s (g + 1) = g
  i2 : fL s (g + 1) ≠ g → oF log g
  i3 : fR s g ≠ g + 1 → oF log (g + 1)
  i4 : ¬ kF log (g + 1) → fR s g = g + 1 → ∀ y, g + 1 < y → fL s y ≠ g
  i5 : ¬ kF log g → fL s (g + 1) = g → ∀ y, y < g → fR s y ≠ g + 1
def GapB (s : Sd) (log : List Int) (g : Nat) : Prop := (kF log (g + 1) ∧ fR s g ≠ g + 1) ∨ (kF log g ∧ fL s (g + 1) ≠ g)
theorem leg_of_snoc {s : Sd} {log : List Int} {op : Int} (h : Leg s (log ++ [op])) : Leg s log ∧ OkOp (runS s log) op := by
  refine ⟨fun i x hi => ?_, ?_⟩
  · have hl := (List.getElem?_eq_some_iff.mp hi).1
    have := h i x (by rw [List.getElem?_append_left hl]; exact hi)
    rwa [List.take_append_of_le_length (by omega)] at this
  · have := h log.length op (by simp)
    rwa [List.take_left' rfl] at this
/-- the late write of an operation at a gap -/
theorem late_mem {s : Sd} (w : Wf s) {log : List Int} (a : Alt log) (o : OnceA log) {v g : Nat} (h1 : 1 ≤ v) (h2 : v ≤ s.n) :
    (g : Int) ∈ lateL s log v ↔ (fL s v = g ∧ g + 1 ≠ v ∧ kF log (g + 1)) ∨ (fR s v = g + 1 ∧ v ≠ g ∧ kF log g) := by
  obtain ⟨l1, l2⟩ := fL_in w h1 (by omega)
  obtain ⟨r1, r2, r3⟩ := fR_in w h2
  have bk : ∀ u : Nat, 1 ≤ u → ((u : Int) ∈ log ↔ kF log u) := fun u hu => by
    have I := nodeI a o u hu
    have := stgF_le log u
    constructor
    · intro z
      rcases (show stgF log u = 0 ∨ stgF log u = 1 ∨ stgF log u = 2 by omega) with e | e | e
      · exact absurd z (I.s0 e).1
      · exact absurd z (I.s1 e).1
      · exact e
    · intro z
      exact (I.s2 z).1
  unfold lateL
  rw [List.mem_append, l1, r1]
  constructor
  · rintro (z | z)
    · split at z
      · rename_i c
        have e := List.mem_singleton.mp z
        have : fL s v = g := by omega
        refine .inl ⟨this, by omega, (bk (g + 1) (by omega)).mp ?_⟩
        have c2 := c.2
        rwa [this] at c2
      · cases z
    · split at z
      · rename_i c
        have e := List.mem_singleton.mp z
        have : fR s v = g + 1 := by omega
        refine .inr ⟨this, by omega, (bk g (by omega)).mp ?_⟩
        have c2 := c.2
        rwa [this, show (((g + 1 : Nat) : Int)) - 1 = (g : Int) by omega] at c2
      · cases z
  · rintro (⟨e1, e2, e3⟩ | ⟨e1, e2, e3⟩)
    · refine .inl ?_
      rw [if_pos ⟨by omega, by rw [e1]; exact (bk (g + 1) (by omega)).mpr e3⟩, e1]
      exact List.mem_singleton.mpr rfl
    · refine .inr ?_
      rw [if_pos ⟨by omega, by rw [e1, show (((g + 1 : Nat) : Int)) - 1 = (g : Int) by omega]; exact (bk g (by omega)).mpr e3⟩, e1]
      exact List.mem_singleton.mpr (by omega)
def LateG (n : Nat) (log : List Int) (g : Nat) : Prop := ∃ i op, log[i]? = some op ∧ (g : Int) ∈ lateL (runS (wholeS n) (log.take i)) (log.take i) op.natAbs
theorem lateG_snoc {n : Nat} {log : List Int} {op : Int} {g : Nat} : LateG n (log ++ [op]) g ↔ LateG n log g ∨ (g : Int) ∈ lateL (runS (wholeS n) log) log op.natAbs := by
  constructor
  · rintro ⟨i, x, hi, h⟩
    by_cases c : i < log.length
    · rw [List.getElem?_append_left c] at hi
      rw [List.take_append_of_le_length (by omega)] at h
      exact .inl ⟨i, x, hi, h⟩
    · have hl := (List.getElem?_eq_some_iff.mp hi).1
      rw [List.length_append] at hl
      have ei : i = log.length := by simp at hl; omega
      subst ei
      rw [List.getElem?_append_right (Nat.le_refl _), Nat.sub_self] at hi
      have e : op = x := by simpa using hi
      subst e
      rw [List.take_left' rfl] at h
      exact .inr h
  · rintro (⟨i, x, hi, h⟩ | h)
    · have hl := (List.getElem?_eq_some_iff.mp hi).1
      exact ⟨i, x, by rw [List.getElem?_append_left hl]; exact hi, by rw [List.take_append_of_le_length (by omega)]; exact h⟩
    · exact ⟨log.length, op, by simp, by rw [List.take_left' rfl]; exact h⟩
theorem whole_links {n u : Nat} (h : u ≤ n) : gI (wholeS n).R u = (u : Int) + 1 ∧ gI (wholeS n).L (u + 1) = (u : Int) := by
  constructor
  · show gI (rgI 1 (n + 1)) u = _
    rw [gI_range (by omega)]
    omega
  · show gI (rgI 0 (n + 1)) u = _
    rw [gI_range (by omega)]
    omega
theorem whole_f (n : Nat) : (∀ u, u ≤ n → fR (wholeS n) u = u + 1) ∧ (∀ u, u + 1 ≤ n + 1 → fL (wholeS n) (u + 1) = u) := by
  constructor
  · intro u hu
    unfold fR
    rw [if_pos (show u ≤ (wholeS n).n from hu), (whole_links hu).1]
    omega
  · intro u hu
    unfold fL
    rw [if_pos (show 1 ≤ u + 1 ∧ u + 1 ≤ (wholeS n).n + 1 from ⟨by omega, hu⟩), (whole_links (show u ≤ n by omega)).2]
    omega
theorem gap_start {n g : Nat} (hg : g ≤ n) : GapI (wholeS n) [] g := by
  obtain ⟨a, b⟩ := whole_f n
  refine ⟨.inl (a g hg), fun z => absurd (b g (by omega)) z, fun z => absurd (a g hg) z, fun _ _ y hy z => ?_, fun _ _ y hy z => ?_⟩
  · by_cases c : y ≤ n + 1
    · obtain ⟨x, rfl⟩ : ∃ x, y = x + 1 := ⟨y - 1, by omega⟩
      rw [b x c] at z
      omega
    · unfold fL at z
      rw [if_neg (show ¬ (1 ≤ y ∧ y ≤ (wholeS n).n + 1) from fun q => c q.2)] at z
      omega
  · rw [a y (by omega)] at z
    omega
theorem gap_main {n : Nat} (hn : n ≤ 60) : ∀ {log : List Int}, Leg (wholeS n) log → Alt log → OnceA log → ∀ g, g ≤ n → (¬ LateG n log g → GapI (runS (wholeS n) log) log g) ∧ (LateG n log g → GapB (runS (wholeS n) log) log g) := by
  intro log
  induction log using snoc_ind with
  | h0 => exact fun _ _ _ g hg => ⟨fun _ => gap_start hg, fun ⟨i, op, h, _⟩ => by simp at h⟩
  | h1 l x ih =>
    intro hL ha ho g hg
    obtain ⟨L1, L2⟩ := leg_of_snoc hL
    obtain ⟨a1, a2⟩ := ha.of_snoc
    obtain ⟨o1, o2⟩ := ho.of_snoc
    obtain ⟨I1, I2⟩ := ih L1 a1 o1 g hg
    have w : Wf (runS (wholeS n) l) := Leg.wf (Wf.whole hn) L1
    have en : (runS (wholeS n) l).n = n := runS_n _ _
    rw [runS_snoc, lateG_snoc]
    obtain ⟨op1, op2⟩ := L2
    generalize runS (wholeS n) l = s at I1 I2 w en op1 op2 ⊢
    have v1 := op1.1
    have v2 := op1.2
    rw [late_mem w a1 o1 v1 v2]
    obtain ⟨r1, r2, r3, l1, l2, l3⟩ := f_step w op1
    obtain ⟨q1, q2⟩ := fL_in w v1 (by omega)
    obtain ⟨q3, q4, q5⟩ := fR_in w v2
    rw [stg_out] at a2
    have N := nodeI a1 o1 x.natAbs v1
    have kv : ¬ kF l x.natAbs := fun z => by
      have z' : stgF l x.natAbs = 2 := z
      by_cases p : 0 < x
      · rw [z', decide_eq_true p] at a2
        exact absurd (of_decide_eq_true a2) (by decide)
      · exact o2 (by omega) (by have := (N.s2 z').2; rwa [show -(x.natAbs : Int) = x by omega] at this)
    have pO : 0 < x ↔ oF l x.natAbs := by
      constructor
      · intro p
        rw [decide_eq_true p] at a2
        exact of_decide_eq_true a2
      · intro p
        rw [decide_eq_true (show stgF l x.natAbs = 1 from p)] at a2
        exact of_decide_eq_true a2.symm
    have so : ∀ u, u ≠ x.natAbs → stgF (l ++ [x]) u = stgF l u := fun u hu => by rw [stgF_snoc, if_neg (fun z => hu z.symm)]
    have sv : stgF (l ++ [x]) x.natAbs = if x < 0 then 1 else 2 := by rw [stgF_snoc, if_pos rfl]
    have oo : ∀ u, u ≠ x.natAbs → (oF (l ++ [x]) u ↔ oF l u) := fun u hu => by unfold oF; rw [so u hu]
    have ko : ∀ u, u ≠ x.natAbs → (kF (l ++ [x]) u ↔ kF l u) := fun u hu => by unfold kF; rw [so u hu]
    have ov : oF (l ++ [x]) x.natAbs ↔ ¬ 0 < x := by
      unfold oF
      rw [sv]
      split <;> omega
    have kk : kF (l ++ [x]) x.natAbs ↔ 0 < x := by
      unfold kF
      rw [sv]
      split <;> omega
    have ok : ∀ u, oF l u → ¬ kF l u := fun u (h1 : stgF l u = 1) (h2 : stgF l u = 2) => by omega
    constructor
    · intro hn
      have G := I1 fun z => hn (.inl z)
      obtain ⟨t1, t2, t3, t4, t5⟩ := once_step (R := fR s) (L := fL s) (R' := fR (stepS s x)) (L' := fL (stepS s x)) (O := oF l) (K := kF l) (O' := oF (l ++ [x])) (K' := kF (l ++ [x])) (v := x.natAbs) (g := g) (l := fL s x.natAbs) (r := fR s x.natAbs) (p := 0 < x)
        rfl rfl q2 q4 pO kv (ok g) (ok (g + 1)) r1 r2 r3 l1 l2 l3 oo ov ko kk (fun z => hn (.inr (.inl z))) (fun z => hn (.inr (.inr z))) G.i1 G.i2 G.i3 G.i4 G.i5
      exact ⟨t1, t2, t3, t4, t5⟩
    · intro h
      refine late_step (R := fR s) (L := fL s) (R' := fR (stepS s x)) (L' := fL (stepS s x)) (K := kF l) (K' := kF (l ++ [x])) (v := x.natAbs) (g := g) (l := fL s x.natAbs) (r := fR s x.natAbs) (p := 0 < x) rfl rfl q2 q4 kv r1 r2 r3 l1 l2 l3 ko ?_
      rcases h with h | h | h
      · rcases I2 h with y | y
        · exact .inl y
        · exact .inr (.inl y)
      · exact .inr (.inr (.inl h))
      · exact .inr (.inr (.inr h))
/-! ### what follows -/
theorem nl_ofF {s : Sd} (h : ∀ g : Nat, g ≤ s.n → gI s.R g = (g : Int) + 1 ∨ gI s.L (g + 1) = (g : Int)) : lostL s = [] := lost_nil.mpr fun g hg z => by
  obtain ⟨a, b⟩ := stT_lost2.mp z
  rcases h g hg with c | c
  · exact a c
  · exact b c
theorem joined_f {s : Sd} (w : Wf s) {g : Nat} (hg : g ≤ s.n) : stT s g = "joined" ↔ fR s g = g + 1 ∧ fL s (g + 1) = g := by
  rw [stT_joined, (fR_in w hg).1, (fL_in w (u := g + 1) (by omega) (by omega)).1]
  constructor
  · rintro ⟨a, b⟩
    exact ⟨by omega, by omega⟩
  · rintro ⟨a, b⟩
    exact ⟨by omega, by omega⟩
/-- after a complete once-only log: joined exactly if no late write is there -/
theorem once_joined {n : Nat} (hn : n ≤ 60) {log : List Int} (hL : Leg (wholeS n) log) (ha : Alt log) (ho : OnceA log) (hc : ∀ v, stgF log v ≠ 1) {g : Nat} (hg : g ≤ n) : stT (runS (wholeS n) log) g = "joined" ↔ ¬ LateG n log g := by
  have w : Wf (runS (wholeS n) log) := Leg.wf (Wf.whole hn) hL
  have en : (runS (wholeS n) log).n = n := runS_n _ _
  obtain ⟨I1, I2⟩ := gap_main hn hL ha ho g hg
  rw [joined_f w (by omega)]
  constructor
  · rintro ⟨a, b⟩ h
    rcases I2 h with ⟨_, z⟩ | ⟨_, z⟩
    · exact z a
    · exact z b
  · intro h
    have G := I1 h
    refine ⟨?_, ?_⟩
    · by_cases c : fR (runS (wholeS n) log) g = g + 1
      · exact c
      · exact absurd (G.i3 c) (hc _)
    · by_cases c : fL (runS (wholeS n) log) (g + 1) = g
      · exact c
      · exact absurd (G.i2 c) (hc _)
/-- without late writes nothing is lost, every sole holder is out -/
theorem once_calm {n : Nat} (hn : n ≤ 60) {log : List Int} (hL : Leg (wholeS n) log) (ha : Alt log) (ho : OnceA log) (hl : ∀ g, g ≤ n → ¬ LateG n log g) :
    lostL (runS (wholeS n) log) = [] ∧ ∀ v : Nat, 1 ≤ v → v ≤ n → soleB (runS (wholeS n) log) v = true → stgF log v = 1 := by
  have w : Wf (runS (wholeS n) log) := Leg.wf (Wf.whole hn) hL
  have en : (runS (wholeS n) log).n = n := runS_n _ _
  have G := fun g hg => (gap_main hn hL ha ho g hg).1 (hl g hg)
  constructor
  · refine nl_ofF fun g hg => ?_
    have hg : g ≤ n := by omega
    rcases (G g hg).i1 with h | h
    · exact .inl (by rw [(fR_in w (by omega)).1, h]; omega)
    · exact .inr (by rw [(fL_in w (u := g + 1) (by omega) (by omega)).1, h])
  · intro v h1 h2 h3
    rcases sole_iff.mp h3 with c | c
    · obtain ⟨_, b⟩ := stT_left.mp c
      refine (G v h2).i2 fun z => b ?_
      rw [(fL_in w (u := v + 1) (by omega) (by omega)).1, z]
    · obtain ⟨a, _⟩ := stT_right.mp c
      have := (G (v - 1) (by omega)).i3 fun z => a (by rw [(fR_in w (u := v - 1) (by omega)).1, z]; omega)
      rwa [show v - 1 + 1 = v by omega] at this
end G
set_option Elab.async false
set_option linter.all false
set_option maxRecDepth 100000
set_option maxHeartbeats 4000000
/-! k23: promises. -/
namespace G
open PySem PySem.Spec PyProof.Rows L2
/-- no late write in the log at all; all that act are back -/
def Calm (n : Nat) (log : List Int) : Prop := ∀ g, g ≤ n → ¬ LateG n log g
def AllBk (log : List Int) : Prop := ∀ v, stgF log v ≠ 1
/-- the gaps that late writes fall on, marked -/
def markB (es : List (Int × Int)) (g : Nat) : Bool := es.any fun e => decide (e.2 = (g : Int))
def soleN (s : Sd) : List Int := aloneL s
section
def sp23_Links___eq__ (K : PySem.W.Frag) : Sp := fun vs H Q E => ∃ (p r l o p2 r2 l2 o2 : Addr) (s t : Sd), vs = [.ref p, .ref p2] ∧ LinksAt K H p r l o s ∧ LinksAt K H p2 r2 l2 o2 t ∧ Q (.bl (decide (s.R = t.R) && (decide (s.L = t.L) && decide (s.O = t.O)))) H
def sp23_Links_is_whole (K : PySem.W.Frag) : Sp := fun vs H Q E => ∃ (p r l o : Addr) (s : Sd), vs = [.ref p] ∧ LinksAt K H p r l o s ∧ Any H (.bl (decide (s.R = (wholeS s.n).R) && (decide (s.L = (wholeS s.n).L) && decide (s.O = (wholeS s.n).O)))) Q
def sp23__law_log (K : PySem.W.Frag) : Sp := fun vs H Q E => ∃ (b c : Addr) (n : Nat), vs = [.ref b, .int (n : Int)] ∧ n ≤ 60 ∧ BoxI H b c ∧ ∀ (ds : List Int) q H', LgO n ds → AllBk ds → H q = none → Kp [b, c] H H' → BoxI H' b c → H' q = some (.lst (ds.map V.int)) → Q (.ref q) H'
def sp23__law_first_late (K : PySem.W.Frag) : Sp := fun vs H Q E => ∃ (a : Addr) (n : Nat) (log : List Int), vs = [.int (n : Int), .ref a] ∧ n ≤ 60 ∧ H a = some (.lst (log.map V.int)) ∧ LgO n log ∧ ∀ (k : Nat) H', k ≤ log.length → Calm n (log.take k) → Kp [] H H' → Q (.int (k : Int)) H'
def sp23__law_after (K : PySem.W.Frag) : Sp := fun vs H Q E => ∃ (a : Addr) (n : Nat) (log : List Int), vs = [.int (n : Int), .ref a] ∧ n ≤ 60 ∧ H a = some (.lst (log.map V.int)) ∧ LgO n log ∧ ∀ w l r g H', H w = none → H l = none → H r = none → H g = none → Kp [] H H' → LB H' w l r g n log → Q (.ref w) H'
def sp23__law_states (K : PySem.W.Frag) : Sp := fun vs H Q E => ∃ (w l r g : Addr) (n : Nat) (log : List Int), vs = [.int (n : Int), .ref w] ∧ n ≤ 60 ∧ LB H w l r g n log ∧ NewL H ((List.range (n + 1)).map fun (v : Nat) => V.str (stT (runS (wholeS n) log) v)) Q
def sp23__law_texts (K : PySem.W.Frag) : Sp := fun vs H Q E => ∃ (a b : Addr) (xs : List Str), vs = [.ref a, .ref b] ∧ xs.length ≤ 1000 ∧ H a = some (.lst (xs.map V.str)) ∧ H b = some (.lst (xs.map V.str)) ∧ Q (.bl true) H
def sp23__law_is_pair (K : PySem.W.Frag) : Sp := fun vs H Q E => ∃ (t : Addr) (i g many n : Int), vs = [.ref t, .int many, .int n] ∧ H t = some (.tup [.int i, .int g]) ∧ 0 ≤ i ∧ i < many ∧ 0 ≤ g ∧ g ≤ n ∧ Q (.bl true) H
def sp23__law_told_gaps (K : PySem.W.Frag) : Sp := fun vs H Q E => ∃ (a : Addr) (xs : List V) (es : List (Int × Int)) (many n : Nat), vs = [.ref a, .int (many : Int), .int (n : Int)] ∧ n ≤ 60 ∧ es.length ≤ 1000 ∧ H a = some (.lst xs) ∧ PPs H xs es ∧ (∀ e ∈ es, 0 ≤ e.1 ∧ e.1 < many ∧ 0 ≤ e.2 ∧ e.2 ≤ n) ∧
  es.Pairwise (fun d e => d.1 < e.1 ∨ (d.1 = e.1 ∧ d.2 < e.2)) ∧ NewL H (((List.range (n + 1)).map fun g => markB es g).map V.bl) Q
def sp23__law_complete (K : PySem.W.Frag) : Sp := fun vs H Q E => ∃ (a : Addr) (n : Nat) (log : List Int), vs = [.int (n : Int), .ref a] ∧ n ≤ 60 ∧ H a = some (.lst (log.map V.int)) ∧ LgO n log ∧ AllBk log ∧ Any H (.bl true) Q
def sp23__law_holders (K : PySem.W.Frag) : Sp := fun vs H Q E => ∃ (a : Addr) (n : Nat) (s : Sd), vs = [.int (n : Int), .ref a] ∧ n ≤ 60 ∧ s.n = n ∧ H a = some (.lst ((List.range (n + 1)).map fun (v : Nat) => V.str (stT s v))) ∧ NewL H ((soleN s).map V.int) Q
def sp23__law_calm (K : PySem.W.Frag) : Sp := fun vs H Q E => ∃ (a : Addr) (n : Nat) (log : List Int), vs = [.int (n : Int), .ref a] ∧ n ≤ 60 ∧ H a = some (.lst (log.map V.int)) ∧ LgO n log ∧ Calm n log ∧ Any H (.bl true) Q
end
end G
set_option Elab.async false
set_option linter.all false
set_option maxRecDepth 100000
set_option maxHeartbeats 4000000
/-! k23: whole lists, late writes as pairs, debts. -/
namespace G
open PySem PySem.Spec PyProof.Rows L2
def wholeB (s : Sd) : Bool := decide (s.R = (wholeS s.n).R) && (decide (s.L = (wholeS s.n).L) && decide (s.O = (wholeS s.n).O))
theorem gB_rep (m v : Nat) : gB (List.replicate m false) v = false := by
  unfold gB
  rw [List.getD_eq_getElem?_getD]
  by_cases h : v < m
  · rw [List.getElem?_replicate_of_lt h] <;> rfl
  · rw [List.getElem?_eq_none (by rw [List.length_replicate]; omega)] <;> rfl
theorem whB_joined {s : Sd} (h : wholeB s = true) {g : Nat} (hg : g ≤ s.n) : stT s g = "joined" := by
  unfold wholeB at h
  rw [Bool.and_eq_true, Bool.and_eq_true, decide_eq_true_iff, decide_eq_true_iff, decide_eq_true_iff] at h
  obtain ⟨a, b, _⟩ := h
  rw [stT_joined, a, b]
  exact whole_links hg
theorem joined_whB {s : Sd} (w : Wf s) (d : Snd s) (hj : ∀ g, g ≤ s.n → stT s g = "joined") (ho : ∀ v, gB s.O v = false) : wholeB s = true := by
  have e : s = wholeS s.n := by
    refine sd_ext w (Wf.whole w.n60) d (wholeS_snd _) rfl (fun v hv => ?_) (fun v h1 h2 => ?_) fun v hv => ?_
    · rw [(stT_joined.mp (hj v hv)).1, (whole_links hv).1]
    · obtain ⟨u, rfl⟩ : ∃ u, v = u + 1 := ⟨v - 1, by omega⟩
      rw [(stT_joined.mp (hj u (by omega))).2, (whole_links (show u ≤ s.n by omega)).2]
    · rw [ho v]
      exact (gB_rep _ _).symm
  have e1 := congrArg Sd.R e
  have e2 := congrArg Sd.L e
  have e3 := congrArg Sd.O e
  unfold wholeB
  rw [decide_eq_true e1, decide_eq_true e2, decide_eq_true e3] <;> rfl
theorem once_whole {n : Nat} (hn : n ≤ 60) {log : List Int} (lo : LgO n log) (bk : AllBk log) : wholeB (runS (wholeS n) log) = true ↔ Calm n log := by
  have hL : Leg (wholeS n) log := leg_of hn lo.ops lo.alt
  have en : (runS (wholeS n) log).n = n := runS_n _ _
  constructor
  · intro h g hg
    exact (once_joined hn hL lo.alt lo.one bk hg).mp (whB_joined h (by omega))
  · intro h
    refine joined_whB (Leg.wf (Wf.whole hn) hL) (runS_snd (Wf.whole hn) (wholeS_snd n) hL) (fun g hg => (once_joined hn hL lo.alt lo.one bk (by omega)).mpr (h g (by omega))) fun v => ?_
    rw [run_out hn log lo.ops v, stg_out, decide_eq_false (bk v)]
theorem lateL_in {s : Sd} (w : Wf s) {e : List Int} {x : Nat} (h1 : 1 ≤ x) (h2 : x ≤ s.n) {g : Int} (h : g ∈ lateL s e x) : 0 ≤ g ∧ g ≤ s.n := by
  have a := w.rb x h2
  have b := w.lb x h1 (by omega)
  unfold lateL at h
  rcases List.mem_append.mp h with z | z
  · split at z
    · have := List.mem_singleton.mp z
      omega
    · cases z
  · split at z
    · have := List.mem_singleton.mp z
      omega
    · cases z
theorem lateL_up {s : Sd} (w : Wf s) {e : List Int} {x : Nat} (h1 : 1 ≤ x) (h2 : x ≤ s.n) : (lateL s e x).Pairwise (· < ·) := by
  have a := w.rb x h2
  have b := w.lb x h1 (by omega)
  unfold lateL
  split <;> split <;> simp
  omega
theorem mem_lateAt {n : Nat} {log : List Int} {i : Nat} {op : Int} {e : Int × Int} : e ∈ lateAt n log i op ↔ e.1 = (i : Int) ∧ e.2 ∈ lateL (runS (wholeS n) (log.take i)) (log.take i) op.natAbs := by
  unfold lateAt
  rw [List.mem_map]
  constructor
  · rintro ⟨g, h, rfl⟩
    exact ⟨rfl, h⟩
  · rintro ⟨h1, h2⟩
    exact ⟨e.2, h2, by rw [← h1]⟩
theorem mem_lateW {n : Nat} {log : List Int} {e : Int × Int} : e ∈ lateW n log ↔ ∃ (i : Nat) (op : Int), log[i]? = some op ∧ e.1 = (i : Int) ∧ e.2 ∈ lateL (runS (wholeS n) (log.take i)) (log.take i) op.natAbs := by
  unfold lateW
  rw [List.mem_flatten]
  constructor
  · rintro ⟨l, hl, he⟩
    obtain ⟨i, hi, rfl⟩ := List.mem_map.mp hl
    have hi := List.mem_range.mp hi
    obtain ⟨h1, h2⟩ := mem_lateAt.mp he
    exact ⟨i, gI log i, gI_at hi, h1, h2⟩
  · rintro ⟨i, op, hi, h1, h2⟩
    have li := (List.getElem?_eq_some_iff.mp hi).1
    exact ⟨_, List.mem_map.mpr ⟨i, List.mem_range.mpr li, rfl⟩, mem_lateAt.mpr ⟨h1, by rw [gI_of hi]; exact h2⟩⟩
theorem markB_iff {n : Nat} {log : List Int} {g : Nat} : markB (lateW n log) g = true ↔ LateG n log g := by
  unfold markB LateG
  rw [List.any_eq_true]
  constructor
  · rintro ⟨e, he, z⟩
    obtain ⟨i, op, hi, _, h2⟩ := mem_lateW.mp he
    exact ⟨i, op, hi, by rw [← of_decide_eq_true z]; exact h2⟩
  · rintro ⟨i, op, hi, h⟩
    exact ⟨((i : Int), (g : Int)), mem_lateW.mpr ⟨i, op, hi, rfl, h⟩, decide_eq_true rfl⟩
theorem lateW_bd {n : Nat} (hn : n ≤ 60) {log : List Int} (lo : LgO n log) : ∀ e ∈ lateW n log, 0 ≤ e.1 ∧ e.1 < (log.length : Int) ∧ 0 ≤ e.2 ∧ e.2 ≤ n := by
  intro e he
  obtain ⟨i, op, hi, h1, h2⟩ := mem_lateW.mp he
  have li := (List.getElem?_eq_some_iff.mp hi).1
  have leg : Leg (wholeS n) log := leg_of hn lo.ops lo.alt
  have w : Wf (runS (wholeS n) (log.take i)) := Leg.wf (Wf.whole hn) (leg.take i)
  have en : (runS (wholeS n) (log.take i)).n = n := runS_n _ _
  have io := lo.ops op (List.mem_of_getElem? hi)
  have := lateL_in w io.1 (by rw [en]; exact io.2) h2
  rw [en] at this
  omega
theorem lateW_up {n : Nat} (hn : n ≤ 60) {log : List Int} (lo : LgO n log) : (lateW n log).Pairwise (fun d e => d.1 < e.1 ∨ (d.1 = e.1 ∧ d.2 < e.2)) := by
  have leg : Leg (wholeS n) log := leg_of hn lo.ops lo.alt
  unfold lateW
  rw [List.pairwise_flatten]
  constructor
  · intro l hl
    obtain ⟨i, hi, rfl⟩ := List.mem_map.mp hl
    have hi := List.mem_range.mp hi
    have w : Wf (runS (wholeS n) (log.take i)) := Leg.wf (Wf.whole hn) (leg.take i)
    have en : (runS (wholeS n) (log.take i)).n = n := runS_n _ _
    have io := lo.ops (gI log i) (List.mem_of_getElem? (gI_at hi))
    unfold lateAt
    rw [List.pairwise_map]
    exact (lateL_up w io.1 (by rw [en]; exact io.2)).imp fun h => .inr ⟨rfl, h⟩
  · rw [List.pairwise_map]
    refine List.pairwise_lt_range.imp fun {i j} h x hx y hy => ?_
    have h1 := (mem_lateAt.mp hx).1
    have h2 := (mem_lateAt.mp hy).1
    exact .inl (by omega)
theorem calm_nil {n : Nat} (hn : n ≤ 60) {log : List Int} (lo : LgO n log) (c : Calm n log) : lateW n log = [] := by
  match h : lateW n log with
  | [] => rfl
  | e :: r =>
    exfalso
    have he : e ∈ lateW n log := by rw [h]; simp
    have b := lateW_bd hn lo e he
    refine c e.2.toNat (by omega) ?_
    obtain ⟨i, op, hi, _, h2⟩ := mem_lateW.mp he
    exact ⟨i, op, hi, by rw [show ((e.2.toNat : Nat) : Int) = e.2 by omega]; exact h2⟩
theorem calm_owed {n : Nat} (hn : n ≤ 60) {log : List Int} (lo : LgO n log) (c : Calm n log) :
    lostL (runS (wholeS n) log) = [] ∧ owedS (runS (wholeS n) log) = ((outN n (runS (wholeS n) log).O).length : Int) ∧ ∀ x ∈ aloneL (runS (wholeS n) log), x ∈ outN n (runS (wholeS n) log).O := by
  have leg : Leg (wholeS n) log := leg_of hn lo.ops lo.alt
  have en : (runS (wholeS n) log).n = n := runS_n _ _
  have og : ∀ v, gB (runS (wholeS n) log).O v = decide (stgF log v = 1) := fun v => by rw [run_out hn log lo.ops v, stg_out]
  obtain ⟨a, b⟩ := once_calm hn leg lo.alt lo.one c
  generalize runS (wholeS n) log = s at *
  have db : ∀ v ∈ (List.range s.n).map fun (v : Nat) => v + 1, dueB s v = gB s.O v := by
    intro v hv
    obtain ⟨u, hu, rfl⟩ := List.mem_map.mp hv
    have hu := List.mem_range.mp hu
    unfold dueB
    by_cases z : soleB s (u + 1) = true
    · rw [og, decide_eq_true (b (u + 1) (by omega) (by omega) z)] <;> rfl
    · rw [Bool.not_eq_true _ |>.mp z, Bool.or_false]
  have e : dueL s = outN n s.O := by
    unfold dueL outN
    rw [en, List.filter_congr (by rw [en] at db; exact db)]
  refine ⟨a, ?_, fun x hx => ?_⟩
  · unfold owedS
    rw [e]
    have : ∀ l : List Int, (∀ v ∈ l, gB s.O v.toNat = true) → (l.map fun v => costB (gB s.O v.toNat)).sum = (l.length : Int) := by
      intro l
      induction l with
      | nil => intro _; rfl
      | cons x l ih =>
        intro h
        rw [List.map_cons, List.sum_cons, ih fun v hv => h v (List.mem_cons_of_mem _ hv), h x (by simp), List.length_cons]
        show (1 : Int) + _ = _
        omega
    refine this _ fun v hv => ?_
    unfold outN at hv
    obtain ⟨u, hu, rfl⟩ := List.mem_map.mp hv
    rw [Int.toNat_natCast]
    exact (List.mem_filter.mp hu).2
  · obtain ⟨h1, h2, h3⟩ := mem_alone.mp hx
    have o := b x.toNat (by omega) (by omega) h3
    unfold outN
    refine List.mem_map.mpr ⟨x.toNat, List.mem_filter.mpr ⟨List.mem_map.mpr ⟨x.toNat - 1, List.mem_range.mpr (by omega), by omega⟩, ?_⟩, by omega⟩
    rw [og, decide_eq_true o]
theorem LgO.take {n : Nat} {log : List Int} (L : LgO n log) (k : Nat) : LgO n (log.take k) := by
  refine ⟨fun x hx => L.ops x (List.mem_of_mem_take hx), fun i op hi => ?_, L.one.take k, by rw [List.length_take]; have := L.len; omega⟩
  have hk : i < (log.take k).length := (List.getElem?_eq_some_iff.mp hi).1
  rw [List.length_take] at hk
  rw [List.getElem?_take_of_lt (by omega)] at hi
  rw [List.take_take, Nat.min_eq_left (by omega)]
  exact L.alt i op hi
theorem Calm.take {n : Nat} {log : List Int} (c : Calm n log) (k : Nat) : Calm n (log.take k) := by
  rintro g hg ⟨i, op, hi, h⟩
  have hk : i < (log.take k).length := (List.getElem?_eq_some_iff.mp hi).1
  rw [List.length_take] at hk
  rw [List.getElem?_take_of_lt (by omega)] at hi
  rw [List.take_take, Nat.min_eq_left (by omega)] at h
  exact c g hg ⟨i, op, hi, h⟩
theorem Calm.snoc {n : Nat} {log : List Int} {op : Int} (c : Calm n log) (h : lateL (runS (wholeS n) log) log op.natAbs = []) : Calm n (log ++ [op]) := by
  intro g hg z
  rcases lateG_snoc.mp z with z | z
  · exact c g hg z
  · rw [h] at z
    cases z
theorem calm0 (n : Nat) : Calm n [] := by
  rintro g _ ⟨i, op, h, _⟩
  simp at h
end G
set_option Elab.async false
set_option linter.all false
set_option maxRecDepth 100000
set_option maxHeartbeats 4000000
namespace G
open PySem PySem.Spec PyProof.Rows L2
def t__law_box (K : PySem.W.Frag) (E : XK) : TS :=
  tSeq (tAsg (tC (.int 0)) (gName 1)) (tSeq (tFor (iList K (tSl (rSlL K) (tVar 0) (tNoPart) (tPart (tC (.int 63))))) (gName 2) (tAsg (tOp rModA (tCB rIntA (tCons (tOp rAddA (tOp rAddA (tOp rMulA (tVar 1) (tC (.int 69621))) (tVar 2)) (tC (.int 1))) (tNil))) (tC (.int 2147483647))) (gName 1))) (tRet (tLst (tCons (tC (.int 0)) (tCons (tVar 1) (tCons (tC (.int 0)) (tCons (tCB (rListA K) (tCons (tSl (rSlL K) (tVar 0) (tNoPart) (tPart (tC (.int 63)))) (tNil))) (tNil))))))))
def t_Links_outs (K : PySem.W.Frag) (E : XK) : TS :=
  tRet (tLc (iRng2 (tCons (tC (.int 1)) (tCons (tOp rAddA (tFld K (tVar 0) "size") (tC (.int 1))) (tNil)))) (gName 1) (tB (tOp (rIx K) (tFld K (tVar 0) "_out") (tVar 1))) (tVar 1) [1])
def t__law_start (K : PySem.W.Frag) (E : XK) : TS :=
  tRet (tLst (tCons (tLc (iRng1 (tCons (tOp rAddA (tVar 0) (tC (.int 2))) (tNil))) (gName 1) (tYes) (tOp rSubA (tVar 1) (tC (.int 1))) [1]) (tCons (tLc (iRng1 (tCons (tOp rAddA (tVar 0) (tC (.int 2))) (tNil))) (gName 1) (tYes) (tOp rAddA (tVar 1) (tC (.int 1))) [1]) (tCons (tOp rMulA (tLst (tCons (tC (.int 0)) (tNil))) (tOp rAddA (tVar 0) (tC (.int 2)))) (tNil)))))
def t__law_step (K : PySem.W.Frag) (E : XK) : TS :=
  tSeq (tAsg (tOp (rIx K) (tVar 0) (tC (.int 0))) (gName 2)) (tSeq (tAsg (tOp (rIx K) (tVar 0) (tC (.int 1))) (gName 3)) (tSeq (tAsg (tOp (rIx K) (tVar 0) (tC (.int 2))) (gName 4)) (tSeq (tAsg (tCB rAbsA (tCons (tVar 1) (tNil))) (gName 5)) (tSeq (tAsg (tOp (rIx K) (tVar 2) (tVar 5)) (gName 6)) (tSeq (tAsg (tOp (rIx K) (tVar 3) (tVar 5)) (gName 7)) (tIfS (tTest (tOp rLtA (tVar 1) (tC (.int 0)))) (tSeq (tAsg (tVar 7) (gSub (tVar 3) (tVar 6) rSetL)) (tSeq (tAsg (tVar 6) (gSub (tVar 2) (tVar 7) rSetL)) (tAsg (tC (.int 1)) (gSub (tVar 4) (tVar 5) rSetL)))) (tSeq (tAsg (tVar 5) (gSub (tVar 3) (tVar 6) rSetL)) (tSeq (tAsg (tVar 5) (gSub (tVar 2) (tVar 7) rSetL)) (tAsg (tC (.int 2)) (gSub (tVar 4) (tVar 5) rSetL))))))))))
def t__law_after (K : PySem.W.Frag) (E : XK) : TS :=
  tSeq (tAsg (tCl (sp__law_start K) (fun _ => E) (tCons (tVar 0) (tNil))) (gName 2)) (tSeq (tFor (iList K (tVar 1)) (gName 3) (tDrop (tCl (sp22__law_step K) (fun _ => E) (tCons (tVar 2) (tCons (tVar 3) (tNil)))))) (tRet (tVar 2)))
def t__law_holders (K : PySem.W.Frag) (E : XK) : TS :=
  tSeq (tAsg (tLst (tNil)) (gName 2)) (tSeq (tFor (iRng2 (tCons (tC (.int 1)) (tCons (tOp rAddA (tVar 0) (tC (.int 1))) (tNil)))) (gName 3) (tIfS (tOr (tTest (tOp (rEqA K) (tOp (rIx K) (tVar 1) (tOp rSubA (tVar 3) (tC (.int 1)))) (tC (.str "right")))) (tTest (tOp (rEqA K) (tOp (rIx K) (tVar 1) (tVar 3)) (tC (.str "left"))))) (tDrop (tBM K "list" rAppend (tVar 2) (tCons (tVar 3) (tNil)))) (tNext))) (tRet (tVar 2)))
def t__law_integer (K : PySem.W.Frag) (E : XK) : TS :=
  tRet (tAndV (tCB (rIsi K) (tCons (tVar 0) (tCons (tC (.ty "int")) (tNil)))) (tNotV (tCB (rIsi K) (tCons (tVar 0) (tCons (tC (.ty "bool")) (tNil))))))
def t__law_row (K : PySem.W.Frag) (E : XK) : TS :=
  tSeq (tIfS (tOr (tNot (tB (tCB (rIsi K) (tCons (tVar 0) (tCons (tC (.ty "list")) (tNil)))))) (tTest (tOp (rNeA K) (tCB (rLenA K) (tCons (tVar 0) (tNil))) (tCB (rLenA K) (tCons (tVar 1) (tNil)))))) (tRet (tC (.bl false))) (tNext)) (tSeq (tFor (iRng1 (tCons (tCB (rLenA K) (tCons (tVar 1) (tNil))) (tNil))) (gName 2) (tIfS (tOr (tNot (tB (tCl (sp__law_integer K) (fun _ => E) (tCons (tOp (rIx K) (tVar 0) (tVar 2)) (tNil))))) (tTest (tOp (rNeA K) (tOp (rIx K) (tVar 0) (tVar 2)) (tOp (rIx K) (tVar 1) (tVar 2))))) (tRet (tC (.bl false))) (tNext))) (tRet (tC (.bl true))))
def t__law_states (K : PySem.W.Frag) (E : XK) : TS :=
  tSeq (tAsg (tLst (tNil)) (gName 2)) (tSeq (tFor (iRng1 (tCons (tOp rAddA (tVar 0) (tC (.int 1))) (tNil))) (gName 3) (tSeq (tAsg (tOp (rEqA K) (tOp (rIx K) (tOp (rIx K) (tVar 1) (tC (.int 1))) (tVar 3)) (tOp rAddA (tVar 3) (tC (.int 1)))) (gName 4)) (tSeq (tAsg (tOp (rEqA K) (tOp (rIx K) (tOp (rIx K) (tVar 1) (tC (.int 0))) (tOp rAddA (tVar 3) (tC (.int 1)))) (tVar 3)) (gName 5)) (tIfS (tAnd (tB (tVar 4)) (tB (tVar 5))) (tDrop (tBM K "list" rAppend (tVar 2) (tCons (tC (.str "joined")) (tNil)))) (tIfS (tB (tVar 4)) (tDrop (tBM K "list" rAppend (tVar 2) (tCons (tC (.str "left")) (tNil)))) (tIfS (tB (tVar 5)) (tDrop (tBM K "list" rAppend (tVar 2) (tCons (tC (.str "right")) (tNil)))) (tDrop (tBM K "list" rAppend (tVar 2) (tCons (tC (.str "lost")) (tNil)))))))))) (tRet (tVar 2)))
def t_Links_is_out (K : PySem.W.Frag) (E : XK) : TS :=
  tSeq (tIfS (tNot (tTest (tChain rLeA rLeA (tC (.int 0)) (tVar 1) (tOp rAddA (tFld K (tVar 0) "size") (tC (.int 1)))))) (tRz (He.ga K "BadNode") ["node"] (fun cls d _ H => E cls d H) (tCons (tVar 1) (tNil))) (tNext)) (tRet (tOp (rIx K) (tFld K (tVar 0) "_out") (tVar 1)))
def t_Links_left (K : PySem.W.Frag) (E : XK) : TS :=
  tSeq (tIfS (tNot (tTest (tChain rLeA rLeA (tC (.int 1)) (tVar 1) (tOp rAddA (tFld K (tVar 0) "size") (tC (.int 1)))))) (tRz (He.ga K "BadNode") ["node"] (fun cls d _ H => E cls d H) (tCons (tVar 1) (tNil))) (tNext)) (tRet (tOp (rIx K) (tFld K (tVar 0) "_lefts") (tVar 1)))
def t_Links_right (K : PySem.W.Frag) (E : XK) : TS :=
  tSeq (tIfS (tNot (tTest (tChain rLeA rLeA (tC (.int 0)) (tVar 1) (tFld K (tVar 0) "size")))) (tRz (He.ga K "BadNode") ["node"] (fun cls d _ H => E cls d H) (tCons (tVar 1) (tNil))) (tNext)) (tRet (tOp (rIx K) (tFld K (tVar 0) "_rights") (tVar 1)))
def t_check_gap (K : PySem.W.Frag) (E : XK) : TS :=
  tIfS (tNot (tTest (tChain rLeA rLeA (tC (.int 0)) (tVar 1) (tVar 0)))) (tRz (He.ga K "BadGap") ["gap"] (fun cls d _ H => E cls d H) (tCons (tVar 1) (tNil))) (tNext)
def t_gap_state (K : PySem.W.Frag) (E : XK) : TS :=
  tSeq (tDrop (tCl (sp_check_gap K) (fun _ => E) (tCons (tFld K (tVar 0) "size") (tCons (tVar 1) (tNil))))) (tSeq (tAsg (tOp (rEqA K) (tMt (He.ga K "Links") "right" (sp_Links_right K) (fun _ => E) (tVar 0) (tCons (tVar 1) (tNil))) (tOp rAddA (tVar 1) (tC (.int 1)))) (gName 2)) (tSeq (tAsg (tOp (rEqA K) (tMt (He.ga K "Links") "left" (sp_Links_left K) (fun _ => E) (tVar 0) (tCons (tOp rAddA (tVar 1) (tC (.int 1))) (tNil))) (tVar 1)) (gName 3)) (tSeq (tIfS (tB (tVar 2)) (tRet (tIf (tB (tVar 3)) (tC (.str "joined")) (tC (.str "left")))) (tNext)) (tRet (tIf (tB (tVar 3)) (tC (.str "right")) (tC (.str "lost")))))))
def t_gap_states (K : PySem.W.Frag) (E : XK) : TS :=
  tRet (tLc (iRng1 (tCons (tOp rAddA (tFld K (tVar 0) "size") (tC (.int 1))) (tNil))) (gName 1) (tYes) (tCl (sp_gap_state K) (fun _ => E0) (tCons (tVar 0) (tCons (tVar 1) (tNil)))) [1])
def t_lost_gaps (K : PySem.W.Frag) (E : XK) : TS :=
  tRet (tLc (iEnum K (tCons (tCl (sp_gap_states K) (fun _ => E) (tCons (tVar 0) (tNil))) (tNil))) (gTup K 2 (gCons (gName 1) (gCons (gName 2) (gNil)))) (tTest (tOp (rEqA K) (tVar 2) (tC (.str "lost")))) (tVar 1) [1, 2])
def t_check_repairable (K : PySem.W.Frag) (E : XK) : TS :=
  tSeq (tAsg (tCl (sp_lost_gaps K) (fun _ => E) (tCons (tVar 0) (tNil))) (gName 1)) (tIfS (tTr K (tVar 1)) (tRz (He.ga K "NotRepairable") ["gap"] (fun cls d _ H => E cls d H) (tCons (tOp (rIx K) (tVar 1) (tC (.int 0))) (tNil))) (tNext))
def t_sole_holders (K : PySem.W.Frag) (w : World) (E : XK) : TS :=
  tSeq (tAsg (tCB (rSet0 w) tNil) (gName 1)) (tSeq (tFor (iEnum K (tCons (tCl (sp_gap_states K) (fun _ => E) (tCons (tVar 0) (tNil))) (tNil))) (gTup K 2 (gCons (gName 2) (gCons (gName 3) (gNil)))) (tIfS (tTest (tOp (rIn K false) (tVar 3) (tTup (tCons (tC (.str "left")) (tCons (tC (.str "right")) (tNil)))))) (tDrop (tSAdd w (tVar 1) (tCons (tIf (tTest (tOp (rEqA K) (tVar 3) (tC (.str "left")))) (tVar 2) (tOp rAddA (tVar 2) (tC (.int 1)))) (tNil)))) (tNext))) (tRet (tCB (rSortedSet w) (tCons (tVar 1) (tNil)))))
def t_due_nodes (K : PySem.W.Frag) (w : World) (E : XK) : TS :=
  tRet (tCB (rSortedSet w) (tCons (tOp (rOrS w) (tCB (rSetOfL w K) (tCons (tMt (He.ga K "Links") "outs" (sp_Links_outs K) (fun _ => E) (tVar 0) tNil) (tNil))) (tCB (rSetOfL w K) (tCons (tCl (sp_sole_holders K) (fun _ => E) (tCons (tVar 0) (tNil))) (tNil)))) (tNil)))
def t_repair_cost (K : PySem.W.Frag) (E : XK) : TS :=
  tSeq (tIfS (tOr (tTest (tOp (rNeA K) (tCB (rLenA K) (tCons (tVar 1) (tNil))) (tFld K (tVar 0) "size"))) (tB (tCB (rAny K) (tCons (tLc (iList K (tVar 1)) (gName 2) (tYes) (tOp rLtA (tVar 2) (tC (.int 0))) [2]) (tNil))))) (tRz (He.ga K "BadWeights") ["count"] (fun cls d _ H => E cls d H) (tCons (tCB (rLenA K) (tCons (tVar 1) (tNil))) (tNil))) (tNext)) (tSeq (tDrop (tCl (sp16_check_repairable K) (fun _ => E) (tCons (tVar 0) (tNil)))) (tRet (tCB (rSum K) (tCons (tLc (iList K (tCl (sp16_due_nodes K) (fun _ => E) (tCons (tVar 0) (tNil)))) (gName 3) (tYes) (tOp rMulA (tOp (rIx K) (tVar 1) (tOp rSubA (tVar 3) (tC (.int 1)))) (tIf (tB (tMt (He.ga K "Links") "is_out" (sp03_Links_is_out K) (fun _ => E0) (tVar 0) (tCons (tVar 3) (tNil)))) (tC (.int 1)) (tC (.int 2)))) [3]) (tNil)))))
def t_debt_of (K : PySem.W.Frag) (E : XK) : TS :=
  tRet (tCl (sp16_repair_cost K) (fun _ => E) (tCons (tVar 0) (tCons (tOp rMulA (tLst (tCons (tC (.int 1)) (tNil))) (tFld K (tVar 0) "size")) (tNil))))
def t_check_size (K : PySem.W.Frag) (E : XK) : TS :=
  tIfS (tNot (tTest (tChain rLeA rLeA (tC (.int 0)) (tVar 0) (tC (.int 60))))) (tRz (He.ga K "BadSize") ["size"] (fun cls d _ H => E cls d H) (tCons (tVar 0) (tNil))) (tNext)
def t_Links___init__ (K : PySem.W.Frag) (E : XK) : TS :=
  tSeq (tDrop (tCl (sp_check_size K) (fun _ => E) (tCons (tVar 1) (tNil)))) (tSeq (sFld K (tVar 0) (tVar 1) "size") (tSeq (sFld K (tVar 0) (tLstRg (tRg2 (tC (.int 1)) (tOp rAddA (tVar 1) (tC (.int 2))))) "_rights") (tSeq (sFld K (tVar 0) (tOp rAddA (tLst (tCons (tC (.int 0)) (tNil))) (tLstRg (tRg1 (tOp rAddA (tVar 1) (tC (.int 1)))))) "_lefts") (sFld K (tVar 0) (tOp rMulA (tLst (tCons (tC (.bl false)) (tNil))) (tOp rAddA (tVar 1) (tC (.int 2)))) "_out"))))
def t_Links_is_legal (K : PySem.W.Frag) (E : XK) : TS :=
  tRet (tOp (rEqA K) (tOp (rIx K) (tFld K (tVar 0) "_out") (tCB rAbsA (tCons (tVar 1) (tNil)))) (tOp rGtA (tVar 1) (tC (.int 0))))
def t_check_operation (K : PySem.W.Frag) (E : XK) : TS :=
  tIfS (tNot (tTest (tChain rLeA rLeA (tC (.int 1)) (tCB rAbsA (tCons (tVar 1) (tNil))) (tVar 0)))) (tRz (He.ga K "BadOperation") ["operation", "index"] (fun cls d _ H => E cls d H) (tCons (tVar 1) (tCons (tVar 2) (tNil)))) (tNext)
def t_Links_check (K : PySem.W.Frag) (E : XK) : TS :=
  tSeq (tDrop (tCl (sp_check_operation K) (fun _ => E) (tCons (tFld K (tVar 0) "size") (tCons (tVar 1) (tCons (tVar 2) (tNil)))))) (tIfS (tNot (tB (tMt (He.ga K "Links") "is_legal" (sp_Links_is_legal K) (fun _ => E) (tVar 0) (tCons (tVar 1) (tNil))))) (tRz (He.ga K "Illegal") ["operation", "index"] (fun cls d _ H => E cls d H) (tCons (tVar 1) (tCons (tVar 2) (tNil)))) (tNext))
def t_Links_apply_at (K : PySem.W.Frag) (E : XK) : TS :=
  tSeq (tDrop (tMt (He.ga K "Links") "check" (sp_Links_check K) (fun _ => E) (tVar 0) (tCons (tVar 1) (tCons (tVar 2) (tNil))))) (tSeq (tAsg (tCB rAbsA (tCons (tVar 1) (tNil))) (gName 3)) (tSeq (tAsg (tOp (rIx K) (tFld K (tVar 0) "_lefts") (tVar 3)) (gName 4)) (tSeq (tAsg (tOp (rIx K) (tFld K (tVar 0) "_rights") (tVar 3)) (gName 5)) (tSeq (tAsg (tOp rLtA (tVar 1) (tC (.int 0))) (gName 6)) (tSeq (tAsg (tIf (tB (tVar 6)) (tVar 5) (tVar 3)) (gSub (tFld K (tVar 0) "_rights") (tVar 4) rSetL)) (tSeq (tAsg (tIf (tB (tVar 6)) (tVar 4) (tVar 3)) (gSub (tFld K (tVar 0) "_lefts") (tVar 5) rSetL)) (tAsg (tVar 6) (gSub (tFld K (tVar 0) "_out") (tVar 3) rSetL))))))))
def t_Links_apply (K : PySem.W.Frag) (E : XK) : TS :=
  tDrop (tMt (He.ga K "Links") "apply_at" (sp_Links_apply_at K) (fun _ => E) (tVar 0) (tCons (tVar 1) (tCons (tC (.int 0)) (tNil))))
def t_Links_copy (K : PySem.W.Frag) (E : XK) : TS :=
  tSeq (tAsg (tMk (He.ga K "Links") (sp_Links___init__ K) (fun _ => E) (tCons (tFld K (tVar 0) "size") (tNil))) (gName 1)) (tSeq (sFld K (tVar 1) (tCB (rListA K) (tCons (tFld K (tVar 0) "_rights") (tNil))) "_rights") (tSeq (sFld K (tVar 1) (tCB (rListA K) (tCons (tFld K (tVar 0) "_lefts") (tNil))) "_lefts") (tSeq (sFld K (tVar 1) (tCB (rListA K) (tCons (tFld K (tVar 0) "_out") (tNil))) "_out") (tRet (tVar 1)))))
def t_play (K : PySem.W.Frag) (E : XK) : TS :=
  tSeq (tAsg (tMt (He.ga K "Links") "copy" (sp_Links_copy K) (fun _ => E) (tVar 0) tNil) (gName 2)) (tSeq (tFor (iEnum K (tCons (tVar 1) (tNil))) (gTup K 2 (gCons (gName 3) (gCons (gName 4) (gNil)))) (tDrop (tMt (He.ga K "Links") "apply_at" (sp_Links_apply_at K) (fun _ => E) (tVar 2) (tCons (tVar 4) (tCons (tVar 3) (tNil)))))) (tRet (tVar 2)))
def t_replay (K : PySem.W.Frag) (E : XK) : TS :=
  tRet (tCl (sp_play K) (fun _ => E) (tCons (tMk (He.ga K "Links") (sp_Links___init__ K) (fun _ => E) (tCons (tVar 0) (tNil))) (tCons (tVar 1) (tNil))))
def t__check_once (K : PySem.W.Frag) (E : XK) : TS :=
  tSeq (tDrop (tCl (sp_replay K) (fun _ => E) (tCons (tVar 0) (tCons (tVar 1) (tNil))))) (tFor (iEnum K (tCons (tVar 1) (tNil))) (gTup K 2 (gCons (gName 2) (gCons (gName 3) (gNil)))) (tIfS (tAnd (tTest (tOp rLtA (tVar 3) (tC (.int 0)))) (tTest (tOp (rIn K false) (tVar 3) (tSl (rSlL K) (tVar 1) (tNoPart) (tPart (tVar 2)))))) (tRz (He.ga K "NotOnce") ["index"] (fun cls d _ H => E cls d H) (tCons (tVar 2) (tNil))) (tNext)))
def t__late_gaps (K : PySem.W.Frag) (E : XK) : TS :=
  tSeq (tAsg (tCB rAbsA (tCons (tVar 2) (tNil))) (gName 3)) (tSeq (tAsg (tMt (He.ga K "Links") "left" (sp_Links_left K) (fun _ => E) (tVar 0) (tCons (tVar 3) (tNil))) (gName 4)) (tSeq (tAsg (tMt (He.ga K "Links") "right" (sp_Links_right K) (fun _ => E) (tVar 0) (tCons (tVar 3) (tNil))) (gName 5)) (tSeq (tAsg (tLst (tNil)) (gName 6)) (tSeq (tIfS (tAnd (tTest (tOp (rNeA K) (tVar 4) (tOp rSubA (tVar 3) (tC (.int 1))))) (tTest (tOp (rIn K false) (tOp rAddA (tVar 4) (tC (.int 1))) (tVar 1)))) (tDrop (tBM K "list" rAppend (tVar 6) (tCons (tVar 4) (tNil)))) (tNext)) (tSeq (tIfS (tAnd (tTest (tOp (rNeA K) (tVar 5) (tOp rAddA (tVar 3) (tC (.int 1))))) (tTest (tOp (rIn K false) (tOp rSubA (tVar 5) (tC (.int 1))) (tVar 1)))) (tDrop (tBM K "list" rAppend (tVar 6) (tCons (tOp rSubA (tVar 5) (tC (.int 1))) (tNil)))) (tNext)) (tRet (tVar 6)))))))
def t_late_writes (K : PySem.W.Frag) (E : XK) : TS :=
  tSeq (tDrop (tCl (sp__check_once K) (fun _ => E) (tCons (tVar 0) (tCons (tVar 1) (tNil))))) (tSeq (tAsg (tMk (He.ga K "Links") (sp_Links___init__ K) (fun _ => E) (tCons (tVar 0) (tNil))) (gName 2)) (tSeq (tAsg (tLst (tNil)) (gName 3)) (tSeq (tFor (iEnum K (tCons (tVar 1) (tNil))) (gTup K 2 (gCons (gName 4) (gCons (gName 5) (gNil)))) (tSeq (tDrop (tBM K "list" rExtend (tVar 3) (tCons (tLc (iList K (tCl (sp__late_gaps K) (fun _ => E) (tCons (tVar 2) (tCons (tSl (rSlL K) (tVar 1) (tNoPart) (tPart (tVar 4))) (tCons (tVar 5) (tNil)))))) (gName 6) (tYes) (tTup (tCons (tVar 4) (tCons (tVar 6) (tNil)))) [6]) (tNil)))) (tDrop (tMt (He.ga K "Links") "apply" (sp_Links_apply K) (fun _ => E) (tVar 2) (tCons (tVar 5) (tNil)))))) (tRet (tVar 3)))))
def t__law_calm (K : PySem.W.Frag) (E : XK) : TS :=
  tSeq (tAsg (tCl (sp23__law_after K) (fun _ => E) (tCons (tVar 0) (tCons (tVar 1) (tNil)))) (gName 2)) (tSeq (tAsg (tCl (sp23__law_holders K) (fun _ => E) (tCons (tVar 0) (tCons (tCl (sp23__law_states K) (fun _ => E) (tCons (tVar 0) (tCons (tVar 2) (tNil)))) (tNil)))) (gName 3)) (tSeq (tAsg (tLc (iRng2 (tCons (tC (.int 1)) (tCons (tOp rAddA (tVar 0) (tC (.int 1))) (tNil)))) (gName 9) (tTest (tOp (rEqA K) (tOp (rIx K) (tOp (rIx K) (tVar 2) (tC (.int 2))) (tVar 9)) (tC (.int 1)))) (tVar 9) [9]) (gName 4)) (tSeq (tFor (iList K (tVar 3)) (gName 5) (tIfS (tTest (tOp (rIn K true) (tVar 5) (tVar 4))) (tRet (tC (.bl false))) (tNext))) (tSeq (tAsg (tCl (sp_late_writes K) (fun _ => E) (tCons (tVar 0) (tCons (tCB (rListA K) (tCons (tVar 1) (tNil))) (tNil)))) (gName 6)) (tSeq (tIfS (tOr (tNot (tB (tCB (rIsi K) (tCons (tVar 6) (tCons (tC (.ty "list")) (tNil)))))) (tTest (tOp rGtA (tCB (rLenA K) (tCons (tVar 6) (tNil))) (tC (.int 0))))) (tRet (tC (.bl false))) (tNext)) (tSeq (tAsg (tCl (sp_replay K) (fun _ => E) (tCons (tVar 0) (tCons (tCB (rListA K) (tCons (tVar 1) (tNil))) (tNil)))) (gName 7)) (tSeq (tIfS (tOr (tNot (tB (tCl (sp__law_row K) (fun _ => E) (tCons (tCl (sp_lost_gaps K) (fun _ => E) (tCons (tVar 7) (tNil))) (tCons (tLst (tNil)) (tNil)))))) (tNot (tB (tCl (sp__law_row K) (fun _ => E) (tCons (tCl (sp_sole_holders K) (fun _ => E) (tCons (tVar 7) (tNil))) (tCons (tVar 3) (tNil))))))) (tRet (tC (.bl false))) (tNext)) (tSeq (tAsg (tCl (sp16_debt_of K) (fun _ => E) (tCons (tVar 7) (tNil))) (gName 8)) (tRet (tAndV (tCl (sp__law_integer K) (fun _ => E) (tCons (tVar 8) (tNil))) (tAndV (tOp (rEqA K) (tVar 8) (tCB (rLenA K) (tCons (tVar 4) (tNil)))) (tCl (sp__law_row K) (fun _ => E) (tCons (tMt (He.ga K "Links") "outs" (sp_Links_outs K) (fun _ => E) (tVar 7) tNil) (tCons (tVar 4) (tNil)))))))))))))))
def t_Links___eq__ (K : PySem.W.Frag) (E : XK) : TS :=
  tRet (tAndV (tCB (rIsi K) (tCons (tVar 1) (tCons (tC (.ref (He.ga K "Links"))) (tNil)))) (tAndV (tOp (rEqA K) (tFld K (tVar 0) "_rights") (tFld K (tVar 1) "_rights")) (tAndV (tOp (rEqA K) (tFld K (tVar 0) "_lefts") (tFld K (tVar 1) "_lefts")) (tOp (rEqA K) (tFld K (tVar 0) "_out") (tFld K (tVar 1) "_out")))))
def t_Links_is_whole (K : PySem.W.Frag) (E : XK) : TS :=
  tRet (tOp (rEqO K (He.ga K "Links") (sp23_Links___eq__ K) E) (tVar 0) (tMk (He.ga K "Links") (sp_Links___init__ K) (fun _ => E) (tCons (tFld K (tVar 0) "size") (tNil))))
def t__law_texts (K : PySem.W.Frag) (E : XK) : TS :=
  tSeq (tIfS (tOr (tNot (tB (tCB (rIsi K) (tCons (tVar 0) (tCons (tC (.ty "list")) (tNil)))))) (tTest (tOp (rNeA K) (tCB (rLenA K) (tCons (tVar 0) (tNil))) (tCB (rLenA K) (tCons (tVar 1) (tNil)))))) (tRet (tC (.bl false))) (tNext)) (tSeq (tFor (iRng1 (tCons (tCB (rLenA K) (tCons (tVar 1) (tNil))) (tNil))) (gName 2) (tIfS (tOr (tNot (tB (tCB (rIsi K) (tCons (tOp (rIx K) (tVar 0) (tVar 2)) (tCons (tC (.ty "str")) (tNil)))))) (tTest (tOp (rNeA K) (tOp (rIx K) (tVar 0) (tVar 2)) (tOp (rIx K) (tVar 1) (tVar 2))))) (tRet (tC (.bl false))) (tNext))) (tRet (tC (.bl true))))
def t__law_is_pair (K : PySem.W.Frag) (E : XK) : TS :=
  tSeq (tIfS (tOr (tNot (tB (tCB (rIsi K) (tCons (tVar 0) (tCons (tC (.ty "tuple")) (tNil)))))) (tTest (tOp (rNeA K) (tCB (rLenA K) (tCons (tVar 0) (tNil))) (tC (.int 2))))) (tRet (tC (.bl false))) (tNext)) (tSeq (tIfS (tOr (tNot (tB (tCl (sp__law_integer K) (fun _ => E) (tCons (tOp (rIx K) (tVar 0) (tC (.int 0))) (tNil))))) (tNot (tB (tCl (sp__law_integer K) (fun _ => E) (tCons (tOp (rIx K) (tVar 0) (tC (.int 1))) (tNil)))))) (tRet (tC (.bl false))) (tNext)) (tRet (tAndV (tOp rLeA (tC (.int 0)) (tOp (rIx K) (tVar 0) (tC (.int 0)))) (tAndV (tOp rLtA (tOp (rIx K) (tVar 0) (tC (.int 0))) (tVar 1)) (tAndV (tOp rLeA (tC (.int 0)) (tOp (rIx K) (tVar 0) (tC (.int 1)))) (tOp rLeA (tOp (rIx K) (tVar 0) (tC (.int 1))) (tVar 2)))))))
def t__law_told_gaps (K : PySem.W.Frag) (E : XK) : TS :=
  tSeq (tAsg (tOp rMulA (tLst (tCons (tC (.bl false)) (tNil))) (tOp rAddA (tVar 2) (tC (.int 1)))) (gName 3)) (tSeq (tIfS (tNot (tB (tCB (rIsi K) (tCons (tVar 0) (tCons (tC (.ty "list")) (tNil)))))) (tRet (tC .non)) (tNext)) (tSeq (tFor (iRng1 (tCons (tCB (rLenA K) (tCons (tVar 0) (tNil))) (tNil))) (gName 4) (tSeq (tIfS (tNot (tB (tCl (sp23__law_is_pair K) (fun _ => E) (tCons (tOp (rIx K) (tVar 0) (tVar 4)) (tCons (tVar 1) (tCons (tVar 2) (tNil))))))) (tRet (tC .non)) (tNext)) (tSeq (tIfS (tAnd (tTest (tOp rGtA (tVar 4) (tC (.int 0)))) (tTest (tOp (rLeT K) (tTup (tCons (tOp (rIx K) (tOp (rIx K) (tVar 0) (tVar 4)) (tC (.int 0))) (tCons (tOp (rIx K) (tOp (rIx K) (tVar 0) (tVar 4)) (tC (.int 1))) (tNil)))) (tTup (tCons (tOp (rIx K) (tOp (rIx K) (tVar 0) (tOp rSubA (tVar 4) (tC (.int 1)))) (tC (.int 0))) (tCons (tOp (rIx K) (tOp (rIx K) (tVar 0) (tOp rSubA (tVar 4) (tC (.int 1)))) (tC (.int 1))) (tNil))))))) (tRet (tC .non)) (tNext)) (tAsg (tC (.bl true)) (gSub (tVar 3) (tOp (rIx K) (tOp (rIx K) (tVar 0) (tVar 4)) (tC (.int 1))) rSetL))))) (tRet (tVar 3))))
def t_is_complete (K : PySem.W.Frag) (E : XK) : TS :=
  tSeq (tDrop (tCl (sp__check_once K) (fun _ => E) (tCons (tVar 0) (tCons (tVar 1) (tNil))))) (tRet (tOp (rEqA K) (tCB (rLenA K) (tCons (tMt (He.ga K "Links") "outs" (sp_Links_outs K) (fun _ => E) (tCl (sp_replay K) (fun _ => E) (tCons (tVar 0) (tCons (tVar 1) (tNil)))) tNil) (tNil))) (tC (.int 0))))
def t__law_complete (K : PySem.W.Frag) (E : XK) : TS :=
  tSeq (tAsg (tCl (sp23__law_states K) (fun _ => E) (tCons (tVar 0) (tCons (tCl (sp23__law_after K) (fun _ => E) (tCons (tVar 0) (tCons (tVar 1) (tNil)))) (tNil)))) (gName 2)) (tSeq (tAsg (tCB (rListA K) (tCons (tVar 1) (tNil))) (gName 3)) (tSeq (tAsg (tCl (sp23__law_told_gaps K) (fun _ => E) (tCons (tCl (sp_late_writes K) (fun _ => E) (tCons (tVar 0) (tCons (tVar 3) (tNil)))) (tCons (tCB (rLenA K) (tCons (tVar 1) (tNil))) (tCons (tVar 0) (tNil))))) (gName 4)) (tSeq (tIfS (tOr (tTest (tOp rIsNA (tVar 4) (tC .non))) (tTest (tOp (rNeA K) (tVar 3) (tVar 1)))) (tRet (tC (.bl false))) (tNext)) (tSeq (tFor (iRng1 (tCons (tOp rAddA (tVar 0) (tC (.int 1))) (tNil))) (gName 5) (tIfS (tTest (tOp (rEqA K) (tOp (rIx K) (tVar 4) (tVar 5)) (tOp (rEqA K) (tOp (rIx K) (tVar 2) (tVar 5)) (tC (.str "joined"))))) (tRet (tC (.bl false))) (tNext))) (tSeq (tAsg (tCl (sp_replay K) (fun _ => E) (tCons (tVar 0) (tCons (tVar 3) (tNil)))) (gName 6)) (tSeq (tIfS (tOr (tNot (tB (tCl (sp23__law_texts K) (fun _ => E) (tCons (tCl (sp_gap_states K) (fun _ => E) (tCons (tVar 6) (tNil))) (tCons (tVar 2) (tNil)))))) (tTest (tOp (rNeA K) (tVar 3) (tVar 1)))) (tRet (tC (.bl false))) (tNext)) (tSeq (tIfS (tTest (tOp (rIsB true) (tCl (sp_is_complete K) (fun _ => E) (tCons (tVar 0) (tCons (tVar 3) (tNil)))) (tC (.bl true)))) (tRet (tC (.bl false))) (tNext)) (tSeq (tIfS (tTest (tOp (rIn K false) (tC (.bl true)) (tVar 4))) (tRet (tOp (rIsB false) (tMt (He.ga K "Links") "is_whole" (sp23_Links_is_whole K) (fun _ => E) (tVar 6) tNil) (tC (.bl false)))) (tNext)) (tRet (tOp (rIsB false) (tMt (He.ga K "Links") "is_whole" (sp23_Links_is_whole K) (fun _ => E) (tVar 6) tNil) (tC (.bl true))))))))))))
def t__law_late (K : PySem.W.Frag) (E : XK) : TS :=
  tSeq (tAsg (tLst (tNil)) (gName 2)) (tSeq (tAsg (tOp (rIx K) (tOp (rIx K) (tVar 0) (tC (.int 0))) (tVar 1)) (gName 3)) (tSeq (tAsg (tOp (rIx K) (tOp (rIx K) (tVar 0) (tC (.int 1))) (tVar 1)) (gName 4)) (tSeq (tIfS (tAnd (tTest (tOp (rNeA K) (tVar 3) (tOp rSubA (tVar 1) (tC (.int 1))))) (tTest (tOp (rEqA K) (tOp (rIx K) (tOp (rIx K) (tVar 0) (tC (.int 2))) (tOp rAddA (tVar 3) (tC (.int 1)))) (tC (.int 2))))) (tDrop (tBM K "list" rAppend (tVar 2) (tCons (tVar 3) (tNil)))) (tNext)) (tSeq (tIfS (tAnd (tTest (tOp (rNeA K) (tVar 4) (tOp rAddA (tVar 1) (tC (.int 1))))) (tTest (tOp (rEqA K) (tOp (rIx K) (tOp (rIx K) (tVar 0) (tC (.int 2))) (tOp rSubA (tVar 4) (tC (.int 1)))) (tC (.int 2))))) (tDrop (tBM K "list" rAppend (tVar 2) (tCons (tOp rSubA (tVar 4) (tC (.int 1))) (tNil)))) (tNext)) (tRet (tVar 2))))))
def t__law_first_late (K : PySem.W.Frag) (E : XK) : TS :=
  tSeq (tAsg (tCl (sp__law_start K) (fun _ => E) (tCons (tVar 0) (tNil))) (gName 2)) (tSeq (tFor (iRng1 (tCons (tCB (rLenA K) (tCons (tVar 1) (tNil))) (tNil))) (gName 3) (tSeq (tIfS (tTest (tOp rGtA (tCB (rLenA K) (tCons (tCl (sp__law_late K) (fun _ => E) (tCons (tVar 2) (tCons (tCB rAbsA (tCons (tOp (rIx K) (tVar 1) (tVar 3)) (tNil))) (tNil)))) (tNil))) (tC (.int 0)))) (tRet (tVar 3)) (tNext)) (tDrop (tCl (sp22__law_step K) (fun _ => E) (tCons (tVar 2) (tCons (tOp (rIx K) (tVar 1) (tVar 3)) (tNil))))))) (tRet (tCB (rLenA K) (tCons (tVar 1) (tNil)))))
def t__law_mixed (K : PySem.W.Frag) (E : XK) : TS :=
  tSeq (tAsg (tOp rModA (tCB rIntA (tCons (tOp rAddA (tOp rAddA (tOp rMulA (tVar 0) (tC (.int 48271))) (tOp rMulA (tVar 1) (tC (.int 69621)))) (tC (.int 1234577))) (tNil))) (tC (.int 2147483647))) (gName 2)) (tSeq (tAsg (tOp rModA (tCB rIntA (tCons (tOp rAddA (tOp rAddA (tOp rMulA (tVar 2) (tVar 2)) (tOp rMulA (tVar 1) (tC (.int 40692)))) (tC (.int 7919))) (tNil))) (tC (.int 2147483629))) (gName 3)) (tRet (tOp rDivA (tOp rModA (tCB rIntA (tCons (tOp rAddA (tOp rMulA (tVar 3) (tVar 3)) (tVar 2)) (tNil))) (tC (.int 2147483587))) (tC (.int 32)))))
def t__law_take (K : PySem.W.Frag) (E : XK) : TS :=
  tSeq (tAsg (tOp (rIx K) (tVar 0) (tC (.int 3))) (gName 2)) (tSeq (tIfS (tAnd (tTest (tOp rLtA (tOp (rIx K) (tVar 0) (tC (.int 0))) (tC (.int 2)))) (tTest (tOp rGtA (tCB (rLenA K) (tCons (tVar 2) (tNil))) (tC (.int 0))))) (tSeq (tAsg (tBM K "list" rPopAt (tVar 2) (tCons (tC (.int 0)) (tNil))) (gName 3)) (tSeq (tIfS (tTest (tOp rLtA (tVar 3) (tOp rPowA (tC (.int 10)) (tC (.int 18))))) (tSeq (tAsg (tOp rAddA (tOp (rIx K) (tVar 0) (tC (.int 2))) (tC (.int 1))) (gSub (tVar 0) (tC (.int 2)) rSetL)) (tRet (tOp rModA (tCB rIntA (tCons (tCl (sp__law_mixed K) (fun _ => E) (tCons (tVar 3) (tCons (tOp (rIx K) (tVar 0) (tC (.int 2))) (tNil)))) (tNil))) (tVar 1)))) (tNext)) (tAsg (tVar 3) (gSub (tVar 0) (tC (.int 0)) rSetL)))) (tNext)) (tSeq (tIfS (tTest (tOp rGtA (tOp (rIx K) (tVar 0) (tC (.int 0))) (tC (.int 1)))) (tSeq (tAsg (tOp rModA (tCB rIntA (tCons (tOp (rIx K) (tVar 0) (tC (.int 0))) (tNil))) (tVar 1)) (gName 4)) (tSeq (tAsg (tOp rDivA (tOp (rIx K) (tVar 0) (tC (.int 0))) (tVar 1)) (gSub (tVar 0) (tC (.int 0)) rSetL)) (tRet (tVar 4)))) (tNext)) (tSeq (tAsg (tOp rAddA (tOp (rIx K) (tVar 0) (tC (.int 2))) (tC (.int 1))) (gSub (tVar 0) (tC (.int 2)) rSetL)) (tRet (tOp rModA (tCB rIntA (tCons (tCl (sp__law_mixed K) (fun _ => E) (tCons (tOp (rIx K) (tVar 0) (tC (.int 1))) (tCons (tOp (rIx K) (tVar 0) (tC (.int 2))) (tNil)))) (tNil))) (tVar 1))))))
def t__law_pattern (K : PySem.W.Frag) (E : XK) : TS :=
  tSeq (tIfS (tOr (tTest (tOp (rEqA K) (tCl (sp__law_take K) (fun _ => E) (tCons (tVar 0) (tCons (tC (.int 2)) (tNil)))) (tC (.int 0)))) (tTest (tOp rGeA (tVar 1) (tVar 2)))) (tRet (tLst (tNil))) (tNext)) (tSeq (tAsg (tOp rAddA (tVar 1) (tCl (sp__law_take K) (fun _ => E) (tCons (tVar 0) (tCons (tOp rAddA (tOp rSubA (tVar 2) (tVar 1)) (tC (.int 1))) (tNil))))) (gName 3)) (tSeq (tAsg (tOp rAddA (tVar 3) (tC (.int 1))) (gName 4)) (tSeq (tIfS (tOr (tTest (tOp rGtA (tVar 4) (tVar 2))) (tAnd (tTest (tOp rGtA (tVar 3) (tVar 1))) (tTest (tOp (rEqA K) (tCl (sp__law_take K) (fun _ => E) (tCons (tVar 0) (tCons (tC (.int 2)) (tNil)))) (tC (.int 1)))))) (tAsg (tOp rSubA (tVar 3) (tC (.int 1))) (gName 4)) (tNext)) (tRet (tLst (tCons (tVar 3) (tCons (tVar 4) (tCons (tVar 3) (tNil)))))))))
def t__law_range (K : PySem.W.Frag) (E : XK) : TS :=
  tSeq (tIfS (tOr (tTest (tOp rLtA (tVar 1) (tC (.int 7)))) (tTest (tOp (rEqA K) (tCl (sp__law_take K) (fun _ => E) (tCons (tVar 0) (tCons (tC (.int 2)) (tNil)))) (tC (.int 0))))) (tRet (tLst (tCons (tC (.int 1)) (tCons (tVar 1) (tNil))))) (tNext)) (tSeq (tAsg (tOp rAddA (tC (.int 1)) (tCl (sp__law_take K) (fun _ => E) (tCons (tVar 0) (tCons (tOp rSubA (tVar 1) (tC (.int 3))) (tNil))))) (gName 2)) (tRet (tLst (tCons (tVar 2) (tCons (tCB rMin2A (tCons (tVar 1) (tCons (tOp rAddA (tOp rAddA (tVar 2) (tC (.int 3))) (tCl (sp__law_take K) (fun _ => E) (tCons (tVar 0) (tCons (tC (.int 5)) (tNil))))) (tNil)))) (tNil))))))
def t__law_log (K : PySem.W.Frag) (E : XK) : TS :=
  tSeq (tAsg (tCl (sp__law_range K) (fun _ => E) (tCons (tVar 0) (tCons (tVar 1) (tNil)))) (gName 2)) (tSeq (tAsg (tOp rMulA (tC (.int 2)) (tOp rAddA (tOp rSubA (tOp (rIx K) (tVar 2) (tC (.int 1))) (tOp (rIx K) (tVar 2) (tC (.int 0)))) (tC (.int 1)))) (gName 3)) (tSeq (tAsg (tCB rMax2A (tCons (tCl (sp__law_take K) (fun _ => E) (tCons (tVar 0) (tCons (tOp rAddA (tVar 3) (tC (.int 1))) (tNil)))) (tCons (tCl (sp__law_take K) (fun _ => E) (tCons (tVar 0) (tCons (tOp rAddA (tVar 3) (tC (.int 1))) (tNil)))) (tNil)))) (gName 4)) (tSeq (tAsg (tOp (rIx K) (tLst (tCons (tC (.int 0)) (tCons (tC (.int 1)) (tCons (tC (.int 1)) (tCons (tC (.int 1)) (tCons (tC (.int 2)) (tCons (tC (.int 2)) (tCons (tC (.int 2)) (tCons (tC (.int 3)) (tNil)))))))))) (tCl (sp__law_take K) (fun _ => E) (tCons (tVar 0) (tCons (tC (.int 8)) (tNil))))) (gName 5)) (tSeq (tAsg (tCl (sp__law_take K) (fun _ => E) (tCons (tVar 0) (tCons (tOp rAddA (tVar 3) (tC (.int 1))) (tNil)))) (gName 6)) (tSeq (tAsg (tCl (sp__law_pattern K) (fun _ => E) (tCons (tVar 0) (tCons (tOp (rIx K) (tVar 2) (tC (.int 0))) (tCons (tOp (rIx K) (tVar 2) (tC (.int 1))) (tNil))))) (gName 7)) (tSeq (tAsg (tCl (sp__law_start K) (fun _ => E) (tCons (tVar 1) (tNil))) (gName 8)) (tSeq (tAsg (tLst (tNil)) (gName 9)) (tSeq (tAsg (tCl (sp__law_take K) (fun _ => E) (tCons (tVar 0) (tCons (tOp rAddA (tVar 1) (tC (.int 2))) (tNil)))) (gName 10)) (tSeq (tFor (iRng1 (tCons (tVar 3) (tNil))) (gName 11) (tSeq (tAsg (tLc (iRng2 (tCons (tOp (rIx K) (tVar 2) (tC (.int 0))) (tCons (tOp rAddA (tOp (rIx K) (tVar 2) (tC (.int 1))) (tC (.int 1))) (tNil)))) (gName 16) (tOr (tTest (tOp (rEqA K) (tOp (rIx K) (tOp (rIx K) (tVar 8) (tC (.int 2))) (tVar 16)) (tC (.int 1)))) (tAnd (tTest (tOp rLtA (tVar 11) (tVar 4))) (tTest (tOp (rEqA K) (tOp (rIx K) (tOp (rIx K) (tVar 8) (tC (.int 2))) (tVar 16)) (tC (.int 0)))))) (tVar 16) [16]) (gName 12)) (tSeq (tIfS (tTest (tOp (rEqA K) (tCB (rLenA K) (tCons (tVar 12) (tNil))) (tC (.int 0)))) (tBreak) (tNext)) (tSeq (tAsg (tLc (iList K (tVar 12)) (gName 16) (tTest (tOp rGtA (tCB (rLenA K) (tCons (tCl (sp__law_late K) (fun _ => E0) (tCons (tVar 8) (tCons (tVar 16) (tNil)))) (tNil))) (tC (.int 0)))) (tVar 16) [16]) (gName 13)) (tSeq (tAsg (tCl (sp__law_take K) (fun _ => E) (tCons (tVar 0) (tCons (tC (.int 4)) (tNil)))) (gName 14)) (tSeq (tIfS (tAnd (tTest (tOp rLtA (tVar 11) (tVar 4))) (tTest (tOp rLtA (tVar 11) (tCB (rLenA K) (tCons (tVar 7) (tNil)))))) (tAsg (tLst (tCons (tOp (rIx K) (tVar 7) (tVar 11)) (tNil))) (gName 12)) (tIfS (tAnd (tOr (tTest (tOp (rEqA K) (tVar 5) (tC (.int 1)))) (tAnd (tTest (tOp (rEqA K) (tVar 5) (tC (.int 2)))) (tTest (tOp rGeA (tVar 11) (tVar 6))))) (tAnd (tTest (tOp rLtA (tVar 14) (tC (.int 3)))) (tTest (tOp rGtA (tCB (rLenA K) (tCons (tVar 13) (tNil))) (tC (.int 0)))))) (tSeq (tAsg (tVar 13) (gName 12)) (tAsg (tVar 3) (gName 6))) (tIfS (tTest (tOp rGtA (tVar 5) (tC (.int 0)))) (tSeq (tIfS (tAnd (tTest (tOp rGtA (tVar 5) (tC (.int 1)))) (tTest (tOp rLtA (tCB (rLenA K) (tCons (tVar 13) (tNil))) (tCB (rLenA K) (tCons (tVar 12) (tNil)))))) (tAsg (tLc (iList K (tVar 12)) (gName 16) (tTest (tOp (rIn K true) (tVar 16) (tVar 13))) (tVar 16) [16]) (gName 12)) (tNext)) (tSeq (tAsg (tLc (iList K (tVar 12)) (gName 16) (tTest (tOp (rEqA K) (tCB rAbsA (tCons (tOp rSubA (tVar 16) (tVar 10)) (tNil))) (tC (.int 1)))) (tVar 16) [16]) (gName 15)) (tIfS (tAnd (tTest (tOp rGtA (tVar 14) (tC (.int 0)))) (tTest (tOp rGtA (tCB (rLenA K) (tCons (tVar 15) (tNil))) (tC (.int 0))))) (tAsg (tVar 15) (gName 12)) (tNext)))) (tNext)))) (tSeq (tAsg (tOp (rIx K) (tVar 12) (tCl (sp__law_take K) (fun _ => E) (tCons (tVar 0) (tCons (tCB (rLenA K) (tCons (tVar 12) (tNil))) (tNil))))) (gName 10)) (tSeq (tDrop (tBM K "list" rAppend (tVar 9) (tCons (tOp (rIx K) (tLst (tCons (tUn rNegA (tVar 10)) (tCons (tVar 10) (tNil)))) (tOp (rIx K) (tOp (rIx K) (tVar 8) (tC (.int 2))) (tVar 10))) (tNil)))) (tDrop (tCl (sp22__law_step K) (fun _ => E) (tCons (tVar 8) (tCons (tOp (rIx K) (tVar 9) (tVar 11)) (tNil))))))))))))) (tRet (tVar 9)))))))))))
def t__law_size (K : PySem.W.Frag) (E : XK) : TS :=
  tSeq (tAsg (tCl (sp__law_take K) (fun _ => E) (tCons (tVar 0) (tCons (tC (.int 16)) (tNil)))) (gName 1)) (tSeq (tIfS (tTest (tOp (rEqA K) (tVar 1) (tC (.int 15)))) (tRet (tOp rAddA (tC (.int 13)) (tCl (sp__law_take K) (fun _ => E) (tCons (tVar 0) (tCons (tC (.int 48)) (tNil)))))) (tNext)) (tSeq (tIfS (tTest (tOp (rEqA K) (tVar 1) (tC (.int 14)))) (tRet (tOp rAddA (tC (.int 7)) (tCl (sp__law_take K) (fun _ => E) (tCons (tVar 0) (tCons (tC (.int 6)) (tNil)))))) (tNext)) (tRet (tOp (rIx K) (tLst (tCons (tC (.int 0)) (tCons (tC (.int 1)) (tCons (tC (.int 2)) (tCons (tC (.int 3)) (tCons (tC (.int 3)) (tCons (tC (.int 4)) (tCons (tC (.int 4)) (tCons (tC (.int 4)) (tCons (tC (.int 5)) (tCons (tC (.int 5)) (tCons (tC (.int 5)) (tCons (tC (.int 6)) (tCons (tC (.int 6)) (tCons (tC (.int 6)) (tNil)))))))))))))))) (tVar 1)))))
def t_law (K : PySem.W.Frag) (E : XK) : TS :=
  tSeq (tAsg (tCl (sp__law_box K) (fun _ => E) (tCons (tVar 0) (tNil))) (gName 1)) (tSeq (tAsg (tCl (sp22__law_size K) (fun _ => E) (tCons (tVar 1) (tNil))) (gName 2)) (tSeq (tAsg (tCl (sp23__law_log K) (fun _ => E) (tCons (tVar 1) (tCons (tVar 2) (tNil)))) (gName 3)) (tSeq (tIfS (tNot (tB (tCl (sp23__law_complete K) (fun _ => E) (tCons (tVar 2) (tCons (tVar 3) (tNil)))))) (tRet (tC (.bl false))) (tNext)) (tSeq (tAsg (tCl (sp23__law_first_late K) (fun _ => E) (tCons (tVar 2) (tCons (tVar 3) (tNil)))) (gName 4)) (tSeq (tAsg (tCl (sp__law_take K) (fun _ => E) (tCons (tVar 1) (tCons (tOp rAddA (tVar 4) (tC (.int 1))) (tNil)))) (gName 5)) (tRet (tAndV (tCl (sp23__law_calm K) (fun _ => E) (tCons (tVar 2) (tCons (tSl (rSlL K) (tVar 3) (tNoPart) (tPart (tVar 4))) (tNil)))) (tCl (sp23__law_calm K) (fun _ => E) (tCons (tVar 2) (tCons (tSl (rSlL K) (tVar 3) (tNoPart) (tPart (tVar 5))) (tNil)))))))))))
end G
set_option Elab.async false
set_option linter.all false
set_option maxRecDepth 100000
set_option maxHeartbeats 1000000
namespace G
--#FAM KP
open PySem PySem.Spec PyProof.Rows L2
local macro_rules
  | `(tactic| walk_at "1") => `(tactic| first
    | with_reducible refine w_seq ?_
    | with_reducible refine w_asg ?_
    | with_reducible refine w_asgS ?_
    | with_reducible refine w_asf ?_
    | with_reducible refine w_drop ?_
    | with_reducible refine w_ret ?_
    | with_reducible refine w_if ?_
    | with_reducible refine w_not ?_
    | with_reducible refine w_and ?_
    | with_reducible refine w_or ?_
    | with_reducible refine w_test ?_
    | with_reducible refine w_tb ?_
    | with_reducible refine w_chain ?_
    | with_reducible refine w_op ?_
    | with_reducible refine w_un ?_
    | with_reducible refine w_andV ?_
    | with_reducible refine w_orV ?_
    | with_reducible refine w_notV ?_
    | with_reducible refine w_ifE ?_
    | with_reducible refine w_cons ?_
    | with_reducible refine w_nil ?_
    | with_reducible refine w_cb ?_
    | with_reducible refine w_cl ?_
    | with_reducible refine w_mt ?_
    | with_reducible refine w_fld ?_
    | with_reducible refine w_tupN ?_
    | with_reducible refine w_lstN ?_
    | with_reducible refine w_bm ?_
    | with_reducible refine w_bm0 ?_
    | with_reducible refine w_for ?_
    | with_reducible refine w_lc ?_
    | with_reducible refine w_iR1 ?_
    | with_reducible refine w_iR2 ?_
    | with_reducible refine w_iL ?_
    | with_reducible refine w_iT ?_
    | with_reducible refine w_iE ?_
    | with_reducible refine w_iZ ?_
    | with_reducible refine w_var (by with_unfolding_all rfl) ?_
    | with_reducible refine w_c ?_
    | with_reducible refine w_next ?_
    | with_reducible refine w_i0 ?_
    | with_reducible refine w_u1 ?_
    | with_reducible refine w_addI ?_
    | with_reducible refine w_eqI ?_
    | with_reducible refine w_eqS ?_
    | with_reducible refine w_eqB ?_
    | with_reducible refine w_neI ?_
    | with_reducible refine w_neS ?_
    | with_reducible refine w_neB ?_
    | with_reducible refine w_abs ?_
    | with_reducible refine w_intI ?_
    | with_reducible refine w_min2 ?_
    | with_reducible refine w_max2 ?_
    | with_reducible refine w_isN0 ?_
    | with_reducible refine w_isN1 ref_ne ?_
    | with_reducible refine w_isN1 int_ne ?_
    | with_reducible refine w_notN0 ?_
    | with_reducible refine w_notN1 ref_ne ?_
    | with_reducible refine w_notN1 int_ne ?_
    | with_reducible refine w_ex1 ?_
    | with_reducible refine w_n1 ?_
    | with_reducible refine w_n2 ?_
    | with_reducible refine w_tT ?_
    | with_reducible refine w_tF ?_
    | with_reducible refine w_nT ?_
    | with_reducible refine w_nF ?_
    | with_reducible refine w_rz ?_
    | with_reducible refine w_mkN ?_
    | with_reducible refine w_lrgN ?_
    | with_reducible refine w_rg1 ?_
    | with_reducible refine w_rg2 ?_
    | with_reducible refine w_sl ?_
    | with_reducible refine w_np ?_
    | with_reducible refine w_pt ?_
    | with_reducible refine w_tr ?_
    | with_reducible refine w_gn ?_
    | with_reducible refine w_yes ?_
    | with_reducible refine w_m1 ?_
    | with_reducible refine w_asu ?_
    | with_reducible refine w_exS ?_
    | with_reducible refine w_iS ?_
    | with_reducible refine w_g1 ?_
    | with_reducible refine w_gc ?_
    | with_reducible refine w_gt (SqT.of upd_same) rfl ?_)
local macro_rules
  | `(tactic| walk_at "g") => `(tactic| repeat walk_at "1")
local macro_rules
  | `(tactic| walk_at "j1") => `(tactic| first
    | with_reducible refine w_seqI ?_
    | walk_at "1")
local macro_rules
  | `(tactic| walk_at "j") => `(tactic| repeat walk_at "j1")
section
variable {K : PySem.W.Frag} {mg : Str → Option Value}
theorem len_Links_apply_at (K : PySem.W.Frag) : ∀ vs H Q E, sp_Links_apply_at K vs H Q E → vs.length = (["self", "operation", "index"] : List Str).length := by
  rintro vs H Q E ⟨_, _, _, _, _, _, _, rfl, _⟩
  rfl
theorem rd_Links_apply_at (T : Txt K mg) (vs : List V) (H : Hp) (Q : VK) (E : XK) (h : sp_Links_apply_at K vs H Q E) : t_Links_apply_at K E { nx := fun _ H' => Q .non H', rt := Q } (start ["self", "operation", "index", "node", "low", "high", "is_unlink"] vs) H := by
  obtain ⟨p, r, l, o, s, op, i, rfl, a, h1, h2⟩ := h
  unfold t_Links_apply_at
  walk_at "g"
  refine w_me a no_m ?_
  walk_at "g"
  refine ⟨p, r, l, o, s, op, i, rfl, a, fun ok => ?_, h2⟩
  have hi := ok.1
  obtain ⟨i1, i2⟩ := hi
  have w := a.wf
  obtain ⟨r1, r2⟩ := w.rb op.natAbs (by omega)
  obtain ⟨l1, l2⟩ := w.lb op.natAbs i1 (by omega)
  obtain ⟨pr, pl, po⟩ := a.pr
  walk_at "g"
  rw [natAbs_if]
  refine w_fL T.cl_Links T.na_Links__lefts a ?_
  walk_at "g"
  refine w_ixL (SqL.of a.hl) (at_I (by omega) (by rw [w.lL]; omega)) ?_
  walk_at "g"
  refine w_fR T.cl_Links T.na_Links__rights a ?_
  walk_at "g"
  refine w_ixL (SqL.of a.hr) (at_I (by omega) (by rw [w.lR]; omega)) ?_
  walk_at "g"
  have fin : ∀ x y : Int, x = (if op < 0 then gI s.R op.natAbs else (op.natAbs : Int)) → y = (if op < 0 then gI s.L op.natAbs else (op.natAbs : Int)) →
      Q .non (upd (upd (upd H r (.lst ((s.R.map V.int).set (gI s.L op.natAbs).toNat (.int x)))) l (.lst ((s.L.map V.int).set (gI s.R op.natAbs).toNat (.int y)))) o (.lst ((s.O.map V.bl).set op.natAbs (.bl (decide (op < 0)))))) := by
    intro x y ex ey
    refine h1 ok _ ((((Kp.refl _ H).trans (Kp.put (by simp))).trans (Kp.put (by simp))).trans (Kp.put (by simp))) ?_
    obtain ⟨dx, ob⟩ := a.ob
    rw [set_I, set_I, set_B]
    refine ⟨⟨dx, ?_⟩, ?_, ?_, ?_, a.rl, a.ro, a.lo, w.step ok.1⟩
    · rw [upd_ne po, upd_ne pl, upd_ne pr]
      exact ob
    · rw [upd_ne a.ro, upd_ne a.rl, upd_same, ex] <;> rfl
    · rw [upd_ne a.lo, upd_same, ey] <;> rfl
    · rw [upd_same] <;> rfl
  obtain ⟨dx, ob⟩ := a.ob
  have e1 : (op.natAbs : Int).toNat = op.natAbs := Int.toNat_natCast _
  have il : ixN (List.map V.int s.R).length (gI s.L op.natAbs) = some (gI s.L op.natAbs).toNat := ixN_pos (by omega) (by rw [List.length_map, w.lR]; omega)
  have ir : ixN (List.map V.int s.L).length (gI s.R op.natAbs) = some (gI s.R op.natAbs).toNat := ixN_pos (by omega) (by rw [List.length_map, w.lL]; omega)
  have io : ixN (List.map V.bl s.O).length (op.natAbs : Int) = some op.natAbs := by
    rw [ixN_pos (by omega) (by rw [List.length_map, w.lO]; omega), e1]
  rw [e1]
  refine w_iteD (fun c => ?_) (fun c => ?_)
  all_goals
    walk_at "g"
    refine w_oR T.cl_Links T.na_Links__rights ob ?_
    walk_at "g"
    refine w_setL a.hr il ?_
    walk_at "g"
    first
      | refine w_iteD (fun _ => ?_) (fun z => absurd c z)
      | refine w_iteD (fun z => absurd z c) (fun _ => ?_)
    walk_at "g"
    refine w_oL T.cl_Links T.na_Links__lefts (H := upd H r _) (by rw [upd_ne pr]; exact ob) ?_
    walk_at "g"
    refine w_setL (H := upd H r _) (by rw [upd_ne (Ne.symm a.rl)]; exact a.hl) ir ?_
    walk_at "g"
    refine w_oO T.cl_Links T.na_Links__out (H := upd (upd H r _) l _) (by rw [upd_ne pl, upd_ne pr]; exact ob) ?_
    walk_at "g"
    refine w_setL (H := upd (upd H r _) l _) (by rw [upd_ne (Ne.symm a.lo), upd_ne (Ne.symm a.ro)]; exact a.ho) io ?_
    walk_at "g"
  · exact fin _ _ (if_pos c).symm (if_pos c).symm
  · exact fin _ _ (if_neg c).symm (if_neg c).symm
theorem len_Links_apply (K : PySem.W.Frag) : ∀ vs H Q E, sp_Links_apply K vs H Q E → vs.length = (["self", "operation"] : List Str).length := by
  rintro vs H Q E ⟨_, _, _, _, _, _, rfl, _⟩
  rfl
theorem rd_Links_apply (T : Txt K mg) (vs : List V) (H : Hp) (Q : VK) (E : XK) (h : sp_Links_apply K vs H Q E) : t_Links_apply K E { nx := fun _ H' => Q .non H', rt := Q } (start ["self", "operation"] vs) H := by
  obtain ⟨p, r, l, o, s, op, rfl, a, h1, h2⟩ := h
  unfold t_Links_apply
  walk_at "g"
  refine w_me a no_m ?_
  walk_at "g"
  exact ⟨p, r, l, o, s, op, 0, rfl, a, h1, h2⟩
theorem len_Links_left (K : PySem.W.Frag) : ∀ vs H Q E, sp_Links_left K vs H Q E → vs.length = (["self", "node"] : List Str).length := by
  rintro vs H Q E ⟨_, _, _, _, _, _, rfl, _⟩
  rfl
theorem rd_Links_left (T : Txt K mg) (vs : List V) (H : Hp) (Q : VK) (E : XK) (h : sp_Links_left K vs H Q E) : t_Links_left K E { nx := fun _ H' => Q .non H', rt := Q } (start ["self", "node"] vs) H := by
  obtain ⟨p, r, l, o, s, v, rfl, a, h1, h2, h3⟩ := h
  unfold t_Links_left
  walk_at "g"
  refine w_iteD (fun c1 => ?_) (fun c1 => absurd (by omega) c1)
  walk_at "g"
  refine w_fS T.cl_Links T.na_Links_size a ?_
  walk_at "g"
  refine w_iteN (fun c1 => absurd (by omega) c1) (fun c1 => ?_)
  walk_at "g"
  refine w_fL T.cl_Links T.na_Links__lefts a ?_
  walk_at "g"
  refine w_ixL (SqL.of a.hl) (at_I (by omega) (by rw [a.wf.lL]; omega)) ?_
  exact h3
theorem len_Links_right (K : PySem.W.Frag) : ∀ vs H Q E, sp_Links_right K vs H Q E → vs.length = (["self", "node"] : List Str).length := by
  rintro vs H Q E ⟨_, _, _, _, _, _, rfl, _⟩
  rfl
theorem rd_Links_right (T : Txt K mg) (vs : List V) (H : Hp) (Q : VK) (E : XK) (h : sp_Links_right K vs H Q E) : t_Links_right K E { nx := fun _ H' => Q .non H', rt := Q } (start ["self", "node"] vs) H := by
  obtain ⟨p, r, l, o, s, v, rfl, a, h2, h3⟩ := h
  unfold t_Links_right
  walk_at "g"
  refine w_iteD (fun c1 => ?_) (fun c1 => absurd (by omega) c1)
  walk_at "g"
  refine w_fS T.cl_Links T.na_Links_size a ?_
  walk_at "g"
  refine w_iteN (fun c1 => absurd (by omega) c1) (fun c1 => ?_)
  walk_at "g"
  refine w_fR T.cl_Links T.na_Links__rights a ?_
  walk_at "g"
  refine w_ixL (SqL.of a.hr) (at_I (by omega) (by rw [a.wf.lR]; omega)) ?_
  exact h3
theorem len_gap_state (K : PySem.W.Frag) : ∀ vs H Q E, sp_gap_state K vs H Q E → vs.length = (["links", "gap"] : List Str).length := by
  rintro vs H Q E ⟨_, _, _, _, _, _, rfl, _⟩
  rfl
theorem rd_gap_state (T : Txt K mg) (vs : List V) (H : Hp) (Q : VK) (E : XK) (h : sp_gap_state K vs H Q E) : t_gap_state K E { nx := fun _ H' => Q .non H', rt := Q } (start ["links", "gap", "is_held_left", "is_held_right"] vs) H := by
  obtain ⟨p, r, l, o, s, g, rfl, a, h1, h2⟩ := h
  unfold t_gap_state
  walk_at "g"
  refine w_fS T.cl_Links T.na_Links_size a ?_
  walk_at "g"
  refine ⟨s.n, g, rfl, fun c => ?_, h2⟩
  obtain ⟨v, rfl⟩ : ∃ v : Nat, g = (v : Int) := ⟨g.toNat, by omega⟩
  walk_at "g"
  refine w_me a no_m ?_
  walk_at "g"
  refine ⟨p, r, l, o, s, v, rfl, a, by omega, ?_⟩
  walk_at "g"
  refine w_me a no_m ?_
  walk_at "g"
  refine ⟨p, r, l, o, s, v + 1, rfl, a, by omega, by omega, ?_⟩
  walk_at "g"
  have k := h1 c
  rw [Int.toNat_natCast] at k
  unfold stT at k
  refine w_iteD (fun c1 => ?_) (fun c1 => ?_)
  · rw [if_pos c1] at k
    walk_at "g"
    refine w_iteD (fun c2 => ?_) (fun c2 => ?_)
    · rw [if_pos c2] at k
      walk_at "g"
      exact k
    · rw [if_neg c2] at k
      walk_at "g"
      exact k
  · rw [if_neg c1] at k
    walk_at "g"
    refine w_iteD (fun c2 => ?_) (fun c2 => ?_)
    · rw [if_pos c2] at k
      walk_at "g"
      exact k
    · rw [if_neg c2] at k
      walk_at "g"
      exact k
theorem rg_nat (n : Nat) : rgV 0 (n : Int) = (rgI 0 n).map V.int := by
  unfold rgV rgI
  rw [show ((n : Int) - 0).toNat = n by omega, List.map_map] <;> rfl
theorem rg_one (n : Nat) : rgV 1 ((n : Int) + 1) = (rgI 1 n).map V.int := by
  unfold rgV rgI
  rw [show ((n : Int) + 1 - 1).toNat = n by omega, List.map_map] <;> rfl
theorem rg_one' (n : Nat) : rgV 1 ((n : Int) + 2) = (rgI 1 (n + 1)).map V.int := by
  rw [← rg_one (n + 1)]
  congr 1
theorem rg_nat' (n : Nat) : rgV 0 ((n : Int) + 1) = (rgI 0 (n + 1)).map V.int := by
  rw [← rg_nat (n + 1)] <;> rfl
theorem rep_flat {α : Type} (n : Nat) (x : α) : (List.replicate n [x]).flatten = List.replicate n x := by
  induction n with
  | zero => rfl
  | succ n ih => rw [List.replicate_succ, List.flatten_cons, ih, List.replicate_succ] <;> rfl
theorem rep_mapB (n : Nat) (x : Bool) : (List.replicate n x).map V.bl = List.replicate n (V.bl x) := by rw [List.map_replicate]
theorem putF_len (f : Str) (v : V) : ∀ fs : List (Str × V), (putF f v fs).length ≤ fs.length + 1
  | [] => Nat.le_refl _
  | (g, w) :: fs => by
    have ih := putF_len f v fs
    unfold putF
    split
    · exact Nat.le_succ _
    · exact Nat.succ_le_succ ih
theorem pl1 (a : Str) (x : V) : (putF a x []).length < 1000 := Nat.lt_of_le_of_lt (putF_len _ _ _) (Nat.le_of_ble_eq_true rfl)
theorem pl2 (a b : Str) (x y : V) : (putF b y (putF a x [])).length < 1000 := Nat.lt_of_le_of_lt (putF_len _ _ _) (by
  have := putF_len a x []
  show (putF a x []).length + 1 < 1000
  have e : ([] : List (Str × V)).length = 0 := rfl
  omega)
theorem pl3 (a b c : Str) (x y z : V) : (putF c z (putF b y (putF a x []))).length < 1000 := Nat.lt_of_le_of_lt (putF_len _ _ _) (by
  have h1 := putF_len b y (putF a x [])
  have h2 := putF_len a x []
  have e : ([] : List (Str × V)).length = 0 := rfl
  omega)
theorem len_Links___init__ (K : PySem.W.Frag) : ∀ vs H Q E, sp_Links___init__ K vs H Q E → vs.length = (["self", "size"] : List Str).length := by
  rintro vs H Q E ⟨_, _, _, rfl, _⟩
  rfl
theorem rd_Links___init__ (T : Txt K mg) (vs : List V) (H : Hp) (Q : VK) (E : XK) (h : sp_Links___init__ K vs H Q E) : t_Links___init__ K E { nx := fun _ H' => Q .non H', rt := Q } (start ["self", "size"] vs) H := by
  obtain ⟨p, dx, size, rfl, hp, h1, h2⟩ := h
  unfold t_Links___init__
  walk_at "g"
  refine ⟨size, rfl, fun ok => ?_, h2⟩
  have h1 := h1 ok
  obtain ⟨ok1, ok2⟩ := ok
  obtain ⟨n, rfl⟩ : ∃ n : Nat, size = (n : Int) := ⟨size.toNat, by omega⟩
  rw [Int.toNat_natCast] at h1
  walk_at "g"
  refine w_sT T.cl_Links T.na_Links_size hp (by decide) fun H1 k1 p1 => ?_
  walk_at "g"
  refine ⟨.of_le (by omega) (by omega) (by omega) (by omega), nw fun r H2 nr k2 hr => ?_⟩
  walk_at "g"
  have pr : p ≠ r := ne_of_none p1 nr
  refine w_sT T.cl_Links T.na_Links__rights (k2.at0 p1) (pl1 _ _) fun H3 k3 p3 => ?_
  have hr3 := k3.at1 (Ne.symm pr) hr
  walk_at "g"
  refine ⟨sz_ok (by show 1 ≤ 1000000; omega), nw fun z H4 nz k4 hz => ?_⟩
  walk_at "g"
  refine ⟨.of_le (by omega) (by omega) (by omega) (by omega), nw fun l0 H5 nl0 k5 hl0 => ?_⟩
  walk_at "g"
  refine w_addLN (k5.at0 hz) hl0 (by rw [rgV_length]; exact sz_ok (by show 1 + _ ≤ _; omega)) fun l H6 nl k6 hl => ?_
  have k46 := (k4.trans k5).trans k6
  walk_at "g"
  have pl : p ≠ l := ne_of_none (k5.at0 (k4.at0 p3)) nl
  have rl : r ≠ l := ne_of_none (k5.at0 (k4.at0 hr3)) nl
  refine w_sT T.cl_Links T.na_Links__lefts (k46.at0 p3) (pl2 _ _ _ _) fun H7 k7 p7 => ?_
  have hr7 := k7.at1 (Ne.symm pr) (k46.at0 hr3)
  have hl7 := k7.at1 (Ne.symm pl) hl
  walk_at "g"
  refine ⟨sz_ok (by show 1 ≤ 1000000; omega), nw fun z2 H8 nz2 k8 hz2 => ?_⟩
  walk_at "g"
  refine w_mulLN hz2 (by omega) (by omega) (sz_ok (by show 1 * _ ≤ _; omega)) fun o H9 no k9 ho => ?_
  walk_at "g"
  have po : p ≠ o := ne_of_none (k8.at0 p7) no
  have ro : r ≠ o := ne_of_none (k8.at0 hr7) no
  have lo : l ≠ o := ne_of_none (k8.at0 hl7) no
  have k89 := k8.trans k9
  refine w_sT T.cl_Links T.na_Links__out (k89.at0 p7) (pl3 _ _ _ _ _ _) fun Hx kx px => ?_
  have k03 : Kp [p] H H3 := k1.trans (k2.all.trans k3)
  have k07 : Kp [p] H H7 := k03.trans (k46.all.trans k7)
  have k0x : Kp [p] H Hx := k07.trans (k89.all.trans kx)
  have mp : ∀ b, H b = none → H3 b = none → True := fun _ _ _ => trivial
  refine h1 r l o Hx (k1.free (by simpa using Ne.symm pr) nr) ?_ ?_ k0x ⟨⟨dx, px⟩, ?_, ?_, ?_, rl, ro, lo, .whole (by omega)⟩
  · exact (k03.trans (k4.trans k5).all).free (by simpa using Ne.symm pl) nl
  · exact (k07.trans k8.all).free (by simpa using Ne.symm po) no
  · rw [kx.at1 (Ne.symm pr) (k89.at0 hr7), rg_one'] <;> rfl
  · rw [kx.at1 (Ne.symm pl) (k89.at0 hl7), rg_nat'] <;> rfl
  · rw [kx.at1 (Ne.symm po) ho, show ((n : Int) + 2).toNat = n + 2 by omega, rep_flat, ← rep_mapB] <;> rfl
theorem Kp.cut {S S' : List Addr} {H H' : Hp} (k : Kp S H H') (h : ∀ b ∈ S, b ∈ S' ∨ H b = none) : Kp S' H H' := fun b o n e => k b o (fun z => by
  rcases h b z with q | q
  · exact n q
  · rw [q] at e
    cases e) e
theorem Kp.cut1 {H H' : Hp} {p : Addr} (k : Kp [p] H H') (h : H p = none) : Kp [] H H' := k.cut (by simp [h])
theorem at_map {α : Type} {f : α → V} {l : List α} {i : Nat} {x : V} (h : (l.map f)[i]? = some x) : ∃ y, l[i]? = some y ∧ f y = x := by
  rw [List.getElem?_map] at h
  cases e : l[i]? with
  | none => rw [e] at h; cases h
  | some y => rw [e] at h; exact ⟨y, rfl, by injection h⟩
theorem take_snoc {α : Type} {l : List α} {i : Nat} {x : α} (h : l[i]? = some x) : l.take (i + 1) = l.take i ++ [x] := by
  rw [List.take_succ, h] <;> rfl
theorem len_gap_states (K : PySem.W.Frag) : ∀ vs H Q E, sp_gap_states K vs H Q E → vs.length = (["links"] : List Str).length := by
  rintro vs H Q E ⟨_, _, _, _, _, rfl, _⟩
  rfl
theorem rd_gap_states (T : Txt K mg) (vs : List V) (H : Hp) (Q : VK) (E : XK) (h : sp_gap_states K vs H Q E) : t_gap_states K E { nx := fun _ H' => Q .non H', rt := Q } (start ["links", "gap"] vs) H := by
  obtain ⟨p, r, l, o, s, rfl, a, g⟩ := h
  unfold t_gap_states
  walk_at "g"
  refine w_fS T.cl_Links T.na_Links_size a ?_
  walk_at "g"
  have n60 := a.wf.n60
  refine w_r1 (by omega) ?_
  rw [show ((s.n : Int) + 1).toNat = s.n + 1 by omega]
  refine cp_rng (fun i => (List.range i).map fun (v : Nat) => V.str (stT s v)) (fun i hi => sz_lt (by rw [List.length_map, List.length_range]; omega)) rfl ?_ (fun D H' n k h => g D H' n k h)
  intro i H' S N hi k y nn
  walk_at "g"
  refine ⟨rfl, ?_⟩
  walk_at "g"
  rw [Int.zero_add]
  refine ⟨p, r, l, o, s, (i : Int), rfl, a.k0 k, fun _ => ?_, fun bad => absurd ⟨by omega, by omega⟩ bad⟩
  refine y _ _ (Kp.refl _ _) ?_
  rw [List.range_succ, List.map_append, Int.toNat_natCast] <;> rfl
theorem len_lost_gaps (K : PySem.W.Frag) : ∀ vs H Q E, sp_lost_gaps K vs H Q E → vs.length = (["links"] : List Str).length := by
  rintro vs H Q E ⟨_, _, _, _, _, rfl, _⟩
  rfl
theorem rd_lost_gaps (T : Txt K mg) (vs : List V) (H : Hp) (Q : VK) (E : XK) (h : sp_lost_gaps K vs H Q E) : t_lost_gaps K E { nx := fun _ H' => Q .non H', rt := Q } (start ["links", "gap", "state"] vs) H := by
  obtain ⟨p, r, l, o, s, rfl, a, g⟩ := h
  unfold t_lost_gaps
  walk_at "g"
  refine ⟨p, r, l, o, s, rfl, a, fun q H1 nq k1 hq => ?_⟩
  walk_at "g"
  have n60 := a.wf.n60
  have lenq : ((List.range (s.n + 1)).map fun (v : Nat) => V.str (stT s v)).length = s.n + 1 := by rw [List.length_map, List.length_range]
  refine ⟨q, _, rfl, SqL.of hq, cp_enum (SqL.of hq) (fun i => ((List.range i).filter fun v => decide (stT s v = "lost")).map fun (v : Nat) => V.int (v : Int)) (fun i hi => ?_) rfl ?_ ?_⟩
  · rw [lenq] at hi
    refine sz_lt ?_
    rw [List.length_map]
    have := List.length_filter_le (fun v => decide (stT s v = "lost")) (List.range i)
    rw [List.length_range] at this
    omega
  · intro i x Tq H' S N hx k nT yes no
    obtain ⟨v, hv, rfl⟩ := at_map hx
    have hv' : i = v := by
      have := (List.getElem?_eq_some_iff.mp hv).2
      simpa using this
    subst hv'
    have kT : Kp [] H' (upd H' Tq (.tup [.int (i : Int), .str (stT s i)])) := Kp.new nT
    walk_at "g"
    refine ⟨rfl, ?_⟩
    walk_at "g"
    refine w_iteD (fun c => ?_) (fun c => ?_)
    · walk_at "g"
      refine yes _ _ kT ?_
      rw [List.range_succ, List.filter_append, List.map_append, List.filter_cons_of_pos (by rw [decide_eq_true c])] <;> rfl
    · refine no _ kT ?_
      rw [List.range_succ, List.filter_append, List.map_append, List.filter_cons_of_neg (by rw [decide_eq_false c]; exact Bool.false_ne_true), List.filter_nil, List.map_nil, List.append_nil]
  · intro D H' nD k hD
    rw [lenq] at hD
    exact g D H' (k1.free0 nD) (k1.trans k) hD
theorem w_sadd {w : World} {to : TE} {t : TA} {σ : L2.St} {H : Hp} {Q : VK} (g : to σ H fun x H1 => (∃ a S n, x = V.ref a ∧ H1 a = some (SetO w a S n)) ∧ t σ H1 fun xs H2 => rSAdd w x xs H2 Q) : tSAdd w to t σ H Q := g
theorem inS2 (x a b : Str) : inV (.str x) [.str a, .str b] = (decide (x = a) || decide (x = b)) := by
  show ((eqV (.str a) (.str x)) || ((eqV (.str b) (.str x)) || false)) = _
  have e : ∀ a b : Str, eqV (.str a) (.str b) = decide (b = a) := fun a b => by
    show (a == b) = _
    rw [Bool.eq_iff_iff, beq_iff_eq, decide_eq_true_iff]
    exact eq_comm
  rw [e, e, Bool.or_false]
theorem scan_ok {m : Nat} (h : m ≤ 100) : m + 1 < scanBound := Nat.lt_of_le_of_lt (Nat.succ_le_succ h) (by decide)
theorem len_sole_holders (K : PySem.W.Frag) : ∀ vs H Q E, sp_sole_holders K vs H Q E → vs.length = (["links"] : List Str).length := by
  rintro vs H Q E ⟨_, _, _, _, _, rfl, _⟩
  rfl
theorem rd_sole_holders (w : World) (T : Txt K mg) (vs : List V) (H : Hp) (Q : VK) (E : XK) (h : sp_sole_holders K vs H Q E) : t_sole_holders K w E { nx := fun _ H' => Q .non H', rt := Q } (start ["links", "holders", "gap", "state"] vs) H := by
  obtain ⟨p, r, l, o, s, rfl, a, g⟩ := h
  unfold t_sole_holders
  have wf := a.wf
  have n60 := wf.n60
  walk_at "g"
  refine ⟨rfl, fun q nq => ?_⟩
  have k1 : Kp [] H (upd H q (SetO w q (fun _ => false) 0)) := Kp.new nq
  have hq : (upd H q (SetO w q (fun _ => false) 0)) q = some (SetO w q (fun _ => false) 0) := upd_same
  generalize upd H q (SetO w q (fun _ => false) 0) = H1 at k1 hq ⊢
  walk_at "g"
  refine ⟨p, r, l, o, s, rfl, a.k0 k1, fun u H2 nu k2 hu => ?_⟩
  walk_at "g"
  have qu : q ≠ u := ne_of_none hq nu
  have lenu : ((List.range (s.n + 1)).map fun (v : Nat) => V.str (stT s v)).length = s.n + 1 := by rw [List.length_map, List.length_range]
  have S0 : holdB s 0 = fun _ => false := rfl
  rw [← S0] at hq
  refine ⟨u, _, rfl, SqL.of hu, lp_enum (xs := (List.range (s.n + 1)).map fun (v : Nat) => V.str (stT s v)) (fun i σ H' => (∃ x2 x3, σ = [some (.ref p), some (.ref q), x2, x3]) ∧ Kp [q] H2 H' ∧ ∃ m, H' q = some (SetO w q (holdB s i) m) ∧ m ≤ i) ⟨⟨_, _, rfl⟩, Kp.refl _ _, 0, k2.at0 hq, Nat.le_refl _⟩ ?_ ?_ ?_⟩
  · rintro i σ' H' hi ⟨_, k, _⟩
    exact SqL.of (k.at1 (Ne.symm qu) hu)
  · rintro i x T1 σ' H' hx ⟨⟨x2, x3, rfl⟩, k, m, hm, mi⟩ nT
    obtain ⟨v, hv, rfl⟩ := at_map hx
    have hv' : i = v := by
      have := (List.getElem?_eq_some_iff.mp hv).2
      simpa using this
    have hlt : i < s.n + 1 := by
      have := (List.getElem?_eq_some_iff.mp hv).1
      simpa using this
    subst hv'
    have kT : Kp [] H' (upd H' T1 (.tup [.int (i : Int), .str (stT s i)])) := Kp.new nT
    walk_at "g"
    refine ⟨sz_ok (by show 2 ≤ 1000000; omega), nw fun t H3 nt k3 ht => ?_⟩
    refine w_inT (SqT.of ht) rfl rfl ?_
    rw [if_neg Bool.false_ne_true, inS2]
    have hm3 : H3 q = some (SetO w q (holdB s i) m) := k3.at0 (kT.at0 hm)
    have kk : Kp [q] H2 H3 := k.trans (kT.trans k3).all
    have done : ∀ (z : Int) (H4 : Hp), H4 = upd H3 q (SetO w q (fun j => holdB s i j || decide (j = z)) (if holdB s i z = true then m else m + 1)) → (∀ j : Int, holdB s (i + 1) j = (holdB s i j || decide (j = z))) → Kp [q] H2 H4 ∧ ∃ m', H4 q = some (SetO w q (holdB s (i + 1)) m') ∧ m' ≤ i + 1 := by
      intro z H4 e4 eS
      subst e4
      refine ⟨kk.trans (Kp.put (by simp)), (if holdB s i z = true then m else m + 1), ?_, ?_⟩
      · rw [upd_same]
        congr 2
        funext j
        exact (eS j).symm
      · split <;> omega
    walk_at "g"
    rcases st_cases s i with ⟨y1, y2, y3⟩ | ⟨y1, y2, y3⟩ | ⟨y1, y2, y3⟩ | ⟨y1, y2, y3⟩
    · rw [y3]
      refine w_tF (A := _) ?_
      walk_at "g"
      refine ⟨⟨_, _, rfl⟩, kk, m, ?_, by omega⟩
      rw [hm3]
      congr 2
      funext j
      rw [holdB_snoc, y3]
      simp [ne_w]
    · rw [y3]
      refine w_tT (B := _) ?_
      walk_at "g"
      refine w_sadd ?_
      walk_at "g"
      refine ⟨⟨q, _, _, rfl, hm3⟩, ?_⟩
      walk_at "g"
      refine w_iteD (fun _ => ?_) (fun z => absurd rfl z)
      walk_at "g"
      refine ⟨q, (i : Int), _, m, rfl, rfl, hm3, scan_ok (by omega), ?_⟩
      obtain ⟨z1, z2⟩ := done i _ rfl fun j => by
        rw [holdB_snoc, y3]
        simp [ne_w]
      exact ⟨⟨_, _, rfl⟩, z1, z2⟩
    · rw [y3]
      refine w_tT (B := _) ?_
      walk_at "g"
      refine w_sadd ?_
      walk_at "g"
      refine ⟨⟨q, _, _, rfl, hm3⟩, ?_⟩
      walk_at "g"
      refine w_iteD (fun z => absurd z (by decide +kernel)) (fun _ => ?_)
      walk_at "g"
      refine ⟨q, (i : Int) + 1, _, m, rfl, rfl, hm3, scan_ok (by omega), ?_⟩
      obtain ⟨z1, z2⟩ := done ((i : Int) + 1) _ rfl fun j => by
        rw [holdB_snoc, y3]
        simp [ne_w]
      exact ⟨⟨_, _, rfl⟩, z1, z2⟩
    · rw [y3]
      refine w_tF (A := _) ?_
      walk_at "g"
      refine ⟨⟨_, _, rfl⟩, kk, m, ?_, by omega⟩
      rw [hm3]
      congr 2
      funext j
      rw [holdB_snoc, y3]
      simp [ne_w]
  · rintro σ' H' ⟨⟨x2, x3, rfl⟩, k, m, hm, mi⟩
    rw [lenu] at hm mi
    walk_at "g"
    refine ⟨q, _, m, rfl, hm, by omega, fun ns d so mem ln nd => ?_⟩
    have e : ns = aloneL s := sorted_ext so (alone_sorted s) fun x => by rw [mem, holdB_all wf]
    subst e
    have kH : Kp [] H H' := ((k1.trans k2).all.trans k).cut1 nq
    exact g d _ (kH.free0 nd) (kH.trans (Kp.new nd)) upd_same
theorem len_Links_outs (K : PySem.W.Frag) : ∀ vs H Q E, sp_Links_outs K vs H Q E → vs.length = (["self"] : List Str).length := by
  rintro vs H Q E ⟨_, _, _, _, _, rfl, _⟩
  rfl
theorem rd_Links_outs (T : Txt K mg) (vs : List V) (H : Hp) (Q : VK) (E : XK) (h : sp_Links_outs K vs H Q E) : t_Links_outs K E { nx := fun _ H' => Q .non H', rt := Q } (start ["self", "node"] vs) H := by
  obtain ⟨p, r, l, o, s, rfl, a, g⟩ := h
  unfold t_Links_outs
  have n60 := a.wf.n60
  walk_at "g"
  refine w_fS T.cl_Links T.na_Links_size a ?_
  walk_at "g"
  refine w_r2 (by omega) ?_
  rw [show ((s.n : Int) + 1 - 1).toNat = s.n by omega]
  refine cp_rng (fun i => (outN i s.O).map V.int) (fun i hi => sz_lt (by
    rw [List.length_map]
    have := outN_len i s.O
    omega)) rfl (fun i H' S N hi k y no => ?_) (fun D H' nD k hD => g D H' nD k hD)
  walk_at "g"
  refine ⟨rfl, ?_⟩
  walk_at "g"
  refine w_fO T.cl_Links T.na_Links__out (a.k0 k) ?_
  walk_at "g"
  refine w_ixL (SqL.of (k.at0 a.ho)) (at_B (by omega) (by rw [a.wf.lO]; omega)) ?_
  walk_at "g"
  rw [show ((1 : Int) + (i : Int)).toNat = i + 1 by omega]
  refine w_iteB (fun c1 => ?_) (fun c1 => ?_)
  · walk_at "g"
    refine y _ _ (Kp.refl _ _) ?_
    unfold outN
    rw [List.range_succ, List.map_append, List.filter_append, List.map_append, List.map_append]
    congr 1
    show (([i + 1].filter fun v => gB s.O v).map _).map _ = _
    rw [List.filter_cons_of_pos c1]
    show [V.int ((i + 1 : Nat) : Int)] = [V.int (1 + (i : Int))]
    rw [Int.add_comm] <;> rfl
  · refine no _ (Kp.refl _ _) ?_
    unfold outN
    rw [List.range_succ, List.map_append, List.filter_append, List.map_append, List.map_append]
    show _ ++ (([i + 1].filter fun v => gB s.O v).map _).map _ = _
    rw [List.filter_cons_of_neg (by rw [c1]; exact Bool.false_ne_true)]
    exact List.append_nil _
theorem cmulR {i j : Int} (h1 : -(2 ^ 64) < j) (h2 : j < 2 ^ 64) : CMul i j := .inr ⟨h1, h2⟩
theorem cmulL {i j : Int} (h1 : -(2 ^ 64) < i) (h2 : i < 2 ^ 64) : CMul i j := .inl ⟨h1, h2⟩
theorem dpI {H : Hp} : ∀ xs : List Int, DpAll K H (xs.map V.int) (xs.map PyData.int)
  | [] => .nil
  | x :: xs => .cons (.int x) (dpI xs)
theorem layI : ∀ xs : List Int, PyData.canLayAll0 (xs.map PyData.int) = true
  | [] => by simp [PyData.canLayAll0]
  | x :: xs => by
    show PyData.canLayAll0 (PyData.int x :: xs.map PyData.int) = true
    rw [PyData.canLayAll0, layI xs]
    simp [PyData.canLay0]
theorem depI : ∀ xs : List Int, PyData.depthAll (xs.map PyData.int) ≤ 1
  | [] => by simp [PyData.depthAll]
  | x :: xs => by
    have := depI xs
    show PyData.depthAll (PyData.int x :: xs.map PyData.int) ≤ 1
    rw [PyData.depthAll]
    simp [PyData.depth]
    omega
theorem shI (xs : List Int) : SeqAt.shaped (.list (xs.map PyData.int)) = true := by
  unfold SeqAt.shaped
  rw [PyData.canLay0, layI, PyData.depth]
  have := depI xs
  simp
  omega
theorem w_neL {H : Hp} {Q : VK} {p q : Addr} {xs : List Int} (h1 : SqL K H p (xs.map V.int)) (h2 : SqL K H q (xs.map V.int)) (g : Q (.bl false) H) : rNeA K (.ref p) (.ref q) H Q :=
  w_neD (.lst h1 (dpI xs)) (.lst h2 (dpI xs)) (shI xs) (shI xs) (by
    rw [SeqAt.eqv_refl _ (SeqAt.canLay_of_shaped (shI xs))]
    exact g)
theorem w_isiI {H : Hp} {Q : VK} {i : Int} {t : String} {r : Bool} (h : kitB "int" t = some r) (g : Q (.bl r) H) : rIsi K [.int i, .ty t] H Q := ⟨_, _, _, _, r, rfl, .ty t, .base (.int i), kit_ty h, g⟩
theorem w_isiL {H : Hp} {Q : VK} {a : Addr} {xs : List V} {t : String} {r : Bool} (e : H a = some (.lst xs)) (h : kitB "list" t = some r) (g : Q (.bl r) H) : rIsi K [.ref a, .ty t] H Q := ⟨_, _, _, _, r, rfl, .ty t, .base (.lst e), kit_ty h, g⟩
theorem ok_nat {size : Int} (h : SizeOk size) : ∃ n : Nat, size = (n : Int) ∧ n ≤ 60 := ⟨size.toNat, by obtain ⟨a, b⟩ := h; omega, by obtain ⟨a, b⟩ := h; omega⟩
theorem len_Links_is_out (K : PySem.W.Frag) : ∀ vs H Q E, sp03_Links_is_out K vs H Q E → vs.length = (["self", "node"] : List Str).length := by
  rintro vs H Q E ⟨_, _, _, _, _, _, rfl, _⟩
  rfl
theorem rd_Links_is_out (T : Txt K mg) (vs : List V) (H : Hp) (Q : VK) (E : XK) (h : sp03_Links_is_out K vs H Q E) : t_Links_is_out K E { nx := fun _ H' => Q .non H', rt := Q } (start ["self", "node"] vs) H := by
  obtain ⟨p, r, l, o, s, v, rfl, a, h2, h3⟩ := h
  unfold t_Links_is_out
  walk_at "g"
  refine w_iteD (fun c1 => ?_) (fun c1 => absurd (by omega) c1)
  walk_at "g"
  refine w_fS T.cl_Links T.na_Links_size a ?_
  walk_at "g"
  refine w_iteN (fun c1 => absurd (by omega) c1) (fun c1 => ?_)
  walk_at "g"
  refine w_fO T.cl_Links T.na_Links__out a ?_
  walk_at "g"
  refine w_ixL (SqL.of a.ho) (at_B (by omega) (by rw [a.wf.lO]; omega)) ?_
  exact h3
theorem cut_takeI (l : List Int) (k : Nat) (h : k ≤ l.length) : cutV (l.map V.int) none (some (k : Int)) = (l.take k).map V.int := by
  rw [cut_take _ _ (by rw [List.length_map]; exact h), List.map_take]
end
end G
set_option Elab.async false
set_option linter.all false
set_option maxRecDepth 100000
set_option maxHeartbeats 1000000
namespace G
--#FAM KP
open PySem PySem.Spec PyProof.Rows L2
local macro_rules
  | `(tactic| walk_at "1") => `(tactic| first
    | with_reducible refine w_seq ?_
    | with_reducible refine w_asg ?_
    | with_reducible refine w_asgS ?_
    | with_reducible refine w_asf ?_
    | with_reducible refine w_drop ?_
    | with_reducible refine w_ret ?_
    | with_reducible refine w_if ?_
    | with_reducible refine w_not ?_
    | with_reducible refine w_and ?_
    | with_reducible refine w_or ?_
    | with_reducible refine w_test ?_
    | with_reducible refine w_tb ?_
    | with_reducible refine w_chain ?_
    | with_reducible refine w_op ?_
    | with_reducible refine w_un ?_
    | with_reducible refine w_andV ?_
    | with_reducible refine w_orV ?_
    | with_reducible refine w_notV ?_
    | with_reducible refine w_ifE ?_
    | with_reducible refine w_cons ?_
    | with_reducible refine w_nil ?_
    | with_reducible refine w_cb ?_
    | with_reducible refine w_cl ?_
    | with_reducible refine w_mt ?_
    | with_reducible refine w_fld ?_
    | with_reducible refine w_tupN ?_
    | with_reducible refine w_lstN ?_
    | with_reducible refine w_bm ?_
    | with_reducible refine w_bm0 ?_
    | with_reducible refine w_for ?_
    | with_reducible refine w_lc ?_
    | with_reducible refine w_iR1 ?_
    | with_reducible refine w_iR2 ?_
    | with_reducible refine w_iL ?_
    | with_reducible refine w_iT ?_
    | with_reducible refine w_iE ?_
    | with_reducible refine w_iZ ?_
    | with_reducible refine w_var (by with_unfolding_all rfl) ?_
    | with_reducible refine w_c ?_
    | with_reducible refine w_next ?_
    | with_reducible refine w_i0 ?_
    | with_reducible refine w_u1 ?_
    | with_reducible refine w_addI ?_
    | with_reducible refine w_eqI ?_
    | with_reducible refine w_eqS ?_
    | with_reducible refine w_eqB ?_
    | with_reducible refine w_neI ?_
    | with_reducible refine w_neS ?_
    | with_reducible refine w_neB ?_
    | with_reducible refine w_abs ?_
    | with_reducible refine w_intI ?_
    | with_reducible refine w_min2 ?_
    | with_reducible refine w_max2 ?_
    | with_reducible refine w_isN0 ?_
    | with_reducible refine w_isN1 ref_ne ?_
    | with_reducible refine w_isN1 int_ne ?_
    | with_reducible refine w_notN0 ?_
    | with_reducible refine w_notN1 ref_ne ?_
    | with_reducible refine w_notN1 int_ne ?_
    | with_reducible refine w_ex1 ?_
    | with_reducible refine w_n1 ?_
    | with_reducible refine w_n2 ?_
    | with_reducible refine w_tT ?_
    | with_reducible refine w_tF ?_
    | with_reducible refine w_nT ?_
    | with_reducible refine w_nF ?_
    | with_reducible refine w_rz ?_
    | with_reducible refine w_mkN ?_
    | with_reducible refine w_lrgN ?_
    | with_reducible refine w_rg1 ?_
    | with_reducible refine w_rg2 ?_
    | with_reducible refine w_sl ?_
    | with_reducible refine w_np ?_
    | with_reducible refine w_pt ?_
    | with_reducible refine w_tr ?_
    | with_reducible refine w_gn ?_
    | with_reducible refine w_yes ?_
    | with_reducible refine w_m1 ?_
    | with_reducible refine w_asu ?_
    | with_reducible refine w_exS ?_
    | with_reducible refine w_iS ?_
    | with_reducible refine w_g1 ?_
    | with_reducible refine w_gc ?_
    | with_reducible refine w_gt (SqT.of upd_same) rfl ?_)
local macro_rules
  | `(tactic| walk_at "g") => `(tactic| repeat walk_at "1")
local macro_rules
  | `(tactic| walk_at "j1") => `(tactic| first
    | with_reducible refine w_seqI ?_
    | walk_at "1")
local macro_rules
  | `(tactic| walk_at "j") => `(tactic| repeat walk_at "j1")
section
variable {K : PySem.W.Frag} {mg : Str → Option Value}
theorem w_anyN {H : Hp} {Q : VK} {p : Addr} {bs : List Bool} (h : H p = some (.lst (bs.map V.bl))) (g : Q (.bl (bs.any id)) H) : rAny K [.ref p] H Q := ⟨p, bs, rfl, SqL.of h, g⟩
theorem w_sumN {H : Hp} {Q : VK} {p : Addr} {ns : List Int} (h : H p = some (.lst (ns.map V.int))) (g : Q (.int ns.sum) H) : rSum K [.ref p] H Q := ⟨p, ns, rfl, SqL.of h, g⟩
theorem len_due_nodes (K : PySem.W.Frag) : ∀ vs H Q E, sp16_due_nodes K vs H Q E → vs.length = (["links"] : List Str).length := by
  rintro vs H Q E ⟨_, _, _, _, _, rfl, _⟩
  rfl
theorem rd_due_nodes (w : World) (T : Txt K mg) (vs : List V) (H : Hp) (Q : VK) (E : XK) (h : sp16_due_nodes K vs H Q E) : t_due_nodes K w E { nx := fun _ H' => Q .non H', rt := Q } (start ["links"] vs) H := by
  obtain ⟨p, r, l, o, s, rfl, a, g⟩ := h
  unfold t_due_nodes
  have n60 := a.wf.n60
  have ol := outN_len s.n s.O
  have al := alone_len s
  have dl := due_len s
  walk_at "g"
  refine w_me a no_m ?_
  walk_at "g"
  refine ⟨p, r, l, o, s, rfl, a, fun q H1 nq k1 hq => ?_⟩
  walk_at "g"
  refine ⟨q, _, rfl, SqL.of hq, by omega, fun S c nS hc => ?_⟩
  have k2 : Kp [] H1 (upd H1 S (SetO w S (fun j => decide (j ∈ outN s.n s.O)) c)) := Kp.new nS
  have hS : upd H1 S (SetO w S (fun j => decide (j ∈ outN s.n s.O)) c) S = some (SetO w S (fun j => decide (j ∈ outN s.n s.O)) c) := upd_same
  generalize upd H1 S (SetO w S (fun j => decide (j ∈ outN s.n s.O)) c) = H2 at k2 hS ⊢
  have k02 := k1.trans k2
  walk_at "g"
  refine ⟨p, r, l, o, s, rfl, a.k0 k02, fun q2 H3 nq2 k3 hq2 => ?_⟩
  walk_at "g"
  refine ⟨q2, _, rfl, SqL.of hq2, by omega, fun T c2 nT hc2 => ?_⟩
  have hS3 := k3.at0 hS
  have ST : S ≠ T := ne_of_none hS3 nT
  have k4 : Kp [] H3 (upd H3 T (SetO w T (fun j => decide (j ∈ aloneL s)) c2)) := Kp.new nT
  have hT : upd H3 T (SetO w T (fun j => decide (j ∈ aloneL s)) c2) T = some (SetO w T (fun j => decide (j ∈ aloneL s)) c2) := upd_same
  generalize upd H3 T (SetO w T (fun j => decide (j ∈ aloneL s)) c2) = H4 at k4 hT ⊢
  walk_at "g"
  refine ⟨S, T, _, _, c, c2, rfl, rfl, ST, k4.at0 hS3, hT, by omega, fun P cp nP hP => ?_⟩
  have k5 : Kp [] H4 (upd H4 P (SetO w P (fun j => decide (j ∈ outN s.n s.O) || decide (j ∈ aloneL s)) cp)) := Kp.new nP
  have hPP : upd H4 P (SetO w P (fun j => decide (j ∈ outN s.n s.O) || decide (j ∈ aloneL s)) cp) P = some (SetO w P (fun j => decide (j ∈ outN s.n s.O) || decide (j ∈ aloneL s)) cp) := upd_same
  have cb := hP (dueL s) fun k hk => by
    rw [Bool.or_eq_true, decide_eq_true_iff, decide_eq_true_iff] at hk
    exact due_union.mpr hk
  generalize upd H4 P (SetO w P (fun j => decide (j ∈ outN s.n s.O) || decide (j ∈ aloneL s)) cp) = H5 at k5 hPP ⊢
  have k05 : Kp [] H H5 := (k02.trans k3).trans (k4.trans k5)
  walk_at "g"
  refine ⟨P, _, cp, rfl, hPP, by omega, fun ns D hp hm _ nD => ?_⟩
  have e : ns = dueL s := sorted_ext hp (due_pair s) fun x => by
    rw [hm x, Bool.or_eq_true, decide_eq_true_iff, decide_eq_true_iff, due_union]
  rw [e]
  exact g D _ (k05.free0 nD) (k05.trans (Kp.new nD)) upd_same
theorem len_check_repairable (K : PySem.W.Frag) : ∀ vs H Q E, sp16_check_repairable K vs H Q E → vs.length = (["links"] : List Str).length := by
  rintro vs H Q E ⟨_, _, _, _, _, rfl, _⟩
  rfl
theorem rd_check_repairable (T : Txt K mg) (vs : List V) (H : Hp) (Q : VK) (E : XK) (h : sp16_check_repairable K vs H Q E) : t_check_repairable K E { nx := fun _ H' => Q .non H', rt := Q } (start ["links", "lost"] vs) H := by
  obtain ⟨p, r, l, o, s, rfl, a, g, ge⟩ := h
  unfold t_check_repairable
  walk_at "g"
  refine ⟨p, r, l, o, s, rfl, a, fun q H1 nq k1 hq => ?_⟩
  walk_at "g"
  refine w_truL (SqL.of hq) ?_
  cases e : lostL s with
  | nil =>
    show if false = true then _ else _
    walk_at "g"
    exact g e H1 k1
  | cons v vs =>
    rw [e] at hq
    show if true = true then _ else _
    walk_at "g"
    refine w_ixL (SqL.of hq) at_0 ?_
    walk_at "g"
    refine ⟨rfl, Nat.le_of_ble_eq_true rfl, ?_⟩
    exact ge v vs e H1 k1
theorem len_repair_cost (K : PySem.W.Frag) : ∀ vs H Q E, sp16_repair_cost K vs H Q E → vs.length = (["links", "weights"] : List Str).length := by
  rintro vs H Q E ⟨_, _, _, _, _, _, rfl, _⟩
  rfl
theorem rd_repair_cost (T : Txt K mg) (vs : List V) (H : Hp) (Q : VK) (E : XK) (h : sp16_repair_cost K vs H Q E) : t_repair_cost K E { nx := fun _ H' => Q .non H', rt := Q } (start ["links", "weights", "weight", "node"] vs) H := by
  obtain ⟨p, r, l, o, b, s, rfl, a, hb, g, ge⟩ := h
  unfold t_repair_cost
  have n60 := a.wf.n60
  have dl := due_len s
  walk_at "g"
  refine w_lenL (SqL.of hb) ?_
  walk_at "g"
  refine w_fS T.cl_Links T.na_Links_size a ?_
  walk_at "g"
  rw [List.length_map, List.length_replicate, decide_eq_true rfl]
  walk_at "g"
  refine w_l1 (SqL.of hb) ?_
  refine cp_lst (SqL.of hb) (fun i => (List.replicate i false).map V.bl) (fun i hi => sz_lt (by rw [List.length_map, List.length_replicate]; rw [List.length_map, List.length_replicate] at hi; omega)) rfl (fun i x H' S N hx k y _ => ?_) (fun q H1 nq k1 hq => ?_)
  · obtain ⟨one, h1, rfl⟩ := at_map hx
    have e1 : one = 1 := (List.mem_replicate.mp (List.mem_of_getElem? h1)).2
    subst e1
    walk_at "g"
    refine ⟨rfl, ?_⟩
    walk_at "g"
    refine y _ _ (Kp.refl _ _) ?_
    rw [List.replicate_succ', List.map_append] <;> rfl
  rw [List.length_map, List.length_replicate] at hq
  walk_at "g"
  refine w_anyN hq ?_
  have e0 : (List.replicate s.n false).any id = false := by
    rw [List.any_eq_false]
    intro x hx
    rw [(List.mem_replicate.mp hx).2]
    decide
  rw [e0]
  walk_at "g"
  have a1 := a.k0 k1
  refine ⟨p, r, l, o, s, rfl, a1, fun nl H2 k2 => ?_, ge.k0 k1⟩
  have k12 := k1.trans k2
  have a2 := a.k0 k12
  walk_at "g"
  refine ⟨p, r, l, o, s, rfl, a2, fun d H3 nd k3 hd => ?_⟩
  walk_at "g"
  have a3 := a2.k0 k3
  have hb3 := (k12.trans k3).at0 hb
  refine w_l1 (SqL.of hd) ?_
  refine cp_lst (SqL.of hd) (fun i => (((dueL s).take i).map fun v => costB (gB s.O v.toNat)).map V.int) (fun i hi => sz_lt (by rw [List.length_map, List.length_map, List.length_take]; rw [List.length_map] at hi; omega)) rfl (fun i x H' S N hx k y _ => ?_) (fun t H4 nt k4 ht => ?_)
  · obtain ⟨v, hv, rfl⟩ := at_map hx
    obtain ⟨v1, v2, _⟩ := mem_due.mp (List.mem_of_getElem? hv)
    obtain ⟨m, rfl⟩ : ∃ m : Nat, v = (m : Int) := ⟨v.toNat, by omega⟩
    walk_at "g"
    refine ⟨rfl, ?_⟩
    walk_at "g"
    refine w_ixL (SqL.of (k.at0 hb3)) (v := .int 1) ?_ ?_
    · rw [atI_pos (by omega) (by rw [List.length_map, List.length_replicate]; omega), List.getElem?_map, List.getElem?_replicate_of_lt (by omega)] <;> rfl
    walk_at "g"
    refine w_me (a3.k0 k) no_m ?_
    walk_at "g"
    refine ⟨p, r, l, o, s, m, rfl, a3.k0 k, by omega, ?_⟩
    walk_at "g"
    have last : (((dueL s).take (i + 1)).map fun v => costB (gB s.O v.toNat)).map V.int = (((dueL s).take i).map fun v => costB (gB s.O v.toNat)).map V.int ++ [V.int (costB (gB s.O m))] := by
      rw [take_snoc hv, List.map_append, List.map_append] <;> rfl
    refine w_iteB (fun c => ?_) (fun c => ?_)
    · walk_at "g"
      refine .inl ⟨1, 1, rfl, rfl, .inl ⟨by omega, by omega⟩, ?_⟩
      refine y _ _ (Kp.refl _ _) ?_
      rw [last, c] <;> rfl
    · walk_at "g"
      refine .inl ⟨1, 2, rfl, rfl, .inl ⟨by omega, by omega⟩, ?_⟩
      refine y _ _ (Kp.refl _ _) ?_
      rw [last, c] <;> rfl
  rw [List.length_map, List.take_length] at ht
  walk_at "g"
  refine w_sumN ht ?_
  exact g nl H4 ((k12.trans k3).trans k4)
theorem len_debt_of (K : PySem.W.Frag) : ∀ vs H Q E, sp16_debt_of K vs H Q E → vs.length = (["links"] : List Str).length := by
  rintro vs H Q E ⟨_, _, _, _, _, rfl, _⟩
  rfl
theorem rd_debt_of (T : Txt K mg) (vs : List V) (H : Hp) (Q : VK) (E : XK) (h : sp16_debt_of K vs H Q E) : t_debt_of K E { nx := fun _ H' => Q .non H', rt := Q } (start ["links"] vs) H := by
  obtain ⟨p, r, l, o, s, rfl, a, g, ge⟩ := h
  unfold t_debt_of
  have n60 := a.wf.n60
  walk_at "g"
  refine ⟨sz_ok (by show 1 ≤ 1000000; omega), nw fun q H1 nq k1 hq => ?_⟩
  walk_at "g"
  refine w_fS T.cl_Links T.na_Links_size (a.k0 k1) ?_
  walk_at "g"
  refine w_mulLN hq (by omega) (by omega) (sz_ok (by show 1 * _ ≤ _; omega)) fun b H2 nb k2 hb => ?_
  have k12 := k1.trans k2
  have hb : H2 b = some (.lst ((List.replicate s.n (1 : Int)).map V.int)) := by
    rw [hb, Int.toNat_natCast]
    congr 2
    have : ∀ n : Nat, (List.replicate n [V.int 1]).flatten = (List.replicate n (1 : Int)).map V.int := by
      intro n
      induction n with
      | zero => rfl
      | succ n ih => rw [List.replicate_succ, List.flatten_cons, ih, List.replicate_succ] <;> rfl
    exact this s.n
  walk_at "g"
  exact ⟨p, r, l, o, b, s, rfl, a.k0 k12, hb, fun nl H3 k3 => g nl H3 (k12.trans k3), ge.k0 k12⟩
theorem len__late_gaps (K : PySem.W.Frag) : ∀ vs H Q E, sp__late_gaps K vs H Q E → vs.length = (["links", "earlier", "operation"] : List Str).length := by
  rintro vs H Q E ⟨_, _, _, _, _, _, _, _, rfl, _⟩
  rfl
theorem rd__late_gaps (T : Txt K mg) (vs : List V) (H : Hp) (Q : VK) (E : XK) (h : sp__late_gaps K vs H Q E) : t__late_gaps K E { nx := fun _ H' => Q .non H', rt := Q } (start ["links", "earlier", "operation", "node", "low", "high", "late"] vs) H := by
  obtain ⟨p, r, l, o, c, s, log, op, rfl, a, hs, iop, g⟩ := h
  unfold t__late_gaps
  have wf := a.wf
  have n60 := wf.n60
  obtain ⟨v1, v2⟩ := iop
  generalize ev : op.natAbs = v at v1 v2 g
  obtain ⟨r1, r2⟩ := wf.rb v (by omega)
  obtain ⟨l1, l2⟩ := wf.lb v (by omega) (by omega)
  walk_at "g"
  rw [natAbs_if, ev]
  refine w_me a no_m ?_
  walk_at "g"
  refine ⟨p, r, l, o, s, v, rfl, a, v1, by omega, ?_⟩
  walk_at "g"
  refine w_me a no_m ?_
  walk_at "g"
  refine ⟨p, r, l, o, s, v, rfl, a, v2, ?_⟩
  walk_at "j"
  refine ⟨sz_ok (Nat.zero_le _), nw fun q H1 nq k1 hq => ?_⟩
  walk_at "j"
  unfold lateL at g
  generalize e1 : (if gI s.L v ≠ (v : Int) - 1 ∧ gI s.L v + 1 ∈ log then [gI s.L v] else []) = g1 at g
  generalize e2 : (if gI s.R v ≠ (v : Int) + 1 ∧ gI s.R v - 1 ∈ log then [gI s.R v - 1] else []) = g2 at g
  have l1' : g1.length ≤ 1 := by rw [← e1]; split <;> simp
  have cq : Kp [q] H1 H1 := Kp.refl _ _
  have hs1 := k1.sql (by simp) hs
  have fin : ∀ H', Kp [q] H1 H' → H' q = some (.lst ((g1 ++ g2).map V.int)) → Q (.ref q) H' := fun H' k h => g q H' nq (k1.all.trans k |>.cut1 nq) h
  refine w_ifK (fun H' => Kp [q] H1 H' ∧ SqL K H' c (log.map V.int) ∧ H' q = some (.lst (g1.map V.int))) (fun N hN => ?_) (fun H2 ⟨k2, hs2, hq2⟩ => ?_)
  · walk_at "g"
    refine w_iteN (fun c1 => ?_) (fun c1 => ?_)
    · walk_at "g"
      refine w_inL hs1 rfl (flatI _) ?_
      rw [if_neg Bool.false_ne_true, inI]
      walk_at "g"
      refine w_iteD (fun c2 => ?_) (fun c2 => ?_)
      · walk_at "g"
        refine ⟨w_ty (SqL.of hq), ?_⟩
        walk_at "g"
        have kk : Kp [] H1 (upd H1 q (.lst ([] ++ [.int (gI s.L v)]))) → True := fun _ => trivial
        refine w_apT hq (sz_lt (by show 0 < 1000000; omega)) fun H2 k2 hq2 => ?_
        refine hN _ ⟨k2, ?_, ?_⟩
        · have fq : H q = none := nq
          have e : Kp [] H H2 := (k1.all.trans k2).cut1 nq
          exact e.sql (by simp) hs
        rw [if_pos ⟨c1, c2⟩] at e1
        rw [hq2, ← e1] <;> rfl
      · walk_at "g"
        refine hN _ ⟨Kp.refl _ _, hs1, ?_⟩
        rw [if_neg (fun z => c2 z.2)] at e1
        rw [hq, ← e1] <;> rfl
    · walk_at "g"
      refine hN _ ⟨Kp.refl _ _, hs1, ?_⟩
      rw [if_neg (fun z => z.1 c1)] at e1
      rw [hq, ← e1] <;> rfl
  walk_at "j"
  refine w_ifK (fun H' => Kp [q] H1 H' ∧ H' q = some (.lst ((g1 ++ g2).map V.int))) (fun N hN => ?_) (fun H3 ⟨k3, hq3⟩ => ?_)
  · walk_at "g"
    refine w_iteN (fun c1 => ?_) (fun c1 => ?_)
    · walk_at "g"
      refine w_inL hs2 rfl (flatI _) ?_
      rw [if_neg Bool.false_ne_true, inI]
      walk_at "g"
      refine w_iteD (fun c2 => ?_) (fun c2 => ?_)
      · walk_at "g"
        refine ⟨w_ty (SqL.of hq2), ?_⟩
        walk_at "g"
        refine w_apT hq2 (sz_lt (by rw [List.length_map]; omega)) fun H3 k3 hq3 => ?_
        refine hN _ ⟨k2.trans k3, ?_⟩
        rw [if_pos ⟨c1, c2⟩] at e2
        rw [hq3, ← e2, List.map_append] <;> rfl
      · walk_at "g"
        refine hN _ ⟨k2, ?_⟩
        rw [if_neg (fun z => c2 z.2)] at e2
        rw [hq2, ← e2, List.append_nil]
    · walk_at "g"
      refine hN _ ⟨k2, ?_⟩
      rw [if_neg (fun z => z.1 c1)] at e2
      rw [hq2, ← e2, List.append_nil]
  walk_at "g"
  exact fin H3 k3 hq3
theorem len__check_once (K : PySem.W.Frag) : ∀ vs H Q E, sp__check_once K vs H Q E → vs.length = (["size", "log"] : List Str).length := by
  rintro vs H Q E ⟨_, _, _, rfl, _⟩
  rfl
theorem rd__check_once (T : Txt K mg) (vs : List V) (H : Hp) (Q : VK) (E : XK) (h : sp__check_once K vs H Q E) : t__check_once K E { nx := fun _ H' => Q .non H', rt := Q } (start ["size", "log", "index", "operation"] vs) H := by
  obtain ⟨c, size, log, rfl, hs, hlen, re, g⟩ := h
  unfold t__check_once
  walk_at "g"
  refine ⟨c, size, log, rfl, hs, fun ok le p r l o H1 np nr nl no k1 b => ?_, re.re.op, re.re.sz⟩
  have hs1 := k1.sql (by simp) hs
  have tw := re.tw ok le
  have g := g ok le
  walk_at "g"
  refine ⟨c, _, rfl, hs1, lp_enum (xs := log.map V.int) (fun i σ H' => (∃ x2 x3, σ = [some (.int size), some (.ref c), x2, x3]) ∧ Kp [] H1 H' ∧ OnceA (log.take i)) ⟨⟨_, _, rfl⟩, Kp.refl _ _, by rw [List.take_zero]; exact once_nil⟩ ?_ ?_ ?_⟩
  · rintro i σ' H' hi ⟨_, k, _⟩
    exact k.sql (by simp) hs1
  · rintro i x T1 σ' H' hx ⟨⟨x2, x3, rfl⟩, k, oo⟩ nT
    obtain ⟨op, hop, rfl⟩ := at_map hx
    have li : i < log.length := (List.getElem?_eq_some_iff.mp hop).1
    have kT : Kp [] H' (upd H' T1 (.tup [.int (i : Int), .int op])) := Kp.new nT
    have k1T := k.trans kT
    walk_at "g"
    refine w_iteD (fun c1 => ?_) (fun c1 => ?_)
    · walk_at "g"
      refine w_slL (k1T.sql (by simp) hs1) fun d H2 nd k2 hd => ?_
      rw [cut_takeI _ _ (by omega)] at hd
      refine w_inL (SqL.of hd) rfl (flatI _) ?_
      rw [if_neg Bool.false_ne_true, inI]
      walk_at "g"
      refine w_iteD (fun c2 => ?_) (fun c2 => ?_)
      · walk_at "g"
        exact ⟨rfl, Nat.le_of_ble_eq_true rfl, tw i ⟨op, hop, c1, c2, oo⟩ H2 ((k1.trans k1T).trans k2)⟩
      · walk_at "g"
        refine ⟨⟨_, _, rfl⟩, k1T.trans k2, ?_⟩
        rw [take_snoc hop]
        exact oo.snoc fun _ => c2
    · walk_at "g"
      refine ⟨⟨_, _, rfl⟩, k1T, ?_⟩
      rw [take_snoc hop]
      exact oo.snoc fun z => absurd z c1
  · rintro σ' H' ⟨⟨x2, x3, rfl⟩, k, oo⟩
    rw [List.length_map, List.take_length] at oo
    walk_at "g"
    exact g oo H' (k1.trans k)
theorem len_is_complete (K : PySem.W.Frag) : ∀ vs H Q E, sp_is_complete K vs H Q E → vs.length = (["size", "log"] : List Str).length := by
  rintro vs H Q E ⟨_, _, _, rfl, _⟩
  rfl
theorem rd_is_complete (T : Txt K mg) (vs : List V) (H : Hp) (Q : VK) (E : XK) (h : sp_is_complete K vs H Q E) : t_is_complete K E { nx := fun _ H' => Q .non H', rt := Q } (start ["size", "log"] vs) H := by
  obtain ⟨c, size, log, rfl, hs, hlen, re, g⟩ := h
  unfold t_is_complete
  walk_at "g"
  refine ⟨c, size, log, rfl, hs, hlen, re, fun ok le oo H1 k1 => ?_⟩
  have g := g ok le oo
  have re1 := re.kp k1
  walk_at "g"
  refine ⟨c, size, log, rfl, k1.sql (by simp) hs, fun _ _ p r l o H2 np nr nl no k2 b => ?_, re1.re.op, re1.re.sz⟩
  walk_at "g"
  refine w_me b no_m ?_
  walk_at "g"
  refine ⟨p, r, l, o, _, rfl, b, fun q H3 nq k3 hq => ?_⟩
  walk_at "g"
  refine w_lenL (SqL.of hq) ?_
  walk_at "g"
  have en : (runS (wholeS size.toNat) log).n = size.toNat := by rw [runS_n] <;> rfl
  rw [List.length_map, en]
  have gg := g H3 ((k1.trans k2).trans k3)
  have ee : decide (((outN size.toNat (runS (wholeS size.toNat) log).O).length : Int) = 0) = decide (outN size.toNat (runS (wholeS size.toNat) log).O = []) := by
    refine decide_eq_decide.mpr ⟨fun z => List.length_eq_zero_iff.mp (by omega), fun z => by rw [z] <;> rfl⟩
  rw [ee]
  exact gg
def lateWi (n : Nat) (log : List Int) (i : Nat) : List (Int × Int) := ((List.range i).map fun j => lateAt n log j (gI log j)).flatten
theorem lateWi_snoc (n : Nat) (log : List Int) (i : Nat) : lateWi n log (i + 1) = lateWi n log i ++ lateAt n log i (gI log i) := by
  unfold lateWi
  rw [List.range_succ, List.map_append, List.flatten_append]
  simp
theorem lateWi_len (n : Nat) (log : List Int) : ∀ i, (lateWi n log i).length ≤ 2 * i := by
  intro i
  induction i with
  | zero => simp [lateWi]
  | succ i ih =>
    rw [lateWi_snoc, List.length_append]
    have : (lateAt n log i (gI log i)).length ≤ 2 := by
      unfold lateAt
      rw [List.length_map]
      exact lateL_len _ _ _
    omega
theorem len_late_writes (K : PySem.W.Frag) : ∀ vs H Q E, sp_late_writes K vs H Q E → vs.length = (["size", "log"] : List Str).length := by
  rintro vs H Q E ⟨_, _, _, rfl, _⟩
  rfl
theorem rd_late_writes (T : Txt K mg) (vs : List V) (H : Hp) (Q : VK) (E : XK) (h : sp_late_writes K vs H Q E) : t_late_writes K E { nx := fun _ H' => Q .non H', rt := Q } (start ["size", "log", "links", "found", "index", "operation", "gap"] vs) H := by
  obtain ⟨c, size, log, rfl, hs, hlen, re, g⟩ := h
  unfold t_late_writes
  walk_at "g"
  refine ⟨c, size, log, rfl, hs, hlen, re, fun ok le oo H1 k1 => ?_⟩
  have g := g ok le oo
  have re1 := re.kp k1
  obtain ⟨n, rfl, n60⟩ := ok_nat ok
  rw [Int.toNat_natCast] at g le
  walk_at "g"
  refine mk fun q dx H2 nq hq k2 => ?_
  refine ⟨q, dx, n, rfl, hq, fun _ r l o H3 nr nl no k3 b => ⟨rfl, ?_⟩, fun bad => absurd ok bad⟩
  rw [Int.toNat_natCast] at b
  have k13 : Kp [] H1 H3 := (k2.all.trans k3).cut1 nq
  walk_at "g"
  refine ⟨sz_ok (Nat.zero_le _), nw fun u H4 nu k4 hu => ?_⟩
  walk_at "g"
  have k04 := (k1.trans k13).trans k4
  have hs4 := k04.sql (by simp) hs
  have b4 := b.k0 k4
  obtain ⟨dxq, obq⟩ := b.ob
  have nqu : q ≠ u := ne_of_none obq nu
  have nru : r ≠ u := ne_of_none b.hr nu
  have nlu : l ≠ u := ne_of_none b.hl nu
  have nou : o ≠ u := ne_of_none b.ho nu
  have fq : H q = none := k1.free0 nq
  have fr : H r = none := (k1.trans k2).free0 nr
  have fl : H l = none := (k1.trans k2).free0 nl
  have fo : H o = none := (k1.trans k2).free0 no
  have fu : H u = none := (k1.trans k13).free0 nu
  refine ⟨c, _, rfl, hs4, lp_enum (xs := log.map V.int) (fun i σ H' => (∃ x4 x5 x6, σ = [some (.int n), some (.ref c), some (.ref q), some (.ref u), x4, x5, x6]) ∧ Kp [] H H' ∧ LinksAt K H' q r l o (runS (wholeS n) (log.take i)) ∧
    ∃ xs, H' u = some (.lst xs) ∧ PPs H' xs (lateWi n log i)) ⟨⟨_, _, _, rfl⟩, k04, b4, [], hu, PPs.nil⟩ ?_ ?_ ?_⟩
  · rintro i σ' H' hi ⟨_, k, _⟩
    exact k.sql (by simp) hs
  · rintro i x T1 σ' H' hx ⟨⟨x4, x5, x6, rfl⟩, k, la, xs, hu', px⟩ nT
    obtain ⟨op, hop, rfl⟩ := at_map hx
    have li : i < log.length := (List.getElem?_eq_some_iff.mp hop).1
    have kT : Kp [] H' (upd H' T1 (.tup [.int (i : Int), .int op])) := Kp.new nT
    have hT : (upd H' T1 (.tup [.int (i : Int), .int op])) T1 = some (.tup [.int (i : Int), .int op]) := upd_same
    generalize upd H' T1 (.tup [.int (i : Int), .int op]) = HT at kT hT ⊢
    have ok1 : OkOp (runS (wholeS n) (log.take i)) op := le i op hop
    have laT := la.k0 kT
    have huT := kT.at0 hu'
    refine w_gt (SqT.of hT) rfl ?_
    walk_at "g"
    refine ⟨w_ty (SqL.of huT), ?_⟩
    walk_at "g"
    refine w_slL ((k.trans kT).sql (by simp) hs) fun d H5 nd k5 hd => ?_
    rw [cut_takeI _ _ (by omega)] at hd
    walk_at "g"
    refine ⟨q, r, l, o, d, _, log.take i, op, rfl, laT.k0 k5, SqL.of hd, ok1.1, fun z H6 nz k6 hz => ?_⟩
    walk_at "g"
    refine w_l1 (SqL.of hz) ?_
    have ll := lateL_len (runS (wholeS n) (log.take i)) (log.take i) op.natAbs
    have eop : gI log i = op := gI_of hop
    have k56 := k5.trans k6
    generalize eL : lateL (runS (wholeS n) (log.take i)) (log.take i) op.natAbs = gs at hz ll
    refine cp_mutL (fun D j acc H'' => Kp [] H6 H'' ∧ PPs H'' acc ((gs.take j).map fun g => ((i : Int), g))) (sz_lt (by rw [List.length_map]; omega)) (fun D H'' nD kD hD => ⟨kD, by rw [List.take_zero]; exact PPs.nil⟩) (fun D j acc H'' nD hp => SqL.of (hp.1.at0 hz)) ?_ ?_
    · intro D j y acc H'' S N nD hy hD ⟨kj, pj⟩ yes no
      obtain ⟨gv, hg, rfl⟩ := at_map hy
      walk_at "g"
      refine ⟨rfl, ?_⟩
      walk_at "g"
      refine ⟨sz_ok (by show 2 ≤ 1000000; omega), nw fun t H7 nt k7 ht => ?_⟩
      refine yes _ H7 (k7.at0 hD) fun H8 k8 h8 => ⟨((kj.trans k7).all.trans k8).cut1 nD, ?_⟩
      rw [take_snoc hg, List.map_append]
      refine ((pj.k0 k7).app (PPs.one (t := ((i : Int), gv)) ht)).kp k8 fun b hb ys e => ?_
      rw [List.mem_singleton] at hb
      subst hb
      rw [k7.at0 hD] at e
      cases e
    · intro D acc H7 nD hD lacc ⟨kj, pj⟩
      rw [List.length_map, List.take_length] at pj
      rw [List.length_map] at lacc
      have huu : H7 u = some (.lst xs) := kj.at0 (k56.at0 huT)
      have Du : u ≠ D := ne_of_none (k56.at0 huT) nD
      have lx := lateWi_len n log i
      walk_at "g"
      refine ⟨u, D, xs, acc, rfl, rfl, huu, hD, sz_ok (by rw [px.1]; omega), ?_⟩
      have k8 : Kp [u] H7 (upd H7 u (.lst (xs ++ acc))) := Kp.put (by simp)
      have h8 : (upd H7 u (.lst (xs ++ acc))) u = some (.lst (xs ++ acc)) := upd_same
      generalize upd H7 u (.lst (xs ++ acc)) = H8 at k8 h8 ⊢
      have la8 : LinksAt K H8 q r l o (runS (wholeS n) (log.take i)) := ((laT.k0 k56).k0 kj).kp k8 (by simpa using nqu) (by simpa using nru) (by simpa using nlu) (by simpa using nou)
      walk_at "g"
      refine w_me la8 no_m ?_
      walk_at "g"
      refine ⟨q, r, l, o, _, op, rfl, la8, fun _ H9 k9 la9 => ?_, fun z => absurd ok1 z⟩
      walk_at "g"
      have e : log.take (i + 1) = log.take i ++ [op] := take_snoc hop
      have h9 : H9 u = _ := k9 _ _ (by simp [Ne.symm nru, Ne.symm nlu, Ne.symm nou]) h8
      refine ⟨⟨_, _, _, rfl⟩, ?_, ?_, _, h9, ?_⟩
      · exact ((((k.trans kT).trans (k56.trans kj)).all.trans (k8.mono (S' := [u, r, l, o]) (by simp))).trans (k9.mono (by simp))).cut (by simp [fu, fr, fl, fo])
      · rw [e, runS_snoc]
        exact la9
      · rw [lateWi_snoc, eop]
        unfold lateAt
        rw [eL]
        have p7 : PPs H7 (xs ++ acc) (lateWi n log i ++ gs.map fun g => ((i : Int), g)) := (((px.k0 kT).k0 k56).k0 kj).app pj
        refine (p7.kp k8 fun b hb ys z => ?_).kp k9 fun b hb ys z => ?_
        · rw [List.mem_singleton] at hb
          subst hb
          rw [huu] at z
          cases z
        · simp only [List.mem_cons, List.not_mem_nil, or_false] at hb
          rcases hb with rfl | rfl | rfl
          · rw [la8.hr] at z
            cases z
          · rw [la8.hl] at z
            cases z
          · rw [la8.ho] at z
            cases z
  · rintro σ' H' ⟨⟨x4, x5, x6, rfl⟩, k, la, xs, hu', px⟩
    rw [List.length_map] at px
    walk_at "g"
    exact g xs u H' fu k hu' px
theorem len_Links_copy (K : PySem.W.Frag) : ∀ vs H Q E, sp_Links_copy K vs H Q E → vs.length = (["self"] : List Str).length := by
  rintro vs H Q E ⟨_, _, _, _, _, rfl, _⟩
  rfl
theorem rd_Links_copy (T : Txt K mg) (vs : List V) (H : Hp) (Q : VK) (E : XK) (h : sp_Links_copy K vs H Q E) : t_Links_copy K E { nx := fun _ H' => Q .non H', rt := Q } (start ["self", "twin"] vs) H := by
  obtain ⟨p, r, l, o, s, rfl, a, g⟩ := h
  unfold t_Links_copy
  walk_at "g"
  refine w_fS T.cl_Links T.na_Links_size a ?_
  walk_at "g"
  refine mk fun q dx H1 nq hq k1 => ?_
  refine ⟨q, dx, s.n, rfl, hq, fun ok r1 l1 o1 H2 nr1 nl1 no1 k2 b => ⟨rfl, ?_⟩, fun z => absurd ⟨by omega, by have := a.wf.n60; omega⟩ z⟩
  have a1 := a.k0 k1
  obtain ⟨dx1, ob1⟩ := a1.ob
  have qp : p ≠ q := by
    obtain ⟨dx0, ob⟩ := a.ob
    exact ne_of_none ob nq
  have qr : r ≠ q := ne_of_none a.hr nq
  have ql : l ≠ q := ne_of_none a.hl nq
  have qo : o ≠ q := ne_of_none a.ho nq
  have a2 := a1.kp k2 (by simpa using qp) (by simpa using qr) (by simpa using ql) (by simpa using qo)
  walk_at "g"
  refine w_fR T.cl_Links T.na_Links__rights a2 ?_
  walk_at "g"
  refine w_listLN (SqL.of a2.hr) fun r3 H3 nr3 k3 hr3 => ?_
  walk_at "g"
  have b3 := b.k0 k3
  obtain ⟨dx3, ob3⟩ := b3.ob
  refine w_sT T.cl_Links T.na_Links__rights ob3 (fl_len _ _ _ _) fun H4 k4 p4 => ?_
  rw [fl_putR] at p4
  have a4 := (a2.k0 k3).kp k4 (by simpa using qp) (by simpa using qr) (by simpa using ql) (by simpa using qo)
  walk_at "g"
  refine w_fL T.cl_Links T.na_Links__lefts a4 ?_
  walk_at "g"
  refine w_listLN (SqL.of a4.hl) fun l5 H5 nl5 k5 hl5 => ?_
  walk_at "g"
  refine w_sT T.cl_Links T.na_Links__lefts (k5.at0 p4) (fl_len _ _ _ _) fun H6 k6 p6 => ?_
  rw [fl_putL] at p6
  have a6 := (a4.k0 k5).kp k6 (by simpa using qp) (by simpa using qr) (by simpa using ql) (by simpa using qo)
  walk_at "g"
  refine w_fO T.cl_Links T.na_Links__out a6 ?_
  walk_at "g"
  refine w_listLN (SqL.of a6.ho) fun o7 H7 no7 k7 ho7 => ?_
  walk_at "g"
  refine w_sT T.cl_Links T.na_Links__out (k7.at0 p6) (fl_len _ _ _ _) fun H8 k8 p8 => ?_
  rw [fl_putO] at p8
  walk_at "g"
  have rq : r3 ≠ q := (ne_of_none b.ob.choose_spec nr3).symm
  have lq : l5 ≠ q := (ne_of_none p4 nl5).symm
  have oq : o7 ≠ q := (ne_of_none p6 no7).symm
  have hr4 := k4.at1 rq hr3
  have hr6 := k6.at1 rq (k5.at0 hr4)
  have hl6 := k6.at1 lq hl5
  have k02 : Kp [q] H H2 := k1.all.trans k2
  have k04 : Kp [q] H H4 := k02.trans (k3.all.trans k4)
  have k06 : Kp [q] H H6 := k04.trans (k5.all.trans k6)
  have k08 : Kp [q] H H8 := k06.trans (k7.all.trans k8)
  refine g q r3 l5 o7 H8 nq (k02.free (by simpa using rq) nr3) (k04.free (by simpa using lq) nl5) (k06.free (by simpa using oq) no7) (k08.cut1 nq) ⟨⟨dx3, p8⟩, k8.at1 rq (k7.at0 hr6), k8.at1 lq (k7.at0 hl6), k8.at1 oq ho7, ?_, ?_, ?_, a.wf⟩
  · exact ne_of_none hr4 nl5
  · exact ne_of_none hr6 no7
  · exact ne_of_none hl6 no7
theorem len_play (K : PySem.W.Frag) : ∀ vs H Q E, sp_play K vs H Q E → vs.length = (["links", "log"] : List Str).length := by
  rintro vs H Q E ⟨_, _, _, _, _, _, _, rfl, _⟩
  rfl
theorem rd_play (T : Txt K mg) (vs : List V) (H : Hp) (Q : VK) (E : XK) (h : sp_play K vs H Q E) : t_play K E { nx := fun _ H' => Q .non H', rt := Q } (start ["links", "log", "after", "index", "operation"] vs) H := by
  obtain ⟨p, r, l, o, c, s, log, rfl, a, hs, g1, g2⟩ := h
  unfold t_play
  walk_at "g"
  refine w_me a no_m ?_
  walk_at "g"
  refine ⟨p, r, l, o, s, rfl, a, fun q r1 l1 o1 H1 nq nr nl no k1 b => ?_⟩
  walk_at "g"
  have hs1 := k1.sql (by simp) hs
  refine ⟨c, _, rfl, hs1, lp_enum (xs := log.map V.int) (fun i σ H' => (∃ u v, σ = [some (.ref p), some (.ref c), some (.ref q), u, v]) ∧ Leg s (log.take i) ∧ Kp [] H H' ∧ LinksAt K H' q r1 l1 o1 (runS s (log.take i))) ⟨⟨_, _, rfl⟩, ?_, k1, b⟩ ?_ ?_ ?_⟩
  · intro i op h
    simp at h
  · rintro i σ' H' hi ⟨_, _, k, _⟩
    exact k.sql (by simp) hs
  · rintro i x T σ' H' hx ⟨⟨u, v, rfl⟩, le, k, ls⟩ nT
    obtain ⟨op, hop, rfl⟩ := at_map hx
    have kT : Kp [] H' (upd H' T (.tup [.int (i : Int), .int op])) := Kp.new nT
    walk_at "g"
    have ls1 := ls.k0 kT
    refine w_me ls1 no_m ?_
    walk_at "g"
    refine ⟨q, r1, l1, o1, _, op, i, rfl, ls1, fun ok H2 k2 ls2 => ?_, fun bad => ?_⟩
    · walk_at "g"
      have e : log.take (i + 1) = log.take i ++ [op] := take_snoc hop
      refine ⟨⟨_, _, rfl⟩, ?_, ?_, ?_⟩
      · rw [e]
        exact le.snoc ok
      · exact ((k.trans kT).all.trans k2).cut (by simp [nr, nl, no])
      · rw [e, runS_snoc]
        exact ls2
    · rw [runS_n]
      exact g2 i op hop le bad _ (k.trans kT)
  · rintro σ' H' ⟨⟨u, v, rfl⟩, le, k, ls⟩
    rw [List.length_map, List.take_length] at le ls
    walk_at "g"
    exact g1 le q r1 l1 o1 H' nq nr nl no k ls
theorem len_replay (K : PySem.W.Frag) : ∀ vs H Q E, sp_replay K vs H Q E → vs.length = (["size", "log"] : List Str).length := by
  rintro vs H Q E ⟨_, _, _, rfl, _⟩
  rfl
theorem rd_replay (T : Txt K mg) (vs : List V) (H : Hp) (Q : VK) (E : XK) (h : sp_replay K vs H Q E) : t_replay K E { nx := fun _ H' => Q .non H', rt := Q } (start ["size", "log"] vs) H := by
  obtain ⟨c, size, log, rfl, hs, g1, g2, g3⟩ := h
  unfold t_replay
  walk_at "g"
  refine mk fun q dx H1 nq hq k1 => ?_
  refine ⟨q, dx, size, rfl, hq, fun ok r l o H2 nr nl no k2 b => ⟨rfl, ?_⟩, fun bad => g3 bad _ k1⟩
  have k02 : Kp [] H H2 := (k1.all.trans k2).cut1 nq
  walk_at "g"
  refine ⟨q, r, l, o, c, _, log, rfl, b, k02.sql (by simp) hs, fun le => ?_, ?_⟩
  · intro p' r' l' o' H3 n1 n2 n3 n4 k3 b3
    exact g1 ok le p' r' l' o' H3 (k02.free0 n1) (k02.free0 n2) (k02.free0 n3) (k02.free0 n4) (k02.trans k3) b3
  · intro i op hi le bad H3 k3
    exact g2 ok i op hi le bad H3 (k02.trans k3)
end
end G
set_option Elab.async false
set_option linter.all false
set_option maxRecDepth 100000
set_option maxHeartbeats 1000000
namespace G
--#FAM KP
open PySem PySem.Spec PyProof.Rows L2
local macro_rules
  | `(tactic| walk_at "1") => `(tactic| first
    | with_reducible refine w_seq ?_
    | with_reducible refine w_asg ?_
    | with_reducible refine w_asgS ?_
    | with_reducible refine w_asf ?_
    | with_reducible refine w_drop ?_
    | with_reducible refine w_ret ?_
    | with_reducible refine w_if ?_
    | with_reducible refine w_not ?_
    | with_reducible refine w_and ?_
    | with_reducible refine w_or ?_
    | with_reducible refine w_test ?_
    | with_reducible refine w_tb ?_
    | with_reducible refine w_chain ?_
    | with_reducible refine w_op ?_
    | with_reducible refine w_un ?_
    | with_reducible refine w_andV ?_
    | with_reducible refine w_orV ?_
    | with_reducible refine w_notV ?_
    | with_reducible refine w_ifE ?_
    | with_reducible refine w_cons ?_
    | with_reducible refine w_nil ?_
    | with_reducible refine w_cb ?_
    | with_reducible refine w_cl ?_
    | with_reducible refine w_mt ?_
    | with_reducible refine w_fld ?_
    | with_reducible refine w_tupN ?_
    | with_reducible refine w_lstN ?_
    | with_reducible refine w_bm ?_
    | with_reducible refine w_bm0 ?_
    | with_reducible refine w_for ?_
    | with_reducible refine w_lc ?_
    | with_reducible refine w_iR1 ?_
    | with_reducible refine w_iR2 ?_
    | with_reducible refine w_iL ?_
    | with_reducible refine w_iT ?_
    | with_reducible refine w_iE ?_
    | with_reducible refine w_iZ ?_
    | with_reducible refine w_var (by with_unfolding_all rfl) ?_
    | with_reducible refine w_c ?_
    | with_reducible refine w_next ?_
    | with_reducible refine w_i0 ?_
    | with_reducible refine w_u1 ?_
    | with_reducible refine w_addI ?_
    | with_reducible refine w_eqI ?_
    | with_reducible refine w_eqS ?_
    | with_reducible refine w_eqB ?_
    | with_reducible refine w_neI ?_
    | with_reducible refine w_neS ?_
    | with_reducible refine w_neB ?_
    | with_reducible refine w_abs ?_
    | with_reducible refine w_intI ?_
    | with_reducible refine w_min2 ?_
    | with_reducible refine w_max2 ?_
    | with_reducible refine w_isN0 ?_
    | with_reducible refine w_isN1 ref_ne ?_
    | with_reducible refine w_isN1 int_ne ?_
    | with_reducible refine w_notN0 ?_
    | with_reducible refine w_notN1 ref_ne ?_
    | with_reducible refine w_notN1 int_ne ?_
    | with_reducible refine w_ex1 ?_
    | with_reducible refine w_n1 ?_
    | with_reducible refine w_n2 ?_
    | with_reducible refine w_tT ?_
    | with_reducible refine w_tF ?_
    | with_reducible refine w_nT ?_
    | with_reducible refine w_nF ?_
    | with_reducible refine w_rz ?_
    | with_reducible refine w_mkN ?_
    | with_reducible refine w_lrgN ?_
    | with_reducible refine w_rg1 ?_
    | with_reducible refine w_rg2 ?_
    | with_reducible refine w_sl ?_
    | with_reducible refine w_np ?_
    | with_reducible refine w_pt ?_
    | with_reducible refine w_tr ?_
    | with_reducible refine w_gn ?_
    | with_reducible refine w_yes ?_
    | with_reducible refine w_m1 ?_
    | with_reducible refine w_asu ?_
    | with_reducible refine w_exS ?_
    | with_reducible refine w_iS ?_
    | with_reducible refine w_g1 ?_
    | with_reducible refine w_gc ?_
    | with_reducible refine w_gt (SqT.of upd_same) rfl ?_)
local macro_rules
  | `(tactic| walk_at "g") => `(tactic| repeat walk_at "1")
local macro_rules
  | `(tactic| walk_at "j1") => `(tactic| first
    | with_reducible refine w_seqI ?_
    | walk_at "1")
local macro_rules
  | `(tactic| walk_at "j") => `(tactic| repeat walk_at "j1")
section
variable {K : PySem.W.Frag} {mg : Str → Option Value}
theorem len__law_mixed (K : PySem.W.Frag) : ∀ vs H Q E, sp__law_mixed K vs H Q E → vs.length = (["cell", "turn"] : List Str).length := by
  rintro vs H Q E ⟨_, _, rfl, _⟩
  rfl
theorem rd__law_mixed (T : Txt K mg) (vs : List V) (H : Hp) (Q : VK) (E : XK) (h : sp__law_mixed K vs H Q E) : t__law_mixed K E { nx := fun _ H' => Q .non H', rt := Q } (start ["cell", "turn", "first", "second"] vs) H := by
  obtain ⟨c, t, rfl, g⟩ := h
  unfold t__law_mixed
  walk_at "g"
  refine w_mulI (cmulR (by omega) (by omega)) ?_
  walk_at "g"
  refine w_mulI (cmulR (by omega) (by omega)) ?_
  walk_at "g"
  refine w_ic (by omega) ?_
  have b1 := Int.emod_nonneg (c * 48271 + t * 69621 + 1234577) (show (2147483647 : Int) ≠ 0 by omega)
  have b2 := Int.emod_lt_of_pos (c * 48271 + t * 69621 + 1234577) (show (0 : Int) < 2147483647 by omega)
  generalize (c * 48271 + t * 69621 + 1234577) % 2147483647 = f at b1 b2 ⊢
  walk_at "g"
  refine w_mulI (cmulR (by omega) (by omega)) ?_
  walk_at "g"
  refine w_mulI (cmulR (by omega) (by omega)) ?_
  walk_at "g"
  refine w_ic (by omega) ?_
  have b3 := Int.emod_nonneg (f * f + t * 40692 + 7919) (show (2147483629 : Int) ≠ 0 by omega)
  have b4 := Int.emod_lt_of_pos (f * f + t * 40692 + 7919) (show (0 : Int) < 2147483629 by omega)
  generalize (f * f + t * 40692 + 7919) % 2147483629 = s at b3 b4 ⊢
  walk_at "g"
  refine w_mulI (cmulR (by omega) (by omega)) ?_
  walk_at "g"
  refine w_ic (by omega) ?_
  walk_at "g"
  refine w_ic ⟨by omega, by omega⟩ ?_
  exact g _
theorem len__law_box (K : PySem.W.Frag) : ∀ vs H Q E, sp__law_box K vs H Q E → vs.length = (["script"] : List Str).length := by
  rintro vs H Q E ⟨_, _, rfl, _⟩
  rfl
theorem rd__law_box (T : Txt K mg) (vs : List V) (H : Hp) (Q : VK) (E : XK) (h : sp__law_box K vs H Q E) : t__law_box K E { nx := fun _ H' => Q .non H', rt := Q } (start ["script", "seed", "cell"] vs) H := by
  obtain ⟨a, ns, rfl, hs, hl, g⟩ := h
  unfold t__law_box
  have e63 : cutV (ns.map V.int) none (some 63) = ns.map V.int := by
    unfold cutV
    have : HT.sIx (ns.map V.int).length (ns.map V.int).length (some 63) = (ns.map V.int).length := by
      rw [show (63 : Int) = ((63 : Nat) : Int) from rfl, HT.sIx_nat]
      rw [List.length_map]
      omega
    rw [this, HT.sIx_none, List.drop_zero, Nat.sub_zero, List.take_length]
  walk_at "g"
  refine w_slL hs fun q H1 nq k1 hq => ?_
  rw [e63] at hq
  walk_at "g"
  refine w_l1 (SqL.of hq) ?_
  refine lp_lst (xs := ns.map V.int) (fun i σ H' => H' = H1 ∧ ∃ (s : Int) (x : Option V), σ = [some (.ref a), some (.int s), x]) ⟨rfl, _, _, rfl⟩ ?_ ?_ ?_
  · rintro i σ' H' hi ⟨rfl, _⟩
    exact SqL.of hq
  · rintro i x σ' H' hx ⟨rfl, s, x2, rfl⟩
    obtain ⟨c, hc, rfl⟩ := at_map hx
    walk_at "g"
    refine w_mulI (cmulR (by omega) (by omega)) ?_
    walk_at "g"
    refine w_ic (by omega) ?_
    walk_at "g"
    exact ⟨rfl, _, _, rfl⟩
  · rintro σ' H' ⟨rfl, s, x2, rfl⟩
    walk_at "g"
    refine w_slL (k1.sql (by simp) hs) fun d H2 nd k2 hd => ?_
    rw [e63] at hd
    walk_at "g"
    refine w_listLN (SqL.of hd) fun c H3 nc k3 hc => ?_
    walk_at "g"
    refine ⟨sz_ok (by show 4 ≤ 1000000; omega), nw fun b H4 nb k4 hb => ?_⟩
    exact g b c H4 (((k1.trans k2).trans k3).free0 nb) ((k1.trans k2).free0 nc) (((k1.trans k2).trans k3).trans k4) ⟨⟨_, _, _, hb⟩, ns, k4.at0 hc, hl⟩
theorem len__law_take (K : PySem.W.Frag) : ∀ vs H Q E, sp__law_take K vs H Q E → vs.length = (["box", "many"] : List Str).length := by
  rintro vs H Q E ⟨_, _, _, rfl, _⟩
  rfl
theorem rd__law_take (T : Txt K mg) (vs : List V) (H : Hp) (Q : VK) (E : XK) (h : sp__law_take K vs H Q E) : t__law_take K E { nx := fun _ H' => Q .non H', rt := Q } (start ["box", "many", "cells", "cell", "digit"] vs) H := by
  obtain ⟨b, c, many, rfl, hm, hm2, bx, g⟩ := h
  unfold t__law_take
  have bc := bx.ne
  obtain ⟨x, y, z, hb⟩ := bx.ob
  obtain ⟨ns, hc, lns⟩ := bx.hc
  -- what comes behind the first if
  have tail : ∀ (x z : Int) (ns : List Int) (x3 x4 : Option V) (H1 : Hp), Kp [b, c] H H1 → H1 b = some (.lst [.int x, .int y, .int z, .ref c]) → H1 c = some (.lst (ns.map V.int)) → ns.length ≤ 63 →
      (tSeq (tIfS (tTest (tOp rGtA (tOp (rIx K) (tVar 0) (tC (.int 0))) (tC (.int 1)))) (tSeq (tAsg (tOp rModA (tCB rIntA (tCons (tOp (rIx K) (tVar 0) (tC (.int 0))) (tNil))) (tVar 1)) (gName 4)) (tSeq (tAsg (tOp rDivA (tOp (rIx K) (tVar 0) (tC (.int 0))) (tVar 1)) (gSub (tVar 0) (tC (.int 0)) rSetL)) (tRet (tVar 4)))) (tNext)) (tSeq (tAsg (tOp rAddA (tOp (rIx K) (tVar 0) (tC (.int 2))) (tC (.int 1))) (gSub (tVar 0) (tC (.int 2)) rSetL)) (tRet (tOp rModA (tCB rIntA (tCons (tCl (sp__law_mixed K) (fun _ => E) (tCons (tOp (rIx K) (tVar 0) (tC (.int 1))) (tCons (tOp (rIx K) (tVar 0) (tC (.int 2))) (tNil)))) (tNil))) (tVar 1))))) { nx := fun x H' => Q V.non H', rt := Q } [some (.ref b), some (.int many), some (.ref c), x3, x4] H1 := by
    intro x z ns x3 x4 H1 k1 hb hc lns
    walk_at "g"
    refine w_ixL (SqL.of hb) at_0 ?_
    walk_at "g"
    refine w_iteD (fun cc => ?_) (fun cc => ?_)
    · walk_at "g"
      refine w_ixL (SqL.of hb) at_0 ?_
      walk_at "g"
      refine w_ic hm ?_
      walk_at "g"
      refine w_ixL (SqL.of hb) at_0 ?_
      walk_at "g"
      refine w_ic ⟨hm, by omega⟩ ?_
      walk_at "g"
      refine w_seT hb (n := 0) rfl fun H2 k2 h2 => ?_
      walk_at "g"
      exact g _ H2 (Int.emod_nonneg _ (by omega)) (Int.emod_lt_of_pos _ hm) (k1.trans (k2.mono (by simp))) ⟨⟨_, _, _, h2⟩, ns, k2.at1 (Ne.symm bc) hc, lns⟩
    · walk_at "g"
      refine w_ixL (SqL.of hb) (i := 2) (v := .int z) rfl ?_
      walk_at "g"
      refine w_seT hb (n := 2) rfl fun H2 k2 h2 => ?_
      walk_at "g"
      refine w_ixL (SqL.of h2) (i := 1) (v := .int y) rfl ?_
      walk_at "g"
      refine w_ixL (SqL.of h2) (i := 2) (v := .int (z + 1)) rfl ?_
      walk_at "g"
      refine ⟨_, _, rfl, fun m => ?_⟩
      walk_at "g"
      refine w_ic hm ?_
      exact g _ H2 (Int.emod_nonneg _ (by omega)) (Int.emod_lt_of_pos _ hm) (k1.trans (k2.mono (by simp))) ⟨⟨_, _, _, h2⟩, ns, k2.at1 (Ne.symm bc) hc, lns⟩
  walk_at "j"
  refine w_ixL (SqL.of hb) (i := 3) (v := .ref c) rfl ?_
  walk_at "j"
  refine w_ifJ (fun σ' H' => ∃ (x z : Int) (ns : List Int) (x3 : Option V), σ' = [some (.ref b), some (.int many), some (.ref c), x3, none] ∧ Kp [b, c] H H' ∧ H' b = some (.lst [.int x, .int y, .int z, .ref c]) ∧ H' c = some (.lst (ns.map V.int)) ∧ ns.length ≤ 63) (fun N hN => ?_) (fun σ' H1 ⟨x, z, ns, x3, es, k1, hb, hc, lns⟩ => ?_)
  · walk_at "g"
    refine w_ixL (SqL.of hb) at_0 ?_
    walk_at "g"
    refine w_iteD (fun c1 => ?_) (fun c1 => ?_)
    · walk_at "g"
      refine w_lenL (SqL.of hc) ?_
      walk_at "g"
      rw [List.length_map]
      refine w_iteD (fun c2 => ?_) (fun c2 => ?_)
      · match ns, hc, lns, c2 with
        | cell :: rest, hc, lns, c2 =>
          walk_at "g"
          refine ⟨w_ty (SqL.of hc), ?_⟩
          walk_at "g"
          refine w_popAt (k := 0) (y := .int cell) hc (by omega) (by omega) (ixN_seq (ixN_pos (by omega) (by rw [List.length_map, List.length_cons]; omega))).1 rfl fun H2 k2 h2 => ?_
          have hc2 : H2 c = some (.lst (rest.map V.int)) := h2
          have hb2 := k2.at1 bc hb
          rw [List.length_cons] at lns
          walk_at "g"
          refine w_ic ⟨by omega, by omega, by decide⟩ ?_
          walk_at "g"
          refine w_iteD (fun c3 => ?_) (fun c3 => ?_)
          · walk_at "g"
            refine w_ixL (SqL.of hb2) (i := 2) (v := .int z) rfl ?_
            walk_at "g"
            refine w_seT hb2 (n := 2) rfl fun H3 k3 h3 => ?_
            walk_at "g"
            refine w_ixL (SqL.of h3) (i := 2) (v := .int (z + 1)) rfl ?_
            walk_at "g"
            refine ⟨_, _, rfl, fun m => ?_⟩
            walk_at "g"
            refine w_ic hm ?_
            exact g _ H3 (Int.emod_nonneg _ (by omega)) (Int.emod_lt_of_pos _ hm) ((k2.mono (by simp)).trans (k3.mono (by simp))) ⟨⟨_, _, _, h3⟩, rest, k3.at1 (Ne.symm bc) hc2, by omega⟩
          · walk_at "g"
            refine w_seT hb2 (n := 0) rfl fun H3 k3 h3 => ?_
            exact hN _ _ ⟨_, _, rest, _, rfl, (k2.mono (by simp)).trans (k3.mono (by simp)), h3, k3.at1 (Ne.symm bc) hc2, by omega⟩
      · walk_at "g"
        exact hN _ _ ⟨_, _, ns, _, rfl, Kp.refl _ _, hb, hc, lns⟩
    · walk_at "g"
      exact hN _ _ ⟨_, _, ns, _, rfl, Kp.refl _ _, hb, hc, lns⟩
  subst es
  exact tail x z ns x3 none H1 k1 hb hc lns
theorem len__law_size (K : PySem.W.Frag) : ∀ vs H Q E, sp22__law_size K vs H Q E → vs.length = (["box"] : List Str).length := by
  rintro vs H Q E ⟨_, _, rfl, _⟩
  rfl
theorem rd__law_size (T : Txt K mg) (vs : List V) (H : Hp) (Q : VK) (E : XK) (h : sp22__law_size K vs H Q E) : t__law_size K E { nx := fun _ H' => Q .non H', rt := Q } (start ["box", "way"] vs) H := by
  obtain ⟨b, c, rfl, bx, g⟩ := h
  unfold t__law_size
  walk_at "g"
  refine ⟨b, c, 16, rfl, by omega, by omega, bx, fun d H1 d1 d2 k1 b1 => ?_⟩
  walk_at "g"
  refine w_iteD (fun cc => ?_) (fun cc => ?_)
  · walk_at "g"
    refine ⟨b, c, 48, rfl, by omega, by omega, b1, fun e H2 e1 e2 k2 b2 => ?_⟩
    obtain ⟨v, ev⟩ : ∃ v : Nat, 13 + e = (v : Int) := ⟨(13 + e).toNat, by omega⟩
    walk_at "g"
    rw [ev]
    exact g v H2 (by omega) (k1.trans k2) b2
  · walk_at "g"
    refine w_iteD (fun cc => ?_) (fun cc => ?_)
    · walk_at "g"
      refine ⟨b, c, 6, rfl, by omega, by omega, b1, fun e H2 e1 e2 k2 b2 => ?_⟩
      obtain ⟨v, ev⟩ : ∃ v : Nat, 7 + e = (v : Int) := ⟨(7 + e).toNat, by omega⟩
      walk_at "g"
      rw [ev]
      exact g v H2 (by omega) (k1.trans k2) b2
    · walk_at "g"
      refine ⟨sz_ok (by show 14 ≤ 1000000; omega), nw fun q H2 nq k2 hq => ?_⟩
      have hq' : H2 q = some (.lst ([0, 1, 2, 3, 3, 4, 4, 4, 5, 5, 5, 6, 6, 6].map V.int)) := hq
      walk_at "g"
      refine w_ixL (SqL.of hq') (at_I (l := [0, 1, 2, 3, 3, 4, 4, 4, 5, 5, 5, 6, 6, 6]) (by omega) (by show d < 14; omega)) ?_
      have bd : ∀ k : Nat, k < 14 → 0 ≤ gI [0, 1, 2, 3, 3, 4, 4, 4, 5, 5, 5, 6, 6, 6] k ∧ gI [0, 1, 2, 3, 3, 4, 4, 4, 5, 5, 5, 6, 6, 6] k ≤ 6 := by decide +kernel
      have := bd d.toNat (by omega)
      obtain ⟨v, ev⟩ : ∃ v : Nat, gI [0, 1, 2, 3, 3, 4, 4, 4, 5, 5, 5, 6, 6, 6] d.toNat = (v : Int) := ⟨(gI [0, 1, 2, 3, 3, 4, 4, 4, 5, 5, 5, 6, 6, 6] d.toNat).toNat, by omega⟩
      rw [ev]
      exact g v H2 (by omega) (k1.trans k2.all) (b1.k0 k2)
theorem len__law_range (K : PySem.W.Frag) : ∀ vs H Q E, sp__law_range K vs H Q E → vs.length = (["box", "size"] : List Str).length := by
  rintro vs H Q E ⟨_, _, _, rfl, _⟩
  rfl
theorem rd__law_range (T : Txt K mg) (vs : List V) (H : Hp) (Q : VK) (E : XK) (h : sp__law_range K vs H Q E) : t__law_range K E { nx := fun _ H' => Q .non H', rt := Q } (start ["box", "size", "low"] vs) H := by
  obtain ⟨b, c, n, rfl, hn, bx, g⟩ := h
  unfold t__law_range
  have first : ∀ H1, Kp [b, c] H H1 → BoxI H1 b c → tRet (tLst (tCons (tC (.int 1)) (tCons (tVar 1) (tNil)))) { nx := fun x H' => Q V.non H', rt := Q } [some (.ref b), some (.int (n : Int)), none] H1 := by
    intro H1 k1 b1
    walk_at "g"
    refine ⟨sz_ok (by show 2 ≤ 1000000; omega), nw fun q H2 nq k2 hq => ?_⟩
    obtain ⟨n1, n2⟩ := b1.fr nq
    exact g 1 n q H2 ⟨by omega, by omega, by omega⟩ (k1.free (by simp [n1, n2]) nq) (k1.trans k2.all) (b1.k0 k2) hq
  walk_at "g"
  refine w_iteD (fun c1 => ?_) (fun c1 => ?_)
  · exact first H (Kp.refl _ _) bx
  · walk_at "g"
    refine ⟨b, c, 2, rfl, by omega, by omega, bx, fun d H1 d1 d2 k1 b1 => ?_⟩
    walk_at "g"
    refine w_iteD (fun c2 => ?_) (fun c2 => ?_)
    · exact first H1 k1 b1
    · walk_at "g"
      refine ⟨b, c, _, rfl, by omega, by omega, b1, fun e H2 e1 e2 k2 b2 => ?_⟩
      walk_at "g"
      refine ⟨b, c, 5, rfl, by omega, by omega, b2, fun f H3 f1 f2 k3 b3 => ?_⟩
      walk_at "g"
      have em : 1 + e ≤ (if 1 + e + 3 + f < (n : Int) then 1 + e + 3 + f else (n : Int)) ∧ (if 1 + e + 3 + f < (n : Int) then 1 + e + 3 + f else (n : Int)) ≤ n := by
        split <;> omega
      generalize (if 1 + e + 3 + f < (n : Int) then 1 + e + 3 + f else (n : Int)) = hi at em ⊢
      refine ⟨sz_ok (by show 2 ≤ 1000000; omega), nw fun q H4 nq k4 hq => ?_⟩
      obtain ⟨n1, n2⟩ := b3.fr nq
      have k03 := (k1.trans k2).trans k3
      exact g (1 + e) hi q H4 ⟨by omega, by omega, by omega⟩ (k03.free (by simp [n1, n2]) nq) (k03.trans k4.all) (b3.k0 k4) hq
theorem rg_snoc (a : Int) (i : Nat) : (rgI a (i + 1)).map V.int = (rgI a i).map V.int ++ [V.int (a + (i : Int))] := by
  unfold rgI
  rw [List.range_succ, List.map_append, List.map_append] <;> rfl
theorem len__law_start (K : PySem.W.Frag) : ∀ vs H Q E, sp__law_start K vs H Q E → vs.length = (["size"] : List Str).length := by
  rintro vs H Q E ⟨_, rfl, _⟩
  rfl
theorem rd__law_start (T : Txt K mg) (vs : List V) (H : Hp) (Q : VK) (E : XK) (h : sp__law_start K vs H Q E) : t__law_start K E { nx := fun _ H' => Q .non H', rt := Q } (start ["size", "v"] vs) H := by
  obtain ⟨n, rfl, hn, g⟩ := h
  unfold t__law_start
  walk_at "g"
  refine w_r1 (by omega) ?_
  refine cp_rng (fun i => (rgI (-1) i).map V.int) (fun i hi => sz_lt (by rw [List.length_map, rgI_len]; omega)) rfl (fun i H' S N hi k y _ => ?_) (fun l H1 nl k1 hl => ?_)
  · walk_at "g"
    refine ⟨rfl, ?_⟩
    walk_at "g"
    refine y _ _ (Kp.refl _ _) ?_
    rw [rg_snoc, show (0 : Int) + (i : Int) - 1 = -1 + (i : Int) by omega]
  rw [show ((n : Int) + 2).toNat = n + 2 by omega] at hl
  walk_at "g"
  refine w_r1 (by omega) ?_
  refine cp_rng (fun i => (rgI 1 i).map V.int) (fun i hi => sz_lt (by rw [List.length_map, rgI_len]; omega)) rfl (fun i H' S N hi k y _ => ?_) (fun r H2 nr k2 hr => ?_)
  · walk_at "g"
    refine ⟨rfl, ?_⟩
    walk_at "g"
    refine y _ _ (Kp.refl _ _) ?_
    rw [rg_snoc, show (0 : Int) + (i : Int) + 1 = 1 + (i : Int) by omega]
  rw [show ((n : Int) + 2).toNat = n + 2 by omega] at hr
  walk_at "g"
  refine ⟨sz_ok (by show 1 ≤ 1000000; omega), nw fun z H3 nz k3 hz => ?_⟩
  walk_at "g"
  refine w_mulLN hz (by omega) (by omega) (sz_ok (by show 1 * _ ≤ _; omega)) fun s H4 ns k4 hs => ?_
  walk_at "g"
  have hs' : H4 s = some (.lst ((List.replicate (n + 2) (0 : Int)).map V.int)) := by
    rw [hs, show ((n : Int) + 2).toNat = n + 2 by omega, rep_flat, List.map_replicate]
  refine ⟨sz_ok (by show 3 ≤ 1000000; omega), nw fun w H5 nw k5 hw => ?_⟩
  have k24 := k3.trans k4
  have hl4 := (k2.trans k24).at0 hl
  have hr4 := k24.at0 hr
  have g0 : ∀ v, gI (List.replicate (n + 2) (0 : Int)) v = 0 := by
    intro v
    unfold gI
    rw [List.getD_eq_getElem?_getD]
    by_cases h : v < n + 2
    · rw [List.getElem?_replicate_of_lt h] <;> rfl
    · rw [List.getElem?_eq_none (by rw [List.length_replicate]; omega)] <;> rfl
  refine g w l r s H5 ((k1.trans (k2.trans k24)).free0 nw) nl (k1.free0 nr) ((k1.trans (k2.trans k3)).free0 ns) ((k1.trans (k2.trans k24)).trans k5)
    ⟨hw, ⟨_, k5.at0 hl4, by rw [rgI_len], fun v h1 h2 => ?_⟩, ⟨_, k5.at0 hr4, by rw [rgI_len], fun v h2 => ?_⟩, ⟨_, k5.at0 hs', by rw [List.length_replicate], fun v _ _ => g0 v, g0 0, g0 _⟩, ⟨ne_of_none hl nr, ne_of_none ((k2.trans k3).at0 hl) ns, ne_of_none (k3.at0 hr) ns, (ne_of_none hl4 nw).symm, (ne_of_none hr4 nw).symm, (ne_of_none hs' nw).symm⟩, fun i op h => by simp at h, once_nil, hn⟩
  · show _ = gI (0 :: rgI 0 (n + 1)) v
    obtain ⟨u, rfl⟩ : ∃ u, v = u + 1 := ⟨v - 1, by omega⟩
    show _ = gI (rgI 0 (n + 1)) u
    rw [gI_range (by omega), gI_range (by omega)]
    omega
  · show _ = gI (rgI 1 (n + 1)) v
    rw [gI_range (by omega), gI_range (by omega)]
theorem leg_alt {n : Nat} (hn : n ≤ 60) {log : List Int} (le : Leg (wholeS n) log) : Alt log := fun i op hi => ((ok_out hn (le.take i)).mp (le i op hi)).2
theorem LB.wf {H : Hp} {w l r g : Addr} {n : Nat} {log : List Int} (a : LB H w l r g n log) : Wf (runS (wholeS n) log) := Leg.wf (.whole a.n60) a.le
theorem LB.stg2 {H : Hp} {w l r g : Addr} {n : Nat} {log : List Int} (a : LB H w l r g n log) {v : Nat} (hv : 1 ≤ v) : stgF log v = 2 ↔ (v : Int) ∈ log := stg2_iff (leg_alt a.n60 a.le) a.oo hv
theorem len__law_late (K : PySem.W.Frag) : ∀ vs H Q E, sp__law_late K vs H Q E → vs.length = (["book", "node"] : List Str).length := by
  rintro vs H Q E ⟨_, _, _, _, _, _, _, rfl, _⟩
  rfl
theorem rd__law_late (T : Txt K mg) (vs : List V) (H : Hp) (Q : VK) (E : XK) (h : sp__law_late K vs H Q E) : t__law_late K E { nx := fun _ H' => Q .non H', rt := Q } (start ["book", "node", "gaps", "before", "behind"] vs) H := by
  obtain ⟨w, l, r, sg, n, v, log, rfl, a, v1, v2, g⟩ := h
  unfold t__law_late
  have wf := a.wf
  have n60 := a.n60
  have sn : (runS (wholeS n) log).n = n := by rw [runS_n] <;> rfl
  have st2 := fun u (hu : 1 ≤ u) => a.stg2 (v := u) hu
  obtain ⟨L', hL, lL, eL⟩ := a.hl
  obtain ⟨R', hR, lR, eR⟩ := a.hr
  obtain ⟨G', hG, lG, eG, eG0, eG1⟩ := a.hg
  unfold lateL at g
  generalize es : runS (wholeS n) log = s at wf sn g eL eR
  obtain ⟨r1, r2⟩ := wf.rb v (by omega)
  obtain ⟨l1, l2⟩ := wf.lb v (by omega) (by omega)
  obtain ⟨lo, elo⟩ : ∃ lo : Nat, gI s.L v = (lo : Int) := ⟨(gI s.L v).toNat, by omega⟩
  obtain ⟨hi, ehi⟩ : ∃ hi : Nat, gI s.R v = (hi : Int) + 1 := ⟨(gI s.R v).toNat - 1, by omega⟩
  rw [elo, ehi] at g
  walk_at "j"
  refine ⟨sz_ok (Nat.zero_le _), nw fun q H1 nq k1 hq => ?_⟩
  walk_at "j"
  have a1 := a.k0 k1
  have ob1 := a1.ob
  refine w_ixL (SqL.of ob1) at_0 ?_
  walk_at "j"
  refine w_ixL (SqL.of (k1.at0 hL)) (at_I (by omega) (by omega)) ?_
  rw [Int.toNat_natCast, eL v v1 (by omega), elo]
  walk_at "j"
  refine w_ixL (SqL.of ob1) (i := 1) (v := .ref r) rfl ?_
  walk_at "j"
  refine w_ixL (SqL.of (k1.at0 hR)) (at_I (by omega) (by omega)) ?_
  rw [Int.toNat_natCast, eR v v2, ehi]
  walk_at "j"
  generalize e1 : (if (lo : Int) ≠ (v : Int) - 1 ∧ (lo : Int) + 1 ∈ log then [(lo : Int)] else []) = g1 at g
  generalize e2 : (if (hi : Int) + 1 ≠ (v : Int) + 1 ∧ (hi : Int) + 1 - 1 ∈ log then [(hi : Int) + 1 - 1] else []) = g2 at g
  have l1' : g1.length ≤ 1 := by rw [← e1]; split <;> simp
  have fin : ∀ H', Kp [q] H1 H' → H' q = some (.lst ((g1 ++ g2).map V.int)) → Q (.ref q) H' := fun H' k h => g q H' nq (k1.all.trans k |>.cut1 nq) h
  have wq : w ≠ q := ne_of_none a.ob nq
  have gq : sg ≠ q := ne_of_none hG nq
  have hG1 := k1.at0 hG
  have m1 : (gI G' (lo + 1) = 2) ↔ (lo : Int) + 1 ∈ log := by
    rw [eG (lo + 1) (by omega) (by omega)]
    have := st2 (lo + 1) (by omega)
    rw [show (lo : Int) + 1 = ((lo + 1 : Nat) : Int) by omega, ← this]
    omega
  have m2 : (gI G' hi = 2) ↔ (hi : Int) + 1 - 1 ∈ log := by
    rw [eG hi (by omega) (by omega)]
    have := st2 hi (by omega)
    rw [show (hi : Int) + 1 - 1 = (hi : Int) by omega, ← this]
    omega
  refine w_ifK (fun H' => Kp [q] H1 H' ∧ H' q = some (.lst (g1.map V.int))) (fun N hN => ?_) (fun H2 ⟨k2, hq2⟩ => ?_)
  · walk_at "g"
    refine w_iteN (fun c1 => ?_) (fun c1 => ?_)
    · walk_at "g"
      refine w_ixL (SqL.of ob1) (i := 2) (v := .ref sg) rfl ?_
      walk_at "g"
      refine w_ixL (SqL.of hG1) (at_I (by omega) (by omega)) ?_
      rw [show ((lo : Int) + 1).toNat = lo + 1 by omega]
      walk_at "g"
      refine w_iteD (fun c2 => ?_) (fun c2 => ?_)
      · walk_at "g"
        refine ⟨w_ty (SqL.of hq), ?_⟩
        walk_at "g"
        refine w_apT hq (sz_lt (by show 0 < 1000000; omega)) fun H2 k2 hq2 => ?_
        refine hN _ ⟨k2, ?_⟩
        rw [if_pos ⟨c1, m1.mp c2⟩] at e1
        rw [hq2, ← e1] <;> rfl
      · walk_at "g"
        refine hN _ ⟨Kp.refl _ _, ?_⟩
        rw [if_neg (fun z => c2 (m1.mpr z.2))] at e1
        rw [hq, ← e1] <;> rfl
    · walk_at "g"
      refine hN _ ⟨Kp.refl _ _, ?_⟩
      rw [if_neg (fun z => z.1 c1)] at e1
      rw [hq, ← e1] <;> rfl
  walk_at "j"
  refine w_ifK (fun H' => Kp [q] H1 H' ∧ H' q = some (.lst ((g1 ++ g2).map V.int))) (fun N hN => ?_) (fun H3 ⟨k3, hq3⟩ => ?_)
  · walk_at "g"
    refine w_iteN (fun c1 => ?_) (fun c1 => ?_)
    · walk_at "g"
      refine w_ixL (SqL.of (k2.at1 wq ob1)) (i := 2) (v := .ref sg) rfl ?_
      walk_at "g"
      refine w_ixL (SqL.of (k2.at1 gq hG1)) (at_I (by omega) (by omega)) ?_
      rw [show ((hi : Int) + 1 - 1).toNat = hi by omega]
      walk_at "g"
      refine w_iteD (fun c2 => ?_) (fun c2 => ?_)
      · walk_at "g"
        refine ⟨w_ty (SqL.of hq2), ?_⟩
        walk_at "g"
        refine w_apT hq2 (sz_lt (by rw [List.length_map]; omega)) fun H3 k3 hq3 => ?_
        refine hN _ ⟨k2.trans k3, ?_⟩
        rw [if_pos ⟨c1, m2.mp c2⟩] at e2
        rw [hq3, ← e2, List.map_append] <;> rfl
      · walk_at "g"
        refine hN _ ⟨k2, ?_⟩
        rw [if_neg (fun z => c2 (m2.mpr z.2))] at e2
        rw [hq2, ← e2, List.append_nil]
    · walk_at "g"
      refine hN _ ⟨k2, ?_⟩
      rw [if_neg (fun z => z.1 c1)] at e2
      rw [hq2, ← e2, List.append_nil]
  walk_at "g"
  exact fin H3 k3 hq3
theorem len__law_step (K : PySem.W.Frag) : ∀ vs H Q E, sp22__law_step K vs H Q E → vs.length = (["book", "operation"] : List Str).length := by
  rintro vs H Q E ⟨_, _, _, _, _, _, _, rfl, _⟩
  rfl
theorem rd__law_step (T : Txt K mg) (vs : List V) (H : Hp) (Q : VK) (E : XK) (h : sp22__law_step K vs H Q E) : t__law_step K E { nx := fun _ H' => Q .non H', rt := Q } (start ["book", "operation", "lefts", "rights", "stage", "node", "before", "behind"] vs) H := by
  obtain ⟨w, l, r, sg, n, log, op, rfl, a, ok, once, g⟩ := h
  unfold t__law_step
  have wf := a.wf
  have n60 := a.n60
  have sn : (runS (wholeS n) log).n = n := by rw [runS_n] <;> rfl
  obtain ⟨L', hL, lL, eL⟩ := a.hl
  obtain ⟨R', hR, lR, eR⟩ := a.hr
  obtain ⟨G', hG, lG, eG, eG0, eG1⟩ := a.hg
  obtain ⟨n1, n2, n3, n4, n5, n6⟩ := a.ne
  have iop := ok.1
  rw [sn] at iop
  obtain ⟨i1, i2⟩ := iop
  obtain ⟨t1, t2, t3, t4, t5⟩ := touch_bd wf ok.1
  rw [sn] at t3
  have le2 : Leg (wholeS n) (log ++ [op]) := a.le.snoc ok
  have oo2 : OnceA (log ++ [op]) := a.oo.snoc once
  have sR := step_gR wf ok.1
  have sL := step_gL wf ok.1
  have er : runS (wholeS n) (log ++ [op]) = stepS (runS (wholeS n) log) op := runS_snoc _ _ _
  generalize es : runS (wholeS n) log = s at wf sn t1 t2 t3 t4 t5 eL eR sR sL er
  generalize elo : lowN s op = lo at t1 t4 sR sL
  generalize ehi : hiN s op = hi at t2 t3 t5 sR sL
  walk_at "g"
  refine w_ixL (SqL.of a.ob) at_0 ?_
  walk_at "g"
  refine w_ixL (SqL.of a.ob) (i := 1) (v := .ref r) rfl ?_
  walk_at "g"
  refine w_ixL (SqL.of a.ob) (i := 2) (v := .ref sg) rfl ?_
  walk_at "g"
  rw [natAbs_if]
  refine w_ixL (SqL.of hL) (at_I (by omega) (by omega)) ?_
  rw [Int.toNat_natCast, eL _ i1 (by omega), t4]
  walk_at "g"
  refine w_ixL (SqL.of hR) (at_I (by omega) (by omega)) ?_
  rw [Int.toNat_natCast, eR _ i2, t5]
  walk_at "g"
  have ir : ixN (R'.map V.int).length (lo : Int) = some lo := by rw [ixN_pos (by omega) (by rw [List.length_map]; omega), Int.toNat_natCast]
  have il : ixN (L'.map V.int).length ((hi : Int) + 1) = some (hi + 1) := by rw [ixN_pos (by omega) (by rw [List.length_map]; omega), show ((hi : Int) + 1).toNat = hi + 1 by omega]
  have ig : ixN (G'.map V.int).length (op.natAbs : Int) = some op.natAbs := by rw [ixN_pos (by omega) (by rw [List.length_map]; omega), Int.toNat_natCast]
  have fin : ∀ (x y z : Int) H1 H2 H3, x = (if op < 0 then (hi : Int) + 1 else (op.natAbs : Int)) → y = (if op < 0 then (lo : Int) else (op.natAbs : Int)) → z = (if op < 0 then 1 else 2) →
      Kp [r] H H1 → H1 r = some (.lst ((R'.map V.int).set lo (.int x))) → Kp [l] H1 H2 → H2 l = some (.lst ((L'.map V.int).set (hi + 1) (.int y))) → Kp [sg] H2 H3 → H3 sg = some (.lst ((G'.map V.int).set op.natAbs (.int z))) → Q .non H3 := by
    intro x y z H1 H2 H3 ex ey ez k1 h1 k2 h2 k3 h3
    have kk : Kp [l, r, sg] H H3 := ((k1.mono (by simp)).trans (k2.mono (by simp))).trans (k3.mono (by simp))
    refine g H3 kk ⟨kk _ _ (by simp [n4, n5, n6]) a.ob, ⟨L'.set (hi + 1) y, ?_, by rw [List.length_set, lL], fun v v1 v2 => ?_⟩, ⟨R'.set lo x, ?_, by rw [List.length_set, lR], fun v v2 => ?_⟩, ⟨G'.set op.natAbs z, ?_, by rw [List.length_set, lG], fun v v1 v2 => ?_, ?_, ?_⟩, a.ne, le2, oo2, n60⟩
    · rw [k3.at1 n2 h2, set_I]
    · rw [er, gI_set (by rw [lL]; omega)]
      obtain ⟨u, rfl⟩ : ∃ u, v = u + 1 := ⟨v - 1, by omega⟩
      rw [sL u]
      by_cases c : u = hi
      · rw [if_pos (by omega), if_pos c, ey]
      · rw [if_neg (by omega), if_neg c]
        exact eL _ (by omega) (by omega)
    · rw [k3.at1 n3 (k2.at1 (Ne.symm n1) h1), set_I]
    · rw [er, gI_set (by rw [lR]; omega), sR v]
      by_cases c : v = lo
      · rw [if_pos c, if_pos c, ex]
      · rw [if_neg c, if_neg c]
        exact eR _ v2
    · rw [h3, set_I]
    · rw [gI_set (by rw [lG]; omega), stgF_snoc]
      by_cases c : v = op.natAbs
      · rw [if_pos c, if_pos c.symm, ez]
        split <;> rfl
      · rw [if_neg c, if_neg (Ne.symm c)]
        exact eG v v1 v2
    · rw [gI_set (by rw [lG]; omega), if_neg (by omega)]
      exact eG0
    · rw [gI_set (by rw [lG]; omega), if_neg (by omega)]
      exact eG1
  refine w_iteD (fun c => ?_) (fun c => ?_)
  all_goals
    walk_at "g"
    refine w_seT hR ir fun H1 k1 h1 => ?_
    walk_at "g"
    refine w_seT (k1.at1 n1 hL) il fun H2 k2 h2 => ?_
    walk_at "g"
    refine w_seT (k2.at1 (Ne.symm n2) (k1.at1 (Ne.symm n3) hG)) ig fun H3 k3 h3 => ?_
  · exact fin _ _ _ H1 H2 H3 (if_pos c).symm (if_pos c).symm (if_pos c).symm k1 h1 k2 h2 k3 h3
  · exact fin _ _ _ H1 H2 H3 (if_neg c).symm (if_neg c).symm (if_neg c).symm k1 h1 k2 h2 k3 h3
theorem len__law_pattern (K : PySem.W.Frag) : ∀ vs H Q E, sp__law_pattern K vs H Q E → vs.length = (["box", "low", "high"] : List Str).length := by
  rintro vs H Q E ⟨_, _, _, _, rfl, _⟩
  rfl
theorem rd__law_pattern (T : Txt K mg) (vs : List V) (H : Hp) (Q : VK) (E : XK) (h : sp__law_pattern K vs H Q E) : t__law_pattern K E { nx := fun _ H' => Q .non H', rt := Q } (start ["box", "low", "high", "one", "other"] vs) H := by
  obtain ⟨b, c, lo, hi, rfl, ⟨p1, p2⟩, bx, g⟩ := h
  unfold t__law_pattern
  have none_ : ∀ H1, Kp [b, c] H H1 → BoxI H1 b c → tRet (tLst tNil) { nx := fun x H' => Q V.non H', rt := Q } [some (.ref b), some (.int lo), some (.int hi), none, none] H1 := by
    intro H1 k1 b1
    walk_at "g"
    refine ⟨sz_ok (Nat.zero_le _), nw fun q H2 nq k2 hq => ?_⟩
    obtain ⟨n1, n2⟩ := b1.fr nq
    exact g [] q H2 (.inl rfl) (k1.free (by simp [n1, n2]) nq) (k1.trans k2.all) (b1.k0 k2) hq
  walk_at "g"
  refine ⟨b, c, 2, rfl, by omega, by omega, bx, fun d H1 d1 d2 k1 b1 => ?_⟩
  walk_at "g"
  refine w_iteD (fun c1 => ?_) (fun c1 => ?_)
  · exact none_ H1 k1 b1
  walk_at "g"
  refine w_iteD (fun c2 => ?_) (fun c2 => ?_)
  · exact none_ H1 k1 b1
  walk_at "j"
  refine ⟨b, c, _, rfl, by omega, by omega, b1, fun e H2 e1 e2 k2 b2 => ?_⟩
  walk_at "j"
  refine w_ifJ (fun σ' H' => ∃ y : Int, σ' = [some (.ref b), some (.int lo), some (.int hi), some (.int (lo + e)), some (.int y)] ∧ Kp [b, c] H H' ∧ BoxI H' b c ∧ lo ≤ y ∧ y ≤ hi ∧ lo + e ≠ y) (fun N hN => ?_) (fun σ' H3 ⟨y, es, k3, b3, y1, y2, y3⟩ => ?_)
  · walk_at "g"
    refine w_iteD (fun c3 => ?_) (fun c3 => ?_)
    · walk_at "g"
      exact hN _ _ ⟨_, rfl, k1.trans k2, b2, by omega, by omega, by omega⟩
    · walk_at "g"
      refine w_iteD (fun c4 => ?_) (fun c4 => ?_)
      · walk_at "g"
        refine ⟨b, c, 2, rfl, by omega, by omega, b2, fun f H3 f1 f2 k3 b3 => ?_⟩
        walk_at "g"
        refine w_iteD (fun c5 => ?_) (fun c5 => ?_)
        · walk_at "g"
          exact hN _ _ ⟨_, rfl, (k1.trans k2).trans k3, b3, by omega, by omega, by omega⟩
        · walk_at "g"
          exact hN _ _ ⟨_, rfl, (k1.trans k2).trans k3, b3, by omega, by omega, by omega⟩
      · walk_at "g"
        exact hN _ _ ⟨_, rfl, k1.trans k2, b2, by omega, by omega, by omega⟩
  subst es
  walk_at "g"
  refine ⟨sz_ok (by show 3 ≤ 1000000; omega), nw fun q H4 nq k4 hq => ?_⟩
  obtain ⟨n1, n2⟩ := b3.fr nq
  exact g [lo + e, y, lo + e] q H4 (.inr ⟨_, _, rfl, by omega, by omega, y1, y2, y3⟩) (k3.free (by simp [n1, n2]) nq) (k3.trans k4.all) (b3.k0 k4) hq
theorem w_isiT {H : Hp} {Q : VK} {a : Addr} {xs : List V} {t : String} {r : Bool} (e : H a = some (.tup xs)) (h : kitB "tuple" t = some r) (g : Q (.bl r) H) : rIsi K [.ref a, .ty t] H Q := ⟨_, _, _, _, r, rfl, .ty t, .base (.tup e), kit_ty h, g⟩
theorem len__law_integer (K : PySem.W.Frag) : ∀ vs H Q E, sp__law_integer K vs H Q E → vs.length = (["told"] : List Str).length := by
  rintro vs H Q E ⟨_, rfl, _⟩
  rfl
theorem rd__law_integer (T : Txt K mg) (vs : List V) (H : Hp) (Q : VK) (E : XK) (h : sp__law_integer K vs H Q E) : t__law_integer K E { nx := fun _ H' => Q .non H', rt := Q } (start ["told"] vs) H := by
  obtain ⟨i, rfl, g⟩ := h
  unfold t__law_integer
  walk_at "g"
  refine w_isiI (r := true) (by decide +kernel) ?_
  walk_at "g"
  refine w_isiI (r := false) (by decide +kernel) ?_
  walk_at "g"
  exact g
theorem len__law_row (K : PySem.W.Frag) : ∀ vs H Q E, sp__law_row K vs H Q E → vs.length = (["told", "due"] : List Str).length := by
  rintro vs H Q E ⟨_, _, _, rfl, _⟩
  rfl
theorem rd__law_row (T : Txt K mg) (vs : List V) (H : Hp) (Q : VK) (E : XK) (h : sp__law_row K vs H Q E) : t__law_row K E { nx := fun _ H' => Q .non H', rt := Q } (start ["told", "due", "k"] vs) H := by
  obtain ⟨a, b, xs, rfl, hl, ha, hb, g⟩ := h
  unfold t__law_row
  walk_at "g"
  refine w_isiL (r := true) ha (by decide +kernel) ?_
  walk_at "g"
  refine w_lenL (SqL.of ha) ?_
  walk_at "g"
  refine w_lenL (SqL.of hb) ?_
  walk_at "g"
  rw [decide_eq_true rfl]
  walk_at "g"
  refine w_lenL (SqL.of hb) ?_
  walk_at "g"
  refine w_r1 (by rw [List.length_map]; omega) ?_
  refine lp_rng0 (fun i σ H' => H' = H ∧ ∃ v, σ = [some (.ref a), some (.ref b), v]) ⟨rfl, _, rfl⟩ ?_ ?_
  · rintro i σ' H' hi ⟨rfl, v, rfl⟩
    rw [List.length_map] at hi
    have li : i < xs.length := by omega
    have e1 := at_I (l := xs) (i := (i : Int)) (by omega) (by omega)
    walk_at "g"
    refine w_ixL (SqL.of ha) e1 ?_
    walk_at "g"
    refine ⟨_, rfl, ?_⟩
    walk_at "g"
    refine w_ixL (SqL.of ha) e1 ?_
    walk_at "g"
    refine w_ixL (SqL.of hb) e1 ?_
    walk_at "g"
    rw [decide_eq_true rfl]
    walk_at "g"
    exact ⟨rfl, _, rfl⟩
  · rintro σ' H' ⟨rfl, v, rfl⟩
    walk_at "g"
    exact g
theorem w_isiO {H : Hp} {Q : VK} (T : Txt K mg) {a dx : Addr} {fs : List (Str × V)} (e : H a = some (.ins (He.ga K "Links") dx fs)) (g : Q (.bl true) H) : rIsi K [.ref a, .ref (He.ga K "Links")] H Q :=
  ⟨_, _, .ref (He.ga K "Links"), .ref (He.ga K "Links"), true, rfl, .own _, .base (.ins e T.cl_Links T.ty_Links.1 T.ex_LinkError.gs T.ex_LinkError.tk T.ty_Links.2), by
    unfold PySem.W.kitOne
    rw [if_pos (by simp)], g⟩
theorem dpB {H : Hp} : ∀ xs : List Bool, DpAll K H (xs.map V.bl) (xs.map PyData.bool)
  | [] => .nil
  | x :: xs => .cons (.bl x) (dpB xs)
theorem layB : ∀ xs : List Bool, PyData.canLayAll0 (xs.map PyData.bool) = true
  | [] => rfl
  | x :: xs => by
    show PyData.canLayAll0 (PyData.bool x :: xs.map PyData.bool) = true
    rw [PyData.canLayAll0, layB xs] <;> rfl
theorem depB : ∀ xs : List Bool, PyData.depthAll (xs.map PyData.bool) ≤ 1
  | [] => by simp [PyData.depthAll]
  | x :: xs => by
    have := depB xs
    show PyData.depthAll (PyData.bool x :: xs.map PyData.bool) ≤ 1
    rw [PyData.depthAll]
    simp [PyData.depth]
    omega
theorem shB (xs : List Bool) : SeqAt.shaped (.list (xs.map PyData.bool)) = true := by
  unfold SeqAt.shaped
  rw [PyData.canLay0, layB, PyData.depth]
  have := depB xs
  simp
  omega
theorem eqvI : ∀ xs ys : List Int, PyData.eqvAll (xs.map PyData.int) (ys.map PyData.int) = decide (xs = ys)
  | [], [] => by simp [PyData.eqvAll]
  | [], y :: ys => by simp [PyData.eqvAll]
  | x :: xs, [] => by simp [PyData.eqvAll]
  | x :: xs, y :: ys => by
    show PyData.eqvAll (PyData.int x :: xs.map PyData.int) (PyData.int y :: ys.map PyData.int) = _
    rw [PyData.eqvAll, eqvI xs ys, PyData.eqv]
    by_cases h : x = y <;> by_cases h2 : xs = ys <;> simp [h, h2]
theorem eqvB : ∀ xs ys : List Bool, PyData.eqvAll (xs.map PyData.bool) (ys.map PyData.bool) = decide (xs = ys)
  | [], [] => by simp [PyData.eqvAll]
  | [], y :: ys => by simp [PyData.eqvAll]
  | x :: xs, [] => by simp [PyData.eqvAll]
  | x :: xs, y :: ys => by
    show PyData.eqvAll (PyData.bool x :: xs.map PyData.bool) (PyData.bool y :: ys.map PyData.bool) = _
    rw [PyData.eqvAll, eqvB xs ys, PyData.eqv]
    by_cases h : x = y <;> by_cases h2 : xs = ys <;> simp [h, h2]
theorem w_eqLI {H : Hp} {Q : VK} {p q : Addr} {xs ys : List Int} (h1 : H p = some (.lst (xs.map V.int))) (h2 : H q = some (.lst (ys.map V.int))) (g : Q (.bl (decide (xs = ys))) H) : rEqA K (.ref p) (.ref q) H Q :=
  w_eqD (.lst (SqL.of h1) (dpI xs)) (.lst (SqL.of h2) (dpI ys)) (shI xs) (shI ys) (by
    rw [PyData.eqv, eqvI]
    exact g)
theorem w_eqLB {H : Hp} {Q : VK} {p q : Addr} {xs ys : List Bool} (h1 : H p = some (.lst (xs.map V.bl))) (h2 : H q = some (.lst (ys.map V.bl))) (g : Q (.bl (decide (xs = ys))) H) : rEqA K (.ref p) (.ref q) H Q :=
  w_eqD (.lst (SqL.of h1) (dpB xs)) (.lst (SqL.of h2) (dpB ys)) (shB xs) (shB ys) (by
    rw [PyData.eqv, eqvB]
    exact g)
theorem len_Links___eq__ (K : PySem.W.Frag) : ∀ vs H Q E, sp23_Links___eq__ K vs H Q E → vs.length = (["self", "other"] : List Str).length := by
  rintro vs H Q E ⟨_, _, _, _, _, _, _, _, _, _, rfl, _⟩
  rfl
theorem rd_Links___eq__ (T : Txt K mg) (vs : List V) (H : Hp) (Q : VK) (E : XK) (h : sp23_Links___eq__ K vs H Q E) : t_Links___eq__ K E { nx := fun _ H' => Q .non H', rt := Q } (start ["self", "other"] vs) H := by
  obtain ⟨p, r, l, o, p2, r2, l2, o2, s, t, rfl, a, b, g⟩ := h
  unfold t_Links___eq__
  walk_at "g"
  obtain ⟨dx, ob⟩ := b.ob
  refine w_isiO T ob ?_
  walk_at "g"
  refine w_fR T.cl_Links T.na_Links__rights a ?_
  walk_at "g"
  refine w_fR T.cl_Links T.na_Links__rights b ?_
  refine w_eqLI a.hr b.hr ?_
  walk_at "g"
  refine w_iteD (fun c1 => ?_) (fun c1 => ?_)
  · rw [decide_eq_true c1, Bool.true_and] at g
    walk_at "g"
    refine w_fL T.cl_Links T.na_Links__lefts a ?_
    walk_at "g"
    refine w_fL T.cl_Links T.na_Links__lefts b ?_
    refine w_eqLI a.hl b.hl ?_
    walk_at "g"
    refine w_iteD (fun c2 => ?_) (fun c2 => ?_)
    · rw [decide_eq_true c2, Bool.true_and] at g
      walk_at "g"
      refine w_fO T.cl_Links T.na_Links__out a ?_
      walk_at "g"
      refine w_fO T.cl_Links T.na_Links__out b ?_
      exact w_eqLB a.ho b.ho g
    · rw [decide_eq_false c2, Bool.false_and] at g
      exact g
  · rw [decide_eq_false c1, Bool.false_and] at g
    exact g
theorem len_Links_is_whole (K : PySem.W.Frag) : ∀ vs H Q E, sp23_Links_is_whole K vs H Q E → vs.length = (["self"] : List Str).length := by
  rintro vs H Q E ⟨_, _, _, _, _, rfl, _⟩
  rfl
theorem rd_Links_is_whole (T : Txt K mg) (vs : List V) (H : Hp) (Q : VK) (E : XK) (h : sp23_Links_is_whole K vs H Q E) : t_Links_is_whole K E { nx := fun _ H' => Q .non H', rt := Q } (start ["self"] vs) H := by
  obtain ⟨p, r, l, o, s, rfl, a, g⟩ := h
  unfold t_Links_is_whole
  walk_at "g"
  refine w_fS T.cl_Links T.na_Links_size a ?_
  walk_at "g"
  refine mk fun q dx H1 nq hq k1 => ?_
  refine ⟨q, dx, s.n, rfl, hq, fun ok r1 l1 o1 H2 nr1 nl1 no1 k2 b => ⟨rfl, ?_⟩, fun z => absurd ⟨by omega, by have := a.wf.n60; omega⟩ z⟩
  rw [Int.toNat_natCast] at b
  have k02 : Kp [] H H2 := (k1.all.trans k2).cut1 nq
  have a2 := a.k0 k02
  obtain ⟨d1, o1'⟩ := a2.ob
  obtain ⟨d2, o2'⟩ := b.ob
  refine .inr ⟨p, q, d1, d2, _, _, rfl, rfl, o1', o2', p, r, l, o, q, r1, l1, o1, s, wholeS s.n, rfl, a2, b, ⟨_, rfl⟩, ?_⟩
  exact g H2 k02
end
end G
set_option Elab.async false
set_option linter.all false
set_option maxRecDepth 100000
set_option maxHeartbeats 1000000
namespace G
--#FAM KP
open PySem PySem.Spec PyProof.Rows L2
local macro_rules
  | `(tactic| walk_at "1") => `(tactic| first
    | with_reducible refine w_seq ?_
    | with_reducible refine w_asg ?_
    | with_reducible refine w_asgS ?_
    | with_reducible refine w_asf ?_
    | with_reducible refine w_drop ?_
    | with_reducible refine w_ret ?_
    | with_reducible refine w_if ?_
    | with_reducible refine w_not ?_
    | with_reducible refine w_and ?_
    | with_reducible refine w_or ?_
    | with_reducible refine w_test ?_
    | with_reducible refine w_tb ?_
    | with_reducible refine w_chain ?_
    | with_reducible refine w_op ?_
    | with_reducible refine w_un ?_
    | with_reducible refine w_andV ?_
    | with_reducible refine w_orV ?_
    | with_reducible refine w_notV ?_
    | with_reducible refine w_ifE ?_
    | with_reducible refine w_cons ?_
    | with_reducible refine w_nil ?_
    | with_reducible refine w_cb ?_
    | with_reducible refine w_cl ?_
    | with_reducible refine w_mt ?_
    | with_reducible refine w_fld ?_
    | with_reducible refine w_tupN ?_
    | with_reducible refine w_lstN ?_
    | with_reducible refine w_bm ?_
    | with_reducible refine w_bm0 ?_
    | with_reducible refine w_for ?_
    | with_reducible refine w_lc ?_
    | with_reducible refine w_iR1 ?_
    | with_reducible refine w_iR2 ?_
    | with_reducible refine w_iL ?_
    | with_reducible refine w_iT ?_
    | with_reducible refine w_iE ?_
    | with_reducible refine w_iZ ?_
    | with_reducible refine w_var (by with_unfolding_all rfl) ?_
    | with_reducible refine w_c ?_
    | with_reducible refine w_next ?_
    | with_reducible refine w_i0 ?_
    | with_reducible refine w_u1 ?_
    | with_reducible refine w_addI ?_
    | with_reducible refine w_eqI ?_
    | with_reducible refine w_eqS ?_
    | with_reducible refine w_eqB ?_
    | with_reducible refine w_neI ?_
    | with_reducible refine w_neS ?_
    | with_reducible refine w_neB ?_
    | with_reducible refine w_abs ?_
    | with_reducible refine w_intI ?_
    | with_reducible refine w_min2 ?_
    | with_reducible refine w_max2 ?_
    | with_reducible refine w_isN0 ?_
    | with_reducible refine w_isN1 ref_ne ?_
    | with_reducible refine w_isN1 int_ne ?_
    | with_reducible refine w_notN0 ?_
    | with_reducible refine w_notN1 ref_ne ?_
    | with_reducible refine w_notN1 int_ne ?_
    | with_reducible refine w_ex1 ?_
    | with_reducible refine w_n1 ?_
    | with_reducible refine w_n2 ?_
    | with_reducible refine w_tT ?_
    | with_reducible refine w_tF ?_
    | with_reducible refine w_nT ?_
    | with_reducible refine w_nF ?_
    | with_reducible refine w_rz ?_
    | with_reducible refine w_mkN ?_
    | with_reducible refine w_lrgN ?_
    | with_reducible refine w_rg1 ?_
    | with_reducible refine w_rg2 ?_
    | with_reducible refine w_sl ?_
    | with_reducible refine w_np ?_
    | with_reducible refine w_pt ?_
    | with_reducible refine w_tr ?_
    | with_reducible refine w_gn ?_
    | with_reducible refine w_yes ?_
    | with_reducible refine w_m1 ?_
    | with_reducible refine w_asu ?_
    | with_reducible refine w_exS ?_
    | with_reducible refine w_iS ?_
    | with_reducible refine w_g1 ?_
    | with_reducible refine w_gc ?_
    | with_reducible refine w_gt (SqT.of upd_same) rfl ?_)
local macro_rules
  | `(tactic| walk_at "g") => `(tactic| repeat walk_at "1")
local macro_rules
  | `(tactic| walk_at "j1") => `(tactic| first
    | with_reducible refine w_seqI ?_
    | walk_at "1")
local macro_rules
  | `(tactic| walk_at "j") => `(tactic| repeat walk_at "j1")
section
variable {K : PySem.W.Frag} {mg : Str → Option Value}
theorem at_Str {l : List Str} {i : Int} (h0 : 0 ≤ i) (h1 : i < (l.length : Int)) : atI (l.map V.str) i = some (.str (l.getD i.toNat "")) := by
  rw [atI_pos h0 (by rw [List.length_map]; exact h1), List.getElem?_map, List.getD_eq_getElem?_getD, List.getElem?_eq_getElem (by omega)] <;> rfl
theorem w_isiSt {H : Hp} {Q : VK} {x : Str} {t : String} {r : Bool} (h : kitB "str" t = some r) (g : Q (.bl r) H) : rIsi K [.str x, .ty t] H Q := ⟨_, _, _, _, r, rfl, .ty t, .base (.str x), kit_ty h, g⟩
theorem len__law_texts (K : PySem.W.Frag) : ∀ vs H Q E, sp23__law_texts K vs H Q E → vs.length = (["told", "due"] : List Str).length := by
  rintro vs H Q E ⟨_, _, _, rfl, _⟩
  rfl
theorem rd__law_texts (T : Txt K mg) (vs : List V) (H : Hp) (Q : VK) (E : XK) (h : sp23__law_texts K vs H Q E) : t__law_texts K E { nx := fun _ H' => Q .non H', rt := Q } (start ["told", "due", "k"] vs) H := by
  obtain ⟨a, b, xs, rfl, hl, ha, hb, g⟩ := h
  unfold t__law_texts
  walk_at "g"
  refine w_isiL (r := true) ha (by decide +kernel) ?_
  walk_at "g"
  refine w_lenL (SqL.of ha) ?_
  walk_at "g"
  refine w_lenL (SqL.of hb) ?_
  walk_at "g"
  rw [decide_eq_true rfl]
  walk_at "g"
  refine w_lenL (SqL.of hb) ?_
  walk_at "g"
  refine w_r1 (by rw [List.length_map]; omega) ?_
  refine lp_rng0 (fun i σ H' => H' = H ∧ ∃ v, σ = [some (.ref a), some (.ref b), v]) ⟨rfl, _, rfl⟩ ?_ ?_
  · rintro i σ' H' hi ⟨rfl, v, rfl⟩
    rw [List.length_map] at hi
    have li : i < xs.length := by omega
    have e1 := at_Str (l := xs) (i := (i : Int)) (by omega) (by omega)
    walk_at "g"
    refine w_ixL (SqL.of ha) e1 ?_
    walk_at "g"
    refine w_isiSt (r := true) (by decide +kernel) ?_
    walk_at "g"
    refine w_ixL (SqL.of ha) e1 ?_
    walk_at "g"
    refine w_ixL (SqL.of hb) e1 ?_
    walk_at "g"
    rw [decide_eq_true rfl]
    walk_at "g"
    exact ⟨rfl, _, rfl⟩
  · rintro σ' H' ⟨rfl, v, rfl⟩
    walk_at "g"
    exact g
theorem len__law_is_pair (K : PySem.W.Frag) : ∀ vs H Q E, sp23__law_is_pair K vs H Q E → vs.length = (["told", "many", "size"] : List Str).length := by
  rintro vs H Q E ⟨_, _, _, _, _, rfl, _⟩
  rfl
theorem rd__law_is_pair (T : Txt K mg) (vs : List V) (H : Hp) (Q : VK) (E : XK) (h : sp23__law_is_pair K vs H Q E) : t__law_is_pair K E { nx := fun _ H' => Q .non H', rt := Q } (start ["told", "many", "size"] vs) H := by
  obtain ⟨t, i, gp, many, n, rfl, ht, i0, i1, g0, g1, g⟩ := h
  unfold t__law_is_pair
  walk_at "g"
  refine w_isiT (r := true) ht (by decide +kernel) ?_
  walk_at "g"
  refine w_lenT (SqT.of ht) ?_
  walk_at "g"
  rw [show decide ((([V.int i, V.int gp].length : Nat) : Int) = 2) = true from decide_eq_true rfl]
  walk_at "g"
  refine w_ixT (SqT.of ht) at_0 ?_
  walk_at "g"
  refine ⟨_, rfl, ?_⟩
  walk_at "g"
  refine w_ixT (SqT.of ht) (i := 1) (v := .int gp) rfl ?_
  walk_at "g"
  refine ⟨_, rfl, ?_⟩
  walk_at "g"
  refine w_ixT (SqT.of ht) at_0 ?_
  walk_at "g"
  rw [decide_eq_true i0]
  walk_at "g"
  refine w_ixT (SqT.of ht) at_0 ?_
  walk_at "g"
  rw [decide_eq_true i1]
  walk_at "g"
  refine w_ixT (SqT.of ht) (i := 1) (v := .int gp) rfl ?_
  walk_at "g"
  rw [decide_eq_true g0]
  walk_at "g"
  refine w_ixT (SqT.of ht) (i := 1) (v := .int gp) rfl ?_
  walk_at "g"
  rw [decide_eq_true g1]
  exact g
theorem len__law_after (K : PySem.W.Frag) : ∀ vs H Q E, sp23__law_after K vs H Q E → vs.length = (["size", "log"] : List Str).length := by
  rintro vs H Q E ⟨_, _, _, rfl, _⟩
  rfl
theorem rd__law_after (T : Txt K mg) (vs : List V) (H : Hp) (Q : VK) (E : XK) (h : sp23__law_after K vs H Q E) : t__law_after K E { nx := fun _ H' => Q .non H', rt := Q } (start ["size", "log", "book", "operation"] vs) H := by
  obtain ⟨a, n, log, rfl, hn, ha, lo, g⟩ := h
  unfold t__law_after
  walk_at "g"
  refine ⟨n, rfl, hn, fun w l r gg H1 nw1 nl nr ng k1 lb => ?_⟩
  walk_at "g"
  have ha1 := k1.at0 ha
  refine w_l1 (SqL.of ha1) ?_
  have tk : ∀ {i : Nat} {x : Int}, log[i]? = some x → log.take (i + 1) = log.take i ++ [x] := fun h => by rw [List.take_succ, h] <;> rfl
  refine lp_lst (xs := log.map V.int) (fun i σ H' => (∃ u, σ = [some (.int (n : Int)), some (.ref a), some (.ref w), u]) ∧ Kp [] H H' ∧ LB H' w l r gg n (log.take i)) ⟨⟨_, rfl⟩, k1, lb⟩ ?_ ?_ ?_
  · rintro i σ' H' hi ⟨_, k, _⟩
    exact SqL.of (k.at0 ha)
  · rintro i x σ' H' hx ⟨⟨u, rfl⟩, k, lbi⟩
    obtain ⟨op, hop, rfl⟩ := at_map hx
    have leg : Leg (wholeS n) log := leg_of hn lo.ops lo.alt
    walk_at "g"
    refine ⟨w, l, r, gg, n, log.take i, op, rfl, lbi, leg i op hop, fun p => lo.one i op hop p, fun H2 k2 lb2 => ?_⟩
    walk_at "g"
    refine ⟨⟨_, rfl⟩, (k.all.trans k2).cut (by
      intro x hx
      simp only [List.mem_cons, List.not_mem_nil, or_false] at hx
      rcases hx with rfl | rfl | rfl
      · exact .inr nl
      · exact .inr nr
      · exact .inr ng), ?_⟩
    rw [tk hop]
    exact lb2
  · rintro σ' H' ⟨⟨u, rfl⟩, k, lbi⟩
    rw [List.length_map, List.take_length] at lbi
    walk_at "g"
    exact g w l r gg H' nw1 nl nr ng k lbi
end
end G
set_option Elab.async false
set_option linter.all false
set_option maxRecDepth 100000
set_option maxHeartbeats 1000000
namespace G
--#FAM KP
open PySem PySem.Spec PyProof.Rows L2
local macro_rules
  | `(tactic| walk_at "1") => `(tactic| first
    | with_reducible refine w_seq ?_
    | with_reducible refine w_asg ?_
    | with_reducible refine w_asgS ?_
    | with_reducible refine w_asf ?_
    | with_reducible refine w_drop ?_
    | with_reducible refine w_ret ?_
    | with_reducible refine w_if ?_
    | with_reducible refine w_not ?_
    | with_reducible refine w_and ?_
    | with_reducible refine w_or ?_
    | with_reducible refine w_test ?_
    | with_reducible refine w_tb ?_
    | with_reducible refine w_chain ?_
    | with_reducible refine w_op ?_
    | with_reducible refine w_un ?_
    | with_reducible refine w_andV ?_
    | with_reducible refine w_orV ?_
    | with_reducible refine w_notV ?_
    | with_reducible refine w_ifE ?_
    | with_reducible refine w_cons ?_
    | with_reducible refine w_nil ?_
    | with_reducible refine w_cb ?_
    | with_reducible refine w_cl ?_
    | with_reducible refine w_mt ?_
    | with_reducible refine w_fld ?_
    | with_reducible refine w_tupN ?_
    | with_reducible refine w_lstN ?_
    | with_reducible refine w_bm ?_
    | with_reducible refine w_bm0 ?_
    | with_reducible refine w_for ?_
    | with_reducible refine w_lc ?_
    | with_reducible refine w_iR1 ?_
    | with_reducible refine w_iR2 ?_
    | with_reducible refine w_iL ?_
    | with_reducible refine w_iT ?_
    | with_reducible refine w_iE ?_
    | with_reducible refine w_iZ ?_
    | with_reducible refine w_var (by with_unfolding_all rfl) ?_
    | with_reducible refine w_c ?_
    | with_reducible refine w_next ?_
    | with_reducible refine w_i0 ?_
    | with_reducible refine w_u1 ?_
    | with_reducible refine w_addI ?_
    | with_reducible refine w_eqI ?_
    | with_reducible refine w_eqS ?_
    | with_reducible refine w_eqB ?_
    | with_reducible refine w_neI ?_
    | with_reducible refine w_neS ?_
    | with_reducible refine w_neB ?_
    | with_reducible refine w_abs ?_
    | with_reducible refine w_intI ?_
    | with_reducible refine w_min2 ?_
    | with_reducible refine w_max2 ?_
    | with_reducible refine w_isN0 ?_
    | with_reducible refine w_isN1 ref_ne ?_
    | with_reducible refine w_isN1 int_ne ?_
    | with_reducible refine w_notN0 ?_
    | with_reducible refine w_notN1 ref_ne ?_
    | with_reducible refine w_notN1 int_ne ?_
    | with_reducible refine w_ex1 ?_
    | with_reducible refine w_n1 ?_
    | with_reducible refine w_n2 ?_
    | with_reducible refine w_tT ?_
    | with_reducible refine w_tF ?_
    | with_reducible refine w_nT ?_
    | with_reducible refine w_nF ?_
    | with_reducible refine w_rz ?_
    | with_reducible refine w_mkN ?_
    | with_reducible refine w_lrgN ?_
    | with_reducible refine w_rg1 ?_
    | with_reducible refine w_rg2 ?_
    | with_reducible refine w_sl ?_
    | with_reducible refine w_np ?_
    | with_reducible refine w_pt ?_
    | with_reducible refine w_tr ?_
    | with_reducible refine w_gn ?_
    | with_reducible refine w_yes ?_
    | with_reducible refine w_m1 ?_
    | with_reducible refine w_asu ?_
    | with_reducible refine w_exS ?_
    | with_reducible refine w_iS ?_
    | with_reducible refine w_g1 ?_
    | with_reducible refine w_gc ?_
    | with_reducible refine w_gt (SqT.of upd_same) rfl ?_)
local macro_rules
  | `(tactic| walk_at "g") => `(tactic| repeat walk_at "1")
local macro_rules
  | `(tactic| walk_at "j1") => `(tactic| first
    | with_reducible refine w_seqI ?_
    | walk_at "1")
local macro_rules
  | `(tactic| walk_at "j") => `(tactic| repeat walk_at "j1")
section
variable {K : PySem.W.Frag} {mg : Str → Option Value}
theorem at_Sf {f : Nat → Str} {m : Nat} {i : Int} (h0 : 0 ≤ i) (h1 : i < (m : Int)) : atI ((List.range m).map fun (v : Nat) => V.str (f v)) i = some (.str (f i.toNat)) := by
  rw [atI_pos h0 (by rw [List.length_map, List.length_range]; exact h1), List.getElem?_map, List.getElem?_range (by omega)] <;> rfl
theorem w_leT2 {H : Hp} {Q : VK} {a b c d : Int} {p q : Addr} (h1 : SqT K H p [.int a, .int b]) (h2 : SqT K H q [.int c, .int d]) (hb : c < a ∨ (c = a ∧ d < b)) (g : Q (.bl false) H) : rLeT K (.ref p) (.ref q) H Q := by
  refine ⟨p, q, [a, b], [c, d], rfl, rfl, h1, h2, ?_⟩
  have e : Ob.lexAt (fun j => decide (([a, b] : List Int).getD j 0 = ([c, d] : List Int).getD j 0)) (fun j => decide (([a, b] : List Int).getD j 0 ≤ ([c, d] : List Int).getD j 0)) (decide (([a, b] : List Int).length ≤ ([c, d] : List Int).length)) 0 (min ([a, b] : List Int).length ([c, d] : List Int).length) = false := by
    show (if decide (a = c) = true then (if decide (b = d) = true then decide ((2 : Nat) ≤ 2) else decide (b ≤ d)) else decide (a ≤ c)) = false
    rcases hb with h | ⟨h, h'⟩
    · rw [if_neg (by rw [decide_eq_true_iff]; omega), decide_eq_false (by omega)]
    · rw [if_pos (by rw [decide_eq_true_iff]; omega), if_neg (by rw [decide_eq_true_iff]; omega), decide_eq_false (by omega)]
  rw [e]
  exact g
theorem mark_snoc (es : List (Int × Int)) (e : Int × Int) (g : Nat) : markB (es ++ [e]) g = (markB es g || decide (e.2 = (g : Int))) := by
  unfold markB
  rw [List.any_append]
  simp
theorem mark_set {n : Nat} {es : List (Int × Int)} {e : Int × Int} (h0 : 0 ≤ e.2) (h1 : e.2 ≤ n) :
    (((List.range (n + 1)).map fun g => markB es g).map V.bl).set e.2.toNat (V.bl true) = ((List.range (n + 1)).map fun g => markB (es ++ [e]) g).map V.bl := by
  refine List.ext_getElem? fun i => ?_
  by_cases hi : i < n + 1
  · rw [List.getElem?_map, List.getElem?_map, List.getElem?_range hi, List.getElem?_set]
    by_cases c : e.2.toNat = i
    · rw [if_pos c, if_pos (by rw [List.length_map, List.length_map, List.length_range]; omega)]
      show some (V.bl true) = some (V.bl (markB (es ++ [e]) i))
      rw [mark_snoc, decide_eq_true (by omega), Bool.or_true]
    · rw [if_neg c, List.getElem?_map, List.getElem?_map, List.getElem?_range hi]
      show some (V.bl (markB es i)) = some (V.bl (markB (es ++ [e]) i))
      rw [mark_snoc, decide_eq_false (by omega), Bool.or_false]
  · rw [List.getElem?_eq_none (by rw [List.length_set, List.length_map, List.length_map, List.length_range]; omega), List.getElem?_eq_none (by rw [List.length_map, List.length_map, List.length_range]; omega)]
theorem len__law_states (K : PySem.W.Frag) : ∀ vs H Q E, sp23__law_states K vs H Q E → vs.length = (["size", "book"] : List Str).length := by
  rintro vs H Q E ⟨_, _, _, _, _, _, rfl, _⟩
  rfl
theorem rd__law_states (T : Txt K mg) (vs : List V) (H : Hp) (Q : VK) (E : XK) (h : sp23__law_states K vs H Q E) : t__law_states K E { nx := fun _ H' => Q .non H', rt := Q } (start ["size", "book", "states", "gap", "by_low", "by_high"] vs) H := by
  obtain ⟨w, l, r, g, n, log, rfl, hn, lb, gq⟩ := h
  unfold t__law_states
  walk_at "g"
  refine ⟨sz_ok (Nat.zero_le _), G.nw fun u H1 nu k1 hu => ?_⟩
  walk_at "g"
  refine w_r1 (by omega) ?_
  have uw : w ≠ u := ne_of_none lb.ob nu
  have ul : l ≠ u := by
    obtain ⟨_, h, _⟩ := lb.hl
    exact ne_of_none h nu
  have ur : r ≠ u := by
    obtain ⟨_, h, _⟩ := lb.hr
    exact ne_of_none h nu
  have ug : g ≠ u := by
    obtain ⟨_, h, _⟩ := lb.hg
    exact ne_of_none h nu
  refine lp_rng0 (fun i σ H' => (∃ x3 x4 x5, σ = [some (.int (n : Int)), some (.ref w), some (.ref u), x3, x4, x5]) ∧ Kp [u] H1 H' ∧ H' u = some (.lst ((List.range i).map fun (v : Nat) => V.str (stT (runS (wholeS n) log) v)))) ⟨⟨_, _, _, rfl⟩, Kp.refl _ _, hu⟩ ?_ ?_
  · rintro i σ' H3 hi ⟨⟨x3, x4, x5, rfl⟩, k3, hu3⟩
    have lb3 := (lb.k0 k1).kp k3 (by simpa using uw) (by simpa using ul) (by simpa using ur) (by simpa using ug)
    obtain ⟨L', hL, lL, eL⟩ := lb3.hl
    obtain ⟨R', hR, lR, eR⟩ := lb3.hr
    walk_at "g"
    refine w_ixL (SqL.of lb3.ob) (i := 1) (v := .ref r) rfl ?_
    walk_at "g"
    refine w_ixL (SqL.of hR) (at_I (by omega) (by omega)) ?_
    rw [Int.toNat_natCast, eR i (by omega)]
    walk_at "g"
    refine w_ixL (SqL.of lb3.ob) at_0 ?_
    walk_at "g"
    refine w_ixL (SqL.of hL) (at_I (by omega) (by omega)) ?_
    rw [show ((i : Int) + 1).toNat = i + 1 by omega, eL (i + 1) (by omega) (by omega)]
    walk_at "g"
    have sn : ∀ t : Str, stT (runS (wholeS n) log) i = t → ((List.range (i + 1)).map fun (v : Nat) => V.str (stT (runS (wholeS n) log) v)) = ((List.range i).map fun (v : Nat) => V.str (stT (runS (wholeS n) log) v)) ++ [V.str t] := fun t e => by rw [List.range_succ, List.map_append, ← e] <;> rfl
    rcases st_cases (runS (wholeS n) log) i with ⟨c1, c2, e⟩ | ⟨c1, c2, e⟩ | ⟨c1, c2, e⟩ | ⟨c1, c2, e⟩
    · rw [decide_eq_true c1, decide_eq_true c2]
      walk_at "g"
      refine ⟨w_ty (SqL.of hu3), ?_⟩
      walk_at "g"
      refine w_apT hu3 (sz_lt (by rw [List.length_map, List.length_range]; omega)) fun H4 k4 h4 => ?_
      walk_at "g"
      exact ⟨⟨_, _, _, rfl⟩, k3.trans k4, by rw [h4, sn _ e]⟩
    · rw [decide_eq_true c1, decide_eq_false c2]
      walk_at "g"
      refine ⟨w_ty (SqL.of hu3), ?_⟩
      walk_at "g"
      refine w_apT hu3 (sz_lt (by rw [List.length_map, List.length_range]; omega)) fun H4 k4 h4 => ?_
      walk_at "g"
      exact ⟨⟨_, _, _, rfl⟩, k3.trans k4, by rw [h4, sn _ e]⟩
    · rw [decide_eq_false c1, decide_eq_true c2]
      walk_at "g"
      refine ⟨w_ty (SqL.of hu3), ?_⟩
      walk_at "g"
      refine w_apT hu3 (sz_lt (by rw [List.length_map, List.length_range]; omega)) fun H4 k4 h4 => ?_
      walk_at "g"
      exact ⟨⟨_, _, _, rfl⟩, k3.trans k4, by rw [h4, sn _ e]⟩
    · rw [decide_eq_false c1, decide_eq_false c2]
      walk_at "g"
      refine ⟨w_ty (SqL.of hu3), ?_⟩
      walk_at "g"
      refine w_apT hu3 (sz_lt (by rw [List.length_map, List.length_range]; omega)) fun H4 k4 h4 => ?_
      walk_at "g"
      exact ⟨⟨_, _, _, rfl⟩, k3.trans k4, by rw [h4, sn _ e]⟩
  · rintro σ' H3 ⟨⟨x3, x4, x5, rfl⟩, k3, hu3⟩
    rw [show ((n : Int) + 1).toNat = n + 1 by omega] at hu3
    walk_at "g"
    exact gq u H3 nu ((k1.all.trans k3).cut (by simp [nu])) hu3
theorem len__law_holders (K : PySem.W.Frag) : ∀ vs H Q E, sp23__law_holders K vs H Q E → vs.length = (["size", "states"] : List Str).length := by
  rintro vs H Q E ⟨_, _, _, rfl, _⟩
  rfl
theorem rd__law_holders (T : Txt K mg) (vs : List V) (H : Hp) (Q : VK) (E : XK) (h : sp23__law_holders K vs H Q E) : t__law_holders K E { nx := fun _ H' => Q .non H', rt := Q } (start ["size", "states", "holders", "node"] vs) H := by
  obtain ⟨a, n, s, rfl, hn, sn, ha, gq⟩ := h
  unfold t__law_holders
  walk_at "g"
  refine ⟨sz_ok (Nat.zero_le _), G.nw fun u H1 nu k1 hu => ?_⟩
  walk_at "g"
  refine w_r2 (by omega) ?_
  rw [show ((n : Int) + 1 - 1).toNat = n by omega]
  have au : a ≠ u := ne_of_none ha nu
  refine lp_rng (fun i σ H' => (∃ x3, σ = [some (.int (n : Int)), some (.ref a), some (.ref u), x3]) ∧ Kp [u] H1 H' ∧ H' u = some (.lst (((((List.range i).map fun (v : Nat) => v + 1).filter fun v => soleB s v).map fun (v : Nat) => (v : Int)).map V.int))) ⟨⟨_, rfl⟩, Kp.refl _ _, hu⟩ ?_ ?_
  · rintro i σ' H3 hi ⟨⟨x3, rfl⟩, k3, hu3⟩
    have ha3 := k3.at1 au (k1.at0 ha)
    have ln : ((((List.range i).map fun (v : Nat) => v + 1).filter fun v => soleB s v).map fun (v : Nat) => (v : Int)).length ≤ i := by
      rw [List.length_map]
      refine Nat.le_trans (List.length_filter_le _ _) ?_
      rw [List.length_map, List.length_range]
      exact Nat.le_refl _
    have sc : (((List.range (i + 1)).map fun (v : Nat) => v + 1).filter fun v => soleB s v) = (((List.range i).map fun (v : Nat) => v + 1).filter fun v => soleB s v) ++ (if soleB s (i + 1) = true then [i + 1] else []) := by
      rw [List.range_succ, List.map_append, List.filter_append]
      congr 1
      show ([i + 1].filter fun v => soleB s v) = _
      by_cases cc : soleB s (i + 1) = true
      · rw [if_pos cc, List.filter_cons_of_pos cc] <;> rfl
      · rw [if_neg cc, List.filter_cons_of_neg cc] <;> rfl
    walk_at "g"
    refine w_ixL (SqL.of ha3) (at_Sf (by omega) (by omega)) ?_
    rw [show ((1 : Int) + (i : Int) - 1).toNat = i by omega]
    walk_at "g"
    refine w_iteD (fun c1 => ?_) (fun c1 => ?_)
    · walk_at "g"
      refine ⟨w_ty (SqL.of hu3), ?_⟩
      walk_at "g"
      refine w_apT hu3 (sz_lt (by rw [List.length_map]; omega)) fun H4 k4 h4 => ?_
      walk_at "g"
      refine ⟨⟨_, rfl⟩, k3.trans k4, ?_⟩
      rw [h4, sc, if_pos (sole_iff.mpr (.inr (by rw [Nat.add_sub_cancel]; exact c1))), List.map_append, List.map_append, show (1 : Int) + (i : Int) = ((i + 1 : Nat) : Int) by omega] <;> rfl
    · walk_at "g"
      refine w_ixL (SqL.of ha3) (at_Sf (by omega) (by omega)) ?_
      rw [show ((1 : Int) + (i : Int)).toNat = i + 1 by omega]
      walk_at "g"
      refine w_iteD (fun c2 => ?_) (fun c2 => ?_)
      · walk_at "g"
        refine ⟨w_ty (SqL.of hu3), ?_⟩
        walk_at "g"
        refine w_apT hu3 (sz_lt (by rw [List.length_map]; omega)) fun H4 k4 h4 => ?_
        walk_at "g"
        refine ⟨⟨_, rfl⟩, k3.trans k4, ?_⟩
        rw [h4, sc, if_pos (sole_iff.mpr (.inl c2)), List.map_append, List.map_append, show (1 : Int) + (i : Int) = ((i + 1 : Nat) : Int) by omega] <;> rfl
      · walk_at "g"
        refine ⟨⟨_, rfl⟩, k3, ?_⟩
        rw [hu3, sc, if_neg (fun z => by
          rcases sole_iff.mp z with y | y
          · exact c2 y
          · rw [Nat.add_sub_cancel] at y
            exact c1 y), List.append_nil]
  · rintro σ' H3 ⟨⟨x3, rfl⟩, k3, hu3⟩
    walk_at "g"
    refine gq u H3 nu ((k1.all.trans k3).cut (by simp [nu])) ?_
    rw [hu3]
    unfold soleN aloneL
    rw [sn]
theorem len__law_told_gaps (K : PySem.W.Frag) : ∀ vs H Q E, sp23__law_told_gaps K vs H Q E → vs.length = (["told", "many", "size"] : List Str).length := by
  rintro vs H Q E ⟨_, _, _, _, _, rfl, _⟩
  rfl
theorem rd__law_told_gaps (T : Txt K mg) (vs : List V) (H : Hp) (Q : VK) (E : XK) (h : sp23__law_told_gaps K vs H Q E) : t__law_told_gaps K E { nx := fun _ H' => Q .non H', rt := Q } (start ["told", "many", "size", "marked", "k"] vs) H := by
  obtain ⟨a, xs, es, many, n, rfl, hn, hle, ha, px, bd, up, gq⟩ := h
  unfold t__law_told_gaps
  walk_at "g"
  refine ⟨sz_ok (by show 1 ≤ 1000000; omega), G.nw fun z H1 nz k1 hz => ?_⟩
  walk_at "g"
  refine w_mulLN hz (by omega) (by omega) (sz_ok (by show 1 * _ ≤ _; omega)) fun u H2 nu k2 hu => ?_
  have k12 := k1.trans k2
  have fu : H u = none := k1.free0 nu
  have au : a ≠ u := ne_of_none ha fu
  have hu' : H2 u = some (.lst (((List.range (n + 1)).map fun g => markB (es.take 0) g).map V.bl)) := by
    rw [hu, show ((n : Int) + 1).toNat = n + 1 by omega, rep_flat, List.take_zero, List.map_map]
    congr 2
    refine (List.eq_replicate_iff.mpr ⟨by rw [List.length_map, List.length_range], fun b hb => ?_⟩).symm
    obtain ⟨v, _, rfl⟩ := List.mem_map.mp hb
    rfl
  walk_at "g"
  refine w_isiL (r := true) (k12.at0 ha) (by decide +kernel) ?_
  walk_at "g"
  refine w_lenL (SqL.of (k12.at0 ha)) ?_
  walk_at "g"
  have lx := px.1
  refine w_r1 (by omega) ?_
  refine lp_rng0 (fun i σ H' => (∃ x4, σ = [some (.ref a), some (.int (many : Int)), some (.int (n : Int)), some (.ref u), x4]) ∧ Kp [u] H2 H' ∧ H' u = some (.lst (((List.range (n + 1)).map fun g => markB (es.take i) g).map V.bl))) ⟨⟨_, rfl⟩, Kp.refl _ _, hu'⟩ ?_ ?_
  · rintro i σ' H3 hi ⟨⟨x4, rfl⟩, k3, hu3⟩
    have li : i < es.length := by omega
    have get : ∀ j, j < es.length → ∃ e t, es[j]? = some e ∧ e ∈ es ∧ atI xs (j : Int) = some (.ref t) ∧ H3 t = some (.tup [.int e.1, .int e.2]) := by
      intro j hj
      have ej := List.getElem?_eq_getElem hj
      obtain ⟨t, h1, h2⟩ := px.2 j _ ej
      have tu : t ≠ u := ne_of_none h2 fu
      exact ⟨_, t, ej, List.getElem_mem hj, by rw [atI_pos (by omega) (by omega), Int.toNat_natCast, h1], k3.at1 tu (k12.at0 h2)⟩
    obtain ⟨e, t, ee, me, ex, ht⟩ := get i li
    obtain ⟨b1, b2, b3, b4⟩ := bd e me
    have ha3 := k3.at1 au (k12.at0 ha)
    have fin : ∀ (R : Hp → Prop), (∀ H5, Kp [u] H2 H5 → H5 u = some (.lst (((List.range (n + 1)).map fun g => markB (es.take (i + 1)) g).map V.bl)) → R H5) → ∀ H4, Kp [] H3 H4 → rIx K (.ref a) (.int (i : Int)) H4 (fun x H1 => rIx K x (.int 1) H1 fun j H2 => rSetL (.ref u) j (.bl true) H2 R) := by
      intro R hR H4 k4
      have ha4 := k4.at0 ha3
      refine w_ixL (SqL.of ha4) ex ?_
      refine w_ixT (SqT.of (k4.at0 ht)) (i := 1) (v := .int e.2) rfl ?_
      refine w_seT (k4.at0 hu3) (ixN_pos b3 (by rw [List.length_map, List.length_map, List.length_range]; omega)) fun H5 k5 h5 => ?_
      refine hR H5 (k3.trans (k4.all.trans k5)) ?_
      rw [h5, mark_set b3 b4, take_snoc ee]
    walk_at "g"
    refine w_ixL (SqL.of ha3) ex ?_
    walk_at "g"
    refine ⟨t, e.1, e.2, many, n, rfl, ht, b1, b2, b3, b4, ?_⟩
    walk_at "g"
    refine w_iteD (fun c => ?_) (fun c => ?_)
    · obtain ⟨j, rfl⟩ : ∃ j, i = j + 1 := ⟨i - 1, by omega⟩
      obtain ⟨e', t', ee', me', ex', ht'⟩ := get j (by omega)
      have lt : e'.1 < e.1 ∨ (e'.1 = e.1 ∧ e'.2 < e.2) := by
        obtain ⟨h1, e1⟩ := List.getElem?_eq_some_iff.mp ee
        obtain ⟨h2, e2⟩ := List.getElem?_eq_some_iff.mp ee'
        have := (List.pairwise_iff_getElem.mp up) j (j + 1) h2 h1 (by omega)
        rwa [e1, e2] at this
      have ej : (((j + 1 : Nat) : Int)) - 1 = (j : Int) := by omega
      walk_at "g"
      refine w_ixL (SqL.of ha3) ex ?_
      walk_at "g"
      refine w_ixT (SqT.of ht) at_0 ?_
      walk_at "g"
      refine w_ixL (SqL.of ha3) ex ?_
      walk_at "g"
      refine w_ixT (SqT.of ht) (i := 1) (v := .int e.2) rfl ?_
      walk_at "g"
      refine ⟨sz_ok (by show 2 ≤ 1000000; omega), G.nw fun p H4 np k4 hp => ?_⟩
      have ha4 := k4.at0 ha3
      have ht4 := k4.at0 ht'
      walk_at "g"
      rw [ej]
      refine w_ixL (SqL.of ha4) ex' ?_
      walk_at "g"
      refine w_ixT (SqT.of ht4) at_0 ?_
      walk_at "g"
      rw [ej]
      refine w_ixL (SqL.of ha4) ex' ?_
      walk_at "g"
      refine w_ixT (SqT.of ht4) (i := 1) (v := .int e'.2) rfl ?_
      walk_at "g"
      refine ⟨sz_ok (by show 2 ≤ 1000000; omega), G.nw fun q H5 nq k5 hq => ?_⟩
      walk_at "g"
      refine w_leT2 (SqT.of (k5.at0 hp)) (SqT.of hq) lt ?_
      walk_at "g"
      exact fin _ (fun H6 x y => ⟨⟨_, rfl⟩, x, y⟩) H5 (k4.trans k5)
    · walk_at "g"
      exact fin _ (fun H6 x y => ⟨⟨_, rfl⟩, x, y⟩) H3 (Kp.refl _ _)
  · rintro σ' H3 ⟨⟨x4, rfl⟩, k3, hu3⟩
    rw [Int.toNat_natCast, lx, List.take_length] at hu3
    walk_at "g"
    exact gq u H3 fu ((k12.all.trans k3).cut (by simp [fu])) hu3
end
end G
set_option Elab.async false
set_option linter.all false
set_option maxRecDepth 100000
set_option maxHeartbeats 1000000
namespace G
--#FAM KP
open PySem PySem.Spec PyProof.Rows L2
local macro_rules
  | `(tactic| walk_at "1") => `(tactic| first
    | with_reducible refine w_seq ?_
    | with_reducible refine w_asg ?_
    | with_reducible refine w_asgS ?_
    | with_reducible refine w_asf ?_
    | with_reducible refine w_drop ?_
    | with_reducible refine w_ret ?_
    | with_reducible refine w_if ?_
    | with_reducible refine w_not ?_
    | with_reducible refine w_and ?_
    | with_reducible refine w_or ?_
    | with_reducible refine w_test ?_
    | with_reducible refine w_tb ?_
    | with_reducible refine w_chain ?_
    | with_reducible refine w_op ?_
    | with_reducible refine w_un ?_
    | with_reducible refine w_andV ?_
    | with_reducible refine w_orV ?_
    | with_reducible refine w_notV ?_
    | with_reducible refine w_ifE ?_
    | with_reducible refine w_cons ?_
    | with_reducible refine w_nil ?_
    | with_reducible refine w_cb ?_
    | with_reducible refine w_cl ?_
    | with_reducible refine w_mt ?_
    | with_reducible refine w_fld ?_
    | with_reducible refine w_tupN ?_
    | with_reducible refine w_lstN ?_
    | with_reducible refine w_bm ?_
    | with_reducible refine w_bm0 ?_
    | with_reducible refine w_for ?_
    | with_reducible refine w_lc ?_
    | with_reducible refine w_iR1 ?_
    | with_reducible refine w_iR2 ?_
    | with_reducible refine w_iL ?_
    | with_reducible refine w_iT ?_
    | with_reducible refine w_iE ?_
    | with_reducible refine w_iZ ?_
    | with_reducible refine w_var (by with_unfolding_all rfl) ?_
    | with_reducible refine w_c ?_
    | with_reducible refine w_next ?_
    | with_reducible refine w_i0 ?_
    | with_reducible refine w_u1 ?_
    | with_reducible refine w_addI ?_
    | with_reducible refine w_eqI ?_
    | with_reducible refine w_eqS ?_
    | with_reducible refine w_eqB ?_
    | with_reducible refine w_neI ?_
    | with_reducible refine w_neS ?_
    | with_reducible refine w_neB ?_
    | with_reducible refine w_abs ?_
    | with_reducible refine w_intI ?_
    | with_reducible refine w_min2 ?_
    | with_reducible refine w_max2 ?_
    | with_reducible refine w_isN0 ?_
    | with_reducible refine w_isN1 ref_ne ?_
    | with_reducible refine w_isN1 int_ne ?_
    | with_reducible refine w_notN0 ?_
    | with_reducible refine w_notN1 ref_ne ?_
    | with_reducible refine w_notN1 int_ne ?_
    | with_reducible refine w_ex1 ?_
    | with_reducible refine w_n1 ?_
    | with_reducible refine w_n2 ?_
    | with_reducible refine w_tT ?_
    | with_reducible refine w_tF ?_
    | with_reducible refine w_nT ?_
    | with_reducible refine w_nF ?_
    | with_reducible refine w_rz ?_
    | with_reducible refine w_mkN ?_
    | with_reducible refine w_lrgN ?_
    | with_reducible refine w_rg1 ?_
    | with_reducible refine w_rg2 ?_
    | with_reducible refine w_sl ?_
    | with_reducible refine w_np ?_
    | with_reducible refine w_pt ?_
    | with_reducible refine w_tr ?_
    | with_reducible refine w_gn ?_
    | with_reducible refine w_yes ?_
    | with_reducible refine w_m1 ?_
    | with_reducible refine w_asu ?_
    | with_reducible refine w_exS ?_
    | with_reducible refine w_iS ?_
    | with_reducible refine w_g1 ?_
    | with_reducible refine w_gc ?_
    | with_reducible refine w_gt (SqT.of upd_same) rfl ?_)
local macro_rules
  | `(tactic| walk_at "g") => `(tactic| repeat walk_at "1")
local macro_rules
  | `(tactic| walk_at "j1") => `(tactic| first
    | with_reducible refine w_seqI ?_
    | walk_at "1")
local macro_rules
  | `(tactic| walk_at "j") => `(tactic| repeat walk_at "j1")
section
variable {K : PySem.W.Frag} {mg : Str → Option Value}
theorem sum_ind (lo a : Nat) : ∀ m : Nat, ((List.range m).map fun j => if lo + j = a then 1 else 0).sum = if lo ≤ a ∧ a < lo + m then 1 else 0 := by
  intro m
  induction m with
  | zero => rw [if_neg (by omega)]; rfl
  | succ m ih =>
    rw [List.range_succ, List.map_append, List.sum_append, ih]
    show _ + ((if lo + m = a then 1 else 0) + 0) = _
    by_cases c : lo + m = a
    · rw [if_pos c, if_neg (by omega), if_pos (by omega)] <;> rfl
    · rw [if_neg c]
      by_cases d : lo ≤ a ∧ a < lo + m
      · rw [if_pos d, if_pos (by omega)] <;> rfl
      · rw [if_neg d, if_neg (by omega)] <;> rfl
theorem sum_zero : ∀ m : Nat, ((List.range m).map fun _ => 0).sum = 0 := by
  intro m
  induction m with
  | zero => rfl
  | succ m ih => rw [List.range_succ, List.map_append, List.sum_append, ih] <;> rfl
theorem sum_add (f g : Nat → Nat) : ∀ l : List Nat, (l.map fun j => f j + g j).sum = (l.map f).sum + (l.map g).sum
  | [] => rfl
  | a :: l => by
    have := sum_add f g l
    simp only [List.map_cons, List.sum_cons, this]
    omega
/-- all operations of a log stand in a range -/
theorem sum_ops (lo m : Nat) : ∀ ds : List Int, (∀ x ∈ ds, lo ≤ x.natAbs ∧ x.natAbs < lo + m) → ((List.range m).map fun j => (opsV (lo + j) ds).length).sum = ds.length := by
  intro ds
  induction ds using snoc_ind with
  | h0 =>
    intro _
    have : (fun j => (opsV (lo + j) []).length) = fun _ => 0 := rfl
    rw [this]
    exact sum_zero m
  | h1 l x ih =>
    intro h
    have h1 := ih fun y hy => h y (by simp [hy])
    have h2 := h x (by simp)
    have e : (fun j => (opsV (lo + j) (l ++ [x])).length) = fun j => (opsV (lo + j) l).length + (if lo + j = x.natAbs then 1 else 0) := by
      funext j
      rw [opsV_snoc, List.length_append]
      by_cases c : lo + j = x.natAbs
      · rw [if_pos c, if_pos c.symm] <;> rfl
      · rw [if_neg c, if_neg (Ne.symm c)] <;> rfl
    rw [e, sum_add, h1, sum_ind, if_pos h2, List.length_append] <;> rfl
/-- a node that can go goes -/
theorem LgO.go {n : Nat} {ds : List Int} (L : LgO n ds) {v : Nat} (h1 : 1 ≤ v) (h2 : v ≤ n) (hs : stgF ds v < 2) (hl : ds.length < 120) (hn : n ≤ 60) : ∃ op : Int, op = (if stgF ds v = 0 then -(v : Int) else (v : Int)) ∧ op.natAbs = v ∧ OkOp (runS (wholeS n) ds) op ∧ (op < 0 → op ∉ ds) ∧ LgO n (ds ++ [op]) := by
  have I := nodeI L.alt L.one v h1
  refine ⟨_, rfl, by split <;> omega, ?_, ?_, ?_⟩
  · refine (ok_out hn (leg_of hn L.ops L.alt)).mpr ⟨by split <;> exact ⟨by omega, by omega⟩, ?_⟩
    have na : (if stgF ds v = 0 then -(v : Int) else (v : Int)).natAbs = v := by split <;> omega
    rw [na, stg_out]
    refine decide_eq_decide.mpr ?_
    split <;> omega
  · intro z
    split at z
    · rename_i c
      rw [if_pos c]
      exact (I.s0 c).2
    · omega
  · have na : (if stgF ds v = 0 then -(v : Int) else (v : Int)).natAbs = v := by split <;> omega
    refine ⟨fun x hx => ?_, alt_snoc' L.alt ?_, L.one.snoc ?_, by rw [List.length_append]; show _ + 1 ≤ _; omega⟩
    · rcases List.mem_append.mp hx with hx | hx
      · exact L.ops x hx
      · rw [List.mem_singleton] at hx
        rw [hx]
        exact ⟨by omega, by omega⟩
    · rw [na, stg_out]
      refine decide_eq_decide.mpr ?_
      split <;> omega
    · intro z
      split at z
      · rename_i c
        rw [if_pos c]
        exact (I.s0 c).2
      · omega
/-- how the things of a draw lie -/
structure Lay (b c e pt w l r g lg : Addr) : Prop where
  nb : e ≠ b ∧ pt ≠ b ∧ w ≠ b ∧ l ≠ b ∧ r ≠ b ∧ g ≠ b ∧ lg ≠ b
  nc : e ≠ c ∧ pt ≠ c ∧ w ≠ c ∧ l ≠ c ∧ r ≠ c ∧ g ≠ c ∧ lg ≠ c
  ng : e ≠ lg ∧ pt ≠ lg ∧ w ≠ lg ∧ l ≠ lg ∧ r ≠ lg ∧ g ≠ lg
  nl : e ≠ l ∧ pt ≠ l
  nr : e ≠ r ∧ pt ≠ r
  ns : e ≠ g ∧ pt ≠ g
/-- what the drawing keeps -/
structure DrI (H : Hp) (b c e pt w l r g lg : Addr) (n : Nat) (lo hi : Int) (ps ds : List Int) : Prop where
  bx : BoxI H b c
  he : H e = some (.lst [.int lo, .int hi])
  hp : H pt = some (.lst (ps.map V.int))
  lb : LB H w l r g n ds
  hg : H lg = some (.lst (ds.map V.int))
theorem DrI.k0 {H H' : Hp} {b c e pt w l r g lg : Addr} {n : Nat} {lo hi : Int} {ps ds : List Int} (a : DrI H b c e pt w l r g lg n lo hi ps ds) (k : Kp [] H H') : DrI H' b c e pt w l r g lg n lo hi ps ds := ⟨a.bx.k0 k, k.at0 a.he, k.at0 a.hp, a.lb.k0 k, k.at0 a.hg⟩
theorem DrI.kb {H H' : Hp} {b c e pt w l r g lg : Addr} {n : Nat} {lo hi : Int} {ps ds : List Int} (a : DrI H b c e pt w l r g lg n lo hi ps ds) (y : Lay b c e pt w l r g lg) (k : Kp [b, c] H H') (bx : BoxI H' b c) : DrI H' b c e pt w l r g lg n lo hi ps ds := by
  obtain ⟨x1, x2, x3, x4, x5, x6, x7⟩ := y.nb
  obtain ⟨z1, z2, z3, z4, z5, z6, z7⟩ := y.nc
  exact ⟨bx, k _ _ (by simp [x1, z1]) a.he, k _ _ (by simp [x2, z2]) a.hp, a.lb.kp k (by simp [x3, z3]) (by simp [x4, z4]) (by simp [x5, z5]) (by simp [x6, z6]), k _ _ (by simp [x7, z7]) a.hg⟩
theorem sum_le2 (f : Nat → Nat) : ∀ m : Nat, (∀ j, j < m → f j ≤ 2) → ((List.range m).map f).sum ≤ 2 * m := by
  intro m
  induction m with
  | zero => intro _; exact Nat.le_refl _
  | succ m ih =>
    intro h
    have := ih fun j hj => h j (by omega)
    have := h m (by omega)
    rw [List.range_succ, List.map_append, List.sum_append]
    show _ + (f m + 0) ≤ _
    omega
theorem sum_lt2 (f : Nat → Nat) : ∀ m : Nat, (∀ j, j < m → f j ≤ 2) → (∃ j, j < m ∧ f j ≤ 1) → ((List.range m).map f).sum < 2 * m := by
  intro m
  induction m with
  | zero => rintro _ ⟨j, h, _⟩; omega
  | succ m ih =>
    rintro h ⟨j, hj, h1⟩
    have a := sum_le2 f m fun j hj => h j (by omega)
    have b := h m (by omega)
    rw [List.range_succ, List.map_append, List.sum_append]
    show _ + (f m + 0) < _
    by_cases c : j = m
    · rw [c] at h1
      omega
    · have := ih (fun j hj => h j (by omega)) ⟨j, by omega, h1⟩
      omega
theorem stg_mem {log : List Int} {v : Nat} (h : stgF log v ≠ 0) : ∃ x ∈ log, x.natAbs = v := by
  unfold stgF at h
  split at h
  · rename_i x e
    have := List.find?_some e
    exact ⟨x, List.mem_reverse.mp (List.mem_of_find?_eq_some e), of_decide_eq_true this⟩
  · exact absurd rfl h
theorem bk_range {n lo m : Nat} {ds : List Int} (hr : ∀ x ∈ ds, lo ≤ x.natAbs ∧ x.natAbs < lo + m) (h : ∀ v, lo ≤ v → v < lo + m → stgF ds v ≠ 1) : AllBk ds := by
  intro v z
  obtain ⟨x, hx, e⟩ := stg_mem (log := ds) (v := v) (by omega)
  have := hr x hx
  exact h v (by omega) (by omega) z
theorem bk_full {n lo m : Nat} {ds : List Int} (L : LgO n ds) (h1 : 1 ≤ lo) (hr : ∀ x ∈ ds, lo ≤ x.natAbs ∧ x.natAbs < lo + m) (hk : ds.length = 2 * m) : AllBk ds := by
  refine bk_range (n := n) hr fun v v1 v2 z => ?_
  have s := sum_ops lo m ds hr
  have ln : ∀ j, j < m → (opsV (lo + j) ds).length = stgF ds (lo + j) := fun j _ => (nodeI L.alt L.one (lo + j) (by omega)).ln
  have := sum_lt2 (fun j => (opsV (lo + j) ds).length) m (fun j hj => by
    show (opsV (lo + j) ds).length ≤ 2
    rw [ln j hj]
    exact stgF_le _ _) ⟨v - lo, by omega, by
    show (opsV (lo + (v - lo)) ds).length ≤ 1
    rw [ln _ (by omega), show lo + (v - lo) = v by omega, z]
    exact Nat.le_refl _⟩
  omega
theorem len__law_first_late (K : PySem.W.Frag) : ∀ vs H Q E, sp23__law_first_late K vs H Q E → vs.length = (["size", "log"] : List Str).length := by
  rintro vs H Q E ⟨_, _, _, rfl, _⟩
  rfl
theorem rd__law_first_late (T : Txt K mg) (vs : List V) (H : Hp) (Q : VK) (E : XK) (h : sp23__law_first_late K vs H Q E) : t__law_first_late K E { nx := fun _ H' => Q .non H', rt := Q } (start ["size", "log", "book", "k"] vs) H := by
  obtain ⟨a, n, log, rfl, hn, ha, lo, gq⟩ := h
  unfold t__law_first_late
  have leg : Leg (wholeS n) log := leg_of hn lo.ops lo.alt
  have len := lo.len
  walk_at "g"
  refine ⟨n, rfl, hn, fun w l r g H1 nw1 nl nr ng k1 lb => ?_⟩
  walk_at "g"
  refine w_lenL (SqL.of (k1.at0 ha)) ?_
  walk_at "g"
  rw [List.length_map]
  refine w_r1 (by omega) ?_
  refine lp_rng0 (fun i σ H' => (∃ x3, σ = [some (.int (n : Int)), some (.ref a), some (.ref w), x3]) ∧ Kp [] H H' ∧ LB H' w l r g n (log.take i) ∧ Calm n (log.take i)) ⟨⟨_, rfl⟩, k1, lb, calm0 n⟩ ?_ ?_
  · rintro i σ' H3 hi ⟨⟨x3, rfl⟩, k3, lb3, cm⟩
    have li : i < log.length := by omega
    obtain ⟨op, hop⟩ : ∃ op, log[i]? = some op := ⟨_, List.getElem?_eq_getElem li⟩
    have eop : gI log i = op := gI_of hop
    have iop := lo.ops op (List.mem_of_getElem? hop)
    walk_at "g"
    refine w_ixL (SqL.of (k3.at0 ha)) (at_I (by omega) (by omega)) ?_
    rw [Int.toNat_natCast, eop]
    walk_at "g"
    rw [natAbs_if]
    refine ⟨w, l, r, g, n, op.natAbs, log.take i, rfl, lb3, iop.1, iop.2, fun q H4 nq k4 hq => ?_⟩
    walk_at "g"
    refine w_lenL (SqL.of hq) ?_
    walk_at "g"
    rw [List.length_map]
    refine w_iteD (fun c => ?_) (fun c => ?_)
    · walk_at "g"
      exact gq i H4 (by omega) cm (k3.trans k4)
    · walk_at "g"
      refine w_ixL (SqL.of (k4.at0 (k3.at0 ha))) (at_I (by omega) (by omega)) ?_
      rw [Int.toNat_natCast, eop]
      walk_at "g"
      refine ⟨w, l, r, g, n, log.take i, op, rfl, lb3.k0 k4, leg i op hop, lo.one i op hop, fun H5 k5 lb5 => ?_⟩
      walk_at "g"
      refine ⟨⟨_, rfl⟩, (((k3.trans k4).all (S := [l, r, g])).trans k5).cut (by simp [nl, nr, ng]), by rw [take_snoc hop]; exact lb5, ?_⟩
      rw [take_snoc hop]
      refine cm.snoc (List.length_eq_zero_iff.mp ?_)
      omega
  · rintro σ' H3 ⟨⟨x3, rfl⟩, k3, lb3, cm⟩
    rw [Int.toNat_natCast] at cm
    walk_at "g"
    refine w_lenL (SqL.of (k3.at0 ha)) ?_
    rw [List.length_map]
    exact gq log.length H3 (Nat.le_refl _) cm k3
end
end G
set_option Elab.async false
set_option linter.all false
set_option maxRecDepth 100000
set_option maxHeartbeats 2000000
namespace G
--#FAM KP
open PySem PySem.Spec PyProof.Rows L2
local macro_rules
  | `(tactic| walk_at "1") => `(tactic| first
    | with_reducible refine w_seq ?_
    | with_reducible refine w_asg ?_
    | with_reducible refine w_asgS ?_
    | with_reducible refine w_asf ?_
    | with_reducible refine w_drop ?_
    | with_reducible refine w_ret ?_
    | with_reducible refine w_if ?_
    | with_reducible refine w_not ?_
    | with_reducible refine w_and ?_
    | with_reducible refine w_or ?_
    | with_reducible refine w_test ?_
    | with_reducible refine w_tb ?_
    | with_reducible refine w_chain ?_
    | with_reducible refine w_op ?_
    | with_reducible refine w_un ?_
    | with_reducible refine w_andV ?_
    | with_reducible refine w_orV ?_
    | with_reducible refine w_notV ?_
    | with_reducible refine w_ifE ?_
    | with_reducible refine w_cons ?_
    | with_reducible refine w_nil ?_
    | with_reducible refine w_cb ?_
    | with_reducible refine w_cl ?_
    | with_reducible refine w_mt ?_
    | with_reducible refine w_fld ?_
    | with_reducible refine w_tupN ?_
    | with_reducible refine w_lstN ?_
    | with_reducible refine w_bm ?_
    | with_reducible refine w_bm0 ?_
    | with_reducible refine w_for ?_
    | with_reducible refine w_lc ?_
    | with_reducible refine w_iR1 ?_
    | with_reducible refine w_iR2 ?_
    | with_reducible refine w_iL ?_
    | with_reducible refine w_iT ?_
    | with_reducible refine w_iE ?_
    | with_reducible refine w_iZ ?_
    | with_reducible refine w_var (by with_unfolding_all rfl) ?_
    | with_reducible refine w_c ?_
    | with_reducible refine w_next ?_
    | with_reducible refine w_i0 ?_
    | with_reducible refine w_u1 ?_
    | with_reducible refine w_addI ?_
    | with_reducible refine w_eqI ?_
    | with_reducible refine w_eqS ?_
    | with_reducible refine w_eqB ?_
    | with_reducible refine w_neI ?_
    | with_reducible refine w_neS ?_
    | with_reducible refine w_neB ?_
    | with_reducible refine w_abs ?_
    | with_reducible refine w_intI ?_
    | with_reducible refine w_min2 ?_
    | with_reducible refine w_max2 ?_
    | with_reducible refine w_isN0 ?_
    | with_reducible refine w_isN1 ref_ne ?_
    | with_reducible refine w_isN1 int_ne ?_
    | with_reducible refine w_notN0 ?_
    | with_reducible refine w_notN1 ref_ne ?_
    | with_reducible refine w_notN1 int_ne ?_
    | with_reducible refine w_ex1 ?_
    | with_reducible refine w_n1 ?_
    | with_reducible refine w_n2 ?_
    | with_reducible refine w_tT ?_
    | with_reducible refine w_tF ?_
    | with_reducible refine w_nT ?_
    | with_reducible refine w_nF ?_
    | with_reducible refine w_rz ?_
    | with_reducible refine w_mkN ?_
    | with_reducible refine w_lrgN ?_
    | with_reducible refine w_rg1 ?_
    | with_reducible refine w_rg2 ?_
    | with_reducible refine w_sl ?_
    | with_reducible refine w_np ?_
    | with_reducible refine w_pt ?_
    | with_reducible refine w_tr ?_
    | with_reducible refine w_gn ?_
    | with_reducible refine w_yes ?_
    | with_reducible refine w_m1 ?_
    | with_reducible refine w_asu ?_
    | with_reducible refine w_exS ?_
    | with_reducible refine w_iS ?_
    | with_reducible refine w_g1 ?_
    | with_reducible refine w_gc ?_
    | with_reducible refine w_gt (SqT.of upd_same) rfl ?_)
local macro_rules
  | `(tactic| walk_at "g") => `(tactic| repeat walk_at "1")
local macro_rules
  | `(tactic| walk_at "j1") => `(tactic| first
    | with_reducible refine w_seqI ?_
    | walk_at "1")
local macro_rules
  | `(tactic| walk_at "j") => `(tactic| repeat walk_at "j1")
section
variable {K : PySem.W.Frag} {mg : Str → Option Value}
theorem inV_Z {x : Int} : ∀ {xs : List Int}, inV (.int x) (xs.map V.int) = decide (x ∈ xs)
  | [] => rfl
  | y :: ys => by
    have e : inV (.int x) ((y :: ys).map V.int) = ((y == x) || inV (.int x) (ys.map V.int)) := rfl
    rw [e, inV_Z, Bool.eq_iff_iff, Bool.or_eq_true, decide_eq_true_iff, decide_eq_true_iff, beq_iff_eq, List.mem_cons]
    exact ⟨fun h => h.elim (fun z => .inl z.symm) .inr, fun h => h.elim (fun z => .inl z.symm) .inr⟩
theorem flatZ (xs : List Int) : (xs.map V.int).all flatV = true := by
  rw [List.all_map]
  exact List.all_eq_true.mpr fun _ _ => rfl
theorem w_inZ {H : Hp} {Q : VK} {p : Addr} {x : Int} {xs : List Int} {neg : Bool} (h : H p = some (.lst (xs.map V.int))) (g : Q (.bl (if neg then !decide (x ∈ xs) else decide (x ∈ xs))) H) : rIn K neg (.int x) (.ref p) H Q := by
  refine w_inL (SqL.of h) rfl (flatZ xs) ?_
  rw [inV_Z]
  exact g
theorem cast_in {v : Nat} {l : List Nat} : ((v : Int) ∈ l.map fun (u : Nat) => (u : Int)) ↔ v ∈ l := by
  rw [List.mem_map]
  constructor
  · rintro ⟨u, hu, e⟩
    have : u = v := by omega
    exact this ▸ hu
  · intro h
    exact ⟨v, h, rfl⟩
theorem filt1 (p : Nat → Bool) (x : Nat) : [x].filter p = if p x = true then [x] else [] := by
  by_cases cc : p x = true
  · rw [if_pos cc, List.filter_cons_of_pos cc] <;> rfl
  · rw [if_neg cc, List.filter_cons_of_neg cc] <;> rfl
theorem rest_ne {l : List Nat} {p : Nat → Bool} (h : (l.filter p).length < l.length) : (l.filter fun v : Nat => !decide ((v : Int) ∈ (l.filter p).map fun (u : Nat) => (u : Int))) ≠ [] := by
  intro z
  rw [List.filter_eq_nil_iff] at z
  have e : l.filter p = l := List.filter_eq_self.mpr fun v hv => by
    have a := z v hv
    have b : (v : Int) ∈ (l.filter p).map fun (u : Nat) => (u : Int) := by
      apply Classical.byContradiction
      intro c
      rw [decide_eq_false c] at a
      exact a rfl
    exact (List.mem_filter.mp (cast_in.mp b)).2
  rw [e] at h
  omega
theorem len__law_log (K : PySem.W.Frag) : ∀ vs H Q E, sp23__law_log K vs H Q E → vs.length = (["box", "size"] : List Str).length := by
  rintro vs H Q E ⟨_, _, _, rfl, _⟩
  rfl
theorem rd__law_log (T : Txt K mg) (vs : List V) (H : Hp) (Q : VK) (E : XK) (h : sp23__law_log K vs H Q E) : t__law_log K E { nx := fun _ H' => Q .non H', rt := Q } (start ["box", "size", "ends", "many", "steps", "care", "slip", "pattern", "book", "log", "node", "k", "free", "late", "turn", "near", "x"] vs) H := by
  obtain ⟨b, c, n, rfl, hn, bx, gk⟩ := h
  unfold t__law_log
  walk_at "g"
  refine ⟨b, c, n, rfl, hn, bx, fun lo hi e H1 ⟨lh1, lh2, lh3⟩ ne k1 b1 he => ?_⟩
  obtain ⟨m, em⟩ : ∃ m : Nat, hi - lo + 1 = (m : Int) := ⟨(hi - lo + 1).toNat, by omega⟩
  obtain ⟨lo', rfl⟩ : ∃ lo' : Nat, lo = (lo' : Int) := ⟨lo.toNat, by omega⟩
  walk_at "g"
  refine w_ixL (SqL.of he) (i := 1) (v := .int hi) rfl ?_
  walk_at "g"
  refine w_ixL (SqL.of he) at_0 ?_
  walk_at "g"
  rw [em]
  refine w_mulI (cmulL (by omega) (by omega)) ?_
  walk_at "g"
  refine ⟨b, c, _, rfl, by omega, by omega, b1, fun s1 H2 s11 s12 k2 b2 => ?_⟩
  walk_at "g"
  refine ⟨b, c, _, rfl, by omega, by omega, b2, fun s2 H3 s21 s22 k3 b3 => ?_⟩
  walk_at "g"
  have sm : 0 ≤ (if s2 > s1 then s2 else s1) ∧ (if s2 > s1 then s2 else s1) ≤ 2 * (m : Int) := by split <;> omega
  generalize (if s2 > s1 then s2 else s1) = steps at sm ⊢
  refine ⟨sz_ok (by show 8 ≤ 1000000; omega), G.nw fun qa Ha nqa ka hqa => ?_⟩
  have hqa' : Ha qa = some (.lst (([0, 1, 1, 1, 2, 2, 2, 3] : List Int).map V.int)) := hqa
  walk_at "g"
  refine ⟨b, c, 8, rfl, by omega, by omega, b3.k0 ka, fun kn Hb kn1 kn2 kb bb => ?_⟩
  obtain ⟨qab, qac⟩ := b3.fr nqa
  refine w_ixL (SqL.of (kb _ _ (by simp [qab, qac]) hqa')) (at_I (by omega) (by show kn < 8; omega)) ?_
  generalize gI ([0, 1, 1, 1, 2, 2, 2, 3] : List Int) kn.toNat = keen
  walk_at "g"
  refine ⟨b, c, _, rfl, by omega, by omega, bb, fun sl0 H4 sl1 sl2 ks b4 => ?_⟩
  have k4 : Kp [b, c] H3 H4 := (ka.all.trans kb).trans ks
  obtain ⟨eb, ec⟩ := bx.fr ne
  have he4 : H4 e = _ := k4 _ _ (by simp [eb, ec]) (k3 _ _ (by simp [eb, ec]) (k2 _ _ (by simp [eb, ec]) he))
  walk_at "g"
  refine w_ixL (SqL.of he4) at_0 ?_
  walk_at "g"
  refine w_ixL (SqL.of he4) (i := 1) (v := .int hi) rfl ?_
  walk_at "g"
  refine ⟨b, c, _, _, rfl, ⟨by omega, by omega⟩, b4, fun ps pt H5 hps npt k5 b5 hpt => ?_⟩
  have he5 : H5 e = _ := k5 _ _ (by simp [eb, ec]) he4
  obtain ⟨pb, pc⟩ := b4.fr npt
  walk_at "g"
  refine ⟨n, rfl, hn, fun w l r g H6 nw nl nr ng k6 lb6 => ?_⟩
  have b6 := b5.k0 k6
  walk_at "g"
  refine ⟨sz_ok (Nat.zero_le _), G.nw fun lg H7 nlg k7 hlg => ?_⟩
  have lb7 := lb6.k0 k7
  walk_at "g"
  obtain ⟨wb, wc⟩ := b5.fr nw
  obtain ⟨lb_, lc⟩ := b5.fr nl
  obtain ⟨rb, rc⟩ := b5.fr nr
  obtain ⟨gb, gc⟩ := b5.fr ng
  obtain ⟨gbb, gcc⟩ := b6.fr nlg
  have lay : Lay b c e pt w l r g lg := by
    obtain ⟨L', hL, _⟩ := lb6.hl
    obtain ⟨R', hR, _⟩ := lb6.hr
    obtain ⟨G', hG, _⟩ := lb6.hg
    refine ⟨⟨eb, pb, wb, lb_, rb, gb, gbb⟩, ⟨ec, pc, wc, lc, rc, gc, gcc⟩, ⟨ne_of_none (k6.at0 he5) nlg, ne_of_none (k6.at0 hpt) nlg, ne_of_none lb6.ob nlg, ne_of_none hL nlg, ne_of_none hR nlg, ne_of_none hG nlg⟩, ⟨ne_of_none he5 nl, ne_of_none hpt nl⟩, ⟨ne_of_none he5 nr, ne_of_none hpt nr⟩, ⟨ne_of_none he5 ng, ne_of_none hpt ng⟩⟩
  refine ⟨b, c, _, rfl, by omega, by omega, b6.k0 k7, fun nd0 H8 nd1 nd2 k8 b8 => ?_⟩
  have D7 : DrI H7 b c e pt w l r g lg n lo' hi ps [] := ⟨b6.k0 k7, k7.at0 (k6.at0 he5), k7.at0 (k6.at0 hpt), lb7, hlg⟩
  have D8 := D7.kb lay k8 b8
  walk_at "g"
  -- what was free at first
  have k15 : Kp [b, c] H1 H5 := ((k2.trans k3).trans k4).trans k5
  have k05 : Kp [b, c] H H5 := k1.trans k15
  have f_e : H e = none := ne
  have f_w : H w = none := k05.free (by simp [wb, wc]) nw
  have f_l : H l = none := k05.free (by simp [lb_, lc]) nl
  have f_r : H r = none := k05.free (by simp [rb, rc]) nr
  have f_g : H g = none := k05.free (by simp [gb, gc]) ng
  have f_lg : H lg = none := (k05.trans k6.all).free (by simp [gbb, gcc]) nlg
  have k08 : Kp [b, c] H H8 := (k05.trans (k6.trans k7).all).trans k8
  refine w_r1 (by omega) ?_
  refine lp_rng0 (fun k σ H' => (∃ sl y10 y11 y12 y13 y14 y15 y16, σ = [some (.ref b), some (.int n), some (.ref e), some (.int (2 * (m : Int))), some (.int steps), some (.int keen), some (.int sl), some (.ref pt), some (.ref w), some (.ref lg), some (.int y10), y11, y12, y13, y14, y15, y16]) ∧ Kp [b, c] H H' ∧
      ∃ ds, DrI H' b c e pt w l r g lg n lo' hi ps ds ∧ LgO n ds ∧ ds.length = k ∧ (∀ x ∈ ds, lo' ≤ x.natAbs ∧ x.natAbs < lo' + m) ∧ ((k : Int) ≤ steps → ∀ (j : Nat) x p, ds[j]? = some x → ps[j]? = some p → (x.natAbs : Int) = p))
    ⟨⟨_, _, _, _, _, _, _, _, rfl⟩, k08, [], D8, ⟨(fun x h => by cases h), alt_nil', once_nil, Nat.zero_le _⟩, rfl, fun x h => (by cases h), fun _ j x p h => (by simp at h)⟩ ?_ ?_
  · rintro k σ' H9 hk ⟨⟨sl, y10, y11, y12, y13, y14, y15, y16, rfl⟩, k9, ds, D, L, lds, rds, pds⟩
    have hkm : ds.length < 2 * m := by omega
    have len120 : ds.length < 120 := by omega
    obtain ⟨G', hG, lG, eG, eG0, eG1⟩ := D.lb.hg
    walk_at "g"
    refine w_ixL (SqL.of D.he) at_0 ?_
    walk_at "g"
    refine w_ixL (SqL.of D.he) (i := 1) (v := .int hi) rfl ?_
    walk_at "g"
    refine w_r2 (by omega) ?_
    rw [show (hi + 1 - (lo' : Int)).toNat = m by omega]
    refine cp_rng (fun i => ((((List.range i).map fun j => lo' + j).filter fun v => decide (stgF ds v = 1) || (decide ((k : Int) < steps) && decide (stgF ds v = 0))).map fun (v : Nat) => (v : Int)).map V.int) (fun i hi => sz_lt (by
      rw [List.length_map, List.length_map]
      have := List.length_filter_le (fun v => decide (stgF ds v = 1) || (decide ((k : Int) < steps) && decide (stgF ds v = 0))) ((List.range i).map fun j => lo' + j)
      rw [List.length_map, List.length_range] at this
      omega)) rfl (fun i H' S N hi' kk yes no => ?_) (fun fr Ha nfr ka hfr => ?_)
    · walk_at "g"
      refine ⟨rfl, ?_⟩
      have ei : (lo' : Int) + (i : Int) = ((lo' + i : Nat) : Int) := by omega
      have sn : (((List.range (i + 1)).map fun j => lo' + j).filter fun v => decide (stgF ds v = 1) || (decide ((k : Int) < steps) && decide (stgF ds v = 0))) = (((List.range i).map fun j => lo' + j).filter fun v => decide (stgF ds v = 1) || (decide ((k : Int) < steps) && decide (stgF ds v = 0))) ++ (if (decide (stgF ds (lo' + i) = 1) || (decide ((k : Int) < steps) && decide (stgF ds (lo' + i) = 0))) = true then [lo' + i] else []) := by
        rw [List.range_succ, List.map_append, List.filter_append]
        congr 1
        show ([lo' + i].filter fun v => decide (stgF ds v = 1) || (decide ((k : Int) < steps) && decide (stgF ds v = 0))) = _
        exact filt1 _ _
      walk_at "g"
      rw [ei]
      refine w_ixL (SqL.of (kk.at0 D.lb.ob)) (i := 2) (v := .ref g) rfl ?_
      walk_at "g"
      refine w_ixL (SqL.of (kk.at0 hG)) (at_I (by omega) (by omega)) ?_
      rw [Int.toNat_natCast, eG _ (by omega) (by omega)]
      walk_at "g"
      refine w_iteD (fun c1 => ?_) (fun c1 => ?_)
      · walk_at "g"
        refine yes _ _ (Kp.refl _ _) ?_
        rw [sn, if_pos (by rw [decide_eq_true (show stgF ds (lo' + i) = 1 by omega)]; rfl), List.map_append, List.map_append] <;> rfl
      · have s1 : decide (stgF ds (lo' + i) = 1) = false := decide_eq_false (by omega)
        walk_at "g"
        refine w_iteD (fun c2 => ?_) (fun c2 => ?_)
        · walk_at "g"
          refine w_ixL (SqL.of (kk.at0 D.lb.ob)) (i := 2) (v := .ref g) rfl ?_
          walk_at "g"
          refine w_ixL (SqL.of (kk.at0 hG)) (at_I (by omega) (by omega)) ?_
          rw [Int.toNat_natCast, eG _ (by omega) (by omega)]
          walk_at "g"
          refine w_iteD (fun c3 => ?_) (fun c3 => ?_)
          · walk_at "g"
            refine yes _ _ (Kp.refl _ _) ?_
            rw [sn, if_pos (by rw [s1, decide_eq_true c2, decide_eq_true (show stgF ds (lo' + i) = 0 by omega)]; rfl), List.map_append, List.map_append] <;> rfl
          · refine no _ (Kp.refl _ _) ?_
            rw [sn, if_neg (by rw [s1, decide_eq_true c2, decide_eq_false (show ¬ stgF ds (lo' + i) = 0 by omega)]; decide), List.append_nil]
        · walk_at "g"
          refine no _ (Kp.refl _ _) ?_
          rw [sn, if_neg (by rw [s1, decide_eq_false c2]; exact Bool.false_ne_true), List.append_nil]
    have fall : ∀ v ∈ (((List.range m).map fun j => lo' + j).filter fun v => decide (stgF ds v = 1) || (decide ((k : Int) < steps) && decide (stgF ds v = 0))), lo' ≤ v ∧ v < lo' + m ∧ stgF ds v < 2 := by
      intro v hv
      obtain ⟨h1, h2⟩ := List.mem_filter.mp hv
      obtain ⟨j, hj, rfl⟩ := List.mem_map.mp h1
      have := List.mem_range.mp hj
      refine ⟨by omega, by omega, ?_⟩
      rw [Bool.or_eq_true, Bool.and_eq_true, decide_eq_true_iff, decide_eq_true_iff, decide_eq_true_iff] at h2
      omega
    have fbk : (((List.range m).map fun j => lo' + j).filter fun v => decide (stgF ds v = 1) || (decide ((k : Int) < steps) && decide (stgF ds v = 0))) = [] → AllBk ds := by
      intro z
      refine bk_range (n := n) rds fun v v1 v2 y => ?_
      have := List.filter_eq_nil_iff.mp z v (List.mem_map.mpr ⟨v - lo', List.mem_range.mpr (by omega), by omega⟩)
      rw [decide_eq_true y] at this
      exact this rfl
    have lfr : (((List.range m).map fun j => lo' + j).filter fun v => decide (stgF ds v = 1) || (decide ((k : Int) < steps) && decide (stgF ds v = 0))).length ≤ 60 := by
      refine Nat.le_trans (List.length_filter_le _ _) ?_
      rw [List.length_map, List.length_range]
      omega
    generalize (((List.range m).map fun j => lo' + j).filter fun v => decide (stgF ds v = 1) || (decide ((k : Int) < steps) && decide (stgF ds v = 0))) = fs at hfr fbk fall lfr
    have Da := D.k0 ka
    walk_at "g"
    refine w_lenL (SqL.of hfr) ?_
    walk_at "g"
    rw [List.length_map, List.length_map]
    refine w_iteD (fun c0 => ?_) (fun c0 => ?_)
    · unfold tBreak
      walk_at "g"
      exact gk ds lg Ha L (fbk (List.length_eq_zero_iff.mp (by omega))) f_lg (k9.trans ka.all) Da.bx Da.hg
    have fsne : fs ≠ [] := fun z => by
      rw [z] at c0
      exact c0 rfl
    walk_at "j"
    refine w_l1 (SqL.of hfr) ?_
    refine cp_lst (SqL.of hfr) (fun j => ((fs.take j).filter fun v => decide (0 < (lateL (runS (wholeS n) ds) ds v).length)).map fun (v : Nat) => V.int (v : Int)) (fun j hj => sz_lt (by
      rw [List.length_map, List.length_map] at hj
      rw [List.length_map]
      have := List.length_filter_le (fun v => decide (0 < (lateL (runS (wholeS n) ds) ds v).length)) (fs.take j)
      rw [List.length_take] at this
      omega)) rfl (fun j x H' S N hx kk yes no => ?_) (fun la Hb nla kb hla => ?_)
    · obtain ⟨z, hz, rfl⟩ := at_map hx
      rw [List.getElem?_map] at hz
      obtain ⟨v, hv, rfl⟩ : ∃ v, fs[j]? = some v ∧ (v : Int) = z := by
        cases e : fs[j]? with
        | none => rw [e] at hz; cases hz
        | some v => rw [e] at hz; exact ⟨v, rfl, by injection hz⟩
      have bv := fall v (List.mem_of_getElem? hv)
      walk_at "g"
      refine ⟨rfl, ?_⟩
      walk_at "g"
      refine ⟨w, l, r, g, n, v, ds, rfl, Da.lb.k0 kk, by omega, by omega, fun q H2 nq k2 hq => ?_⟩
      walk_at "g"
      refine w_lenL (SqL.of hq) ?_
      walk_at "g"
      rw [List.length_map]
      refine w_iteD (fun cc => ?_) (fun cc => ?_)
      · walk_at "g"
        refine yes _ _ k2 ?_
        rw [take_snoc hv, List.filter_append, List.filter_cons_of_pos (by exact decide_eq_true (by omega)), List.map_append] <;> rfl
      · refine no _ k2 ?_
        rw [take_snoc hv, List.filter_append, List.filter_cons_of_neg (by rw [decide_eq_false (by omega)]; exact Bool.false_ne_true), List.filter_nil, List.append_nil]
    rw [List.length_map, List.length_map, List.take_length] at hla
    have Db := Da.k0 kb
    have hfrb := kb.at0 hfr
    walk_at "j"
    refine ⟨b, c, 4, rfl, by omega, by omega, Db.bx, fun tn Hd tn1 tn2 kd bd => ?_⟩
    have Dd := Db.kb lay kd bd
    have k9b : Kp [] H9 Hb := ka.trans kb
    have nfc : ∀ x, H9 x = none → x ≠ b ∧ x ≠ c := fun x nx => D.bx.fr nx
    obtain ⟨frb, frc⟩ := nfc fr nfr
    obtain ⟨lab, lac⟩ := nfc la (ka.free0 nla)
    have e_fr : ∀ l : List Nat, (l.map fun (v : Nat) => (v : Int)).map V.int = l.map fun (v : Nat) => V.int (v : Int) := fun l => by rw [List.map_map] <;> rfl
    have hfrd : Hd fr = some (.lst (fs.map fun (v : Nat) => V.int (v : Int))) := by rw [← e_fr]; exact kd _ _ (by simp [frb, frc]) hfrb
    have hlad : Hd la = _ := kd _ _ (by simp [lab, lac]) hla
    have filt : ∀ (p : Nat → Bool) (gs : List Nat), (∀ v ∈ gs, lo' ≤ v ∧ v < lo' + m ∧ stgF ds v < 2) → ∀ v ∈ gs.filter p, lo' ≤ v ∧ v < lo' + m ∧ stgF ds v < 2 := fun p gs h v hv => h v (List.mem_filter.mp hv).1
    walk_at "j"
    refine w_ifJ (fun σ' H' => ∃ (q : Addr) (gs : List Nat) (sl' : Int) (y13 y14 y15 y16 : Option V), σ' = [some (.ref b), some (.int n), some (.ref e), some (.int (2 * (m : Int))), some (.int steps), some (.int keen), some (.int sl'), some (.ref pt), some (.ref w), some (.ref lg), some (.int y10), some (.int (k : Int)), some (.ref q), y13, y14, y15, y16] ∧
      Kp [] Hd H' ∧ q ≠ b ∧ q ≠ c ∧ H' q = some (.lst (gs.map fun (v : Nat) => V.int (v : Int))) ∧ gs ≠ [] ∧ gs.length ≤ 60 ∧ (∀ v ∈ gs, lo' ≤ v ∧ v < lo' + m ∧ stgF ds v < 2) ∧ ((k : Int) < steps → ∀ p, ps[k]? = some p → ∀ v ∈ gs, (v : Int) = p)) (fun N hN => ?_) (fun σ' He ⟨q, gs, sl', z13, z14, z15, z16, es, ke, qb, qc, hq, gne, gl, gall, gps⟩ => ?_)
    · -- which nodes may go
      have third : ∀ D2 : Ends, D2.nx = N → ¬ ((k : Int) < steps ∧ (k : Int) < (ps.length : Int)) → tIfS (tTest (tOp rGtA (tVar 5) (tC (.int 0)))) (tSeq (tIfS (tAnd (tTest (tOp rGtA (tVar 5) (tC (.int 1)))) (tTest (tOp rLtA (tCB (rLenA K) (tCons (tVar 13) (tNil))) (tCB (rLenA K) (tCons (tVar 12) (tNil)))))) (tAsg (tLc (iList K (tVar 12)) (gName 16) (tTest (tOp (rIn K true) (tVar 16) (tVar 13))) (tVar 16) [16]) (gName 12)) (tNext)) (tSeq (tAsg (tLc (iList K (tVar 12)) (gName 16) (tTest (tOp (rEqA K) (tCB rAbsA (tCons (tOp rSubA (tVar 16) (tVar 10)) (tNil))) (tC (.int 1)))) (tVar 16) [16]) (gName 15)) (tIfS (tAnd (tTest (tOp rGtA (tVar 14) (tC (.int 0)))) (tTest (tOp rGtA (tCB (rLenA K) (tCons (tVar 15) (tNil))) (tC (.int 0))))) (tAsg (tVar 15) (gName 12)) (tNext)))) (tNext) D2 [some (.ref b), some (.int n), some (.ref e), some (.int (2 * (m : Int))), some (.int steps), some (.int keen), some (.int sl), some (.ref pt), some (.ref w), some (.ref lg), some (.int y10), some (.int (k : Int)), some (.ref fr), some (.ref la), some (.int tn), y15, y16] Hd := by
        intro D2 eD big
        have hx : ∀ σ H', N σ H' → D2.nx σ H' := fun σ H' z => by rw [eD]; exact z
        have bg : (k : Int) < steps → ∀ p, ps[k]? = some p → ∀ v : Nat, (v : Int) = p := fun h1 p hp => by
          have := (List.getElem?_eq_some_iff.mp hp).1
          omega
        walk_at "g"
        refine w_iteD (fun c5 => ?_) (fun c5 => ?_)
        · walk_at "j"
          refine w_ifJ (fun σ' H' => ∃ (q : Addr) (gs : List Nat) (z16 : Option V), σ' = [some (.ref b), some (.int n), some (.ref e), some (.int (2 * (m : Int))), some (.int steps), some (.int keen), some (.int sl), some (.ref pt), some (.ref w), some (.ref lg), some (.int y10), some (.int (k : Int)), some (.ref q), some (.ref la), some (.int tn), y15, z16] ∧
            Kp [] Hd H' ∧ q ≠ b ∧ q ≠ c ∧ H' q = some (.lst (gs.map fun (v : Nat) => V.int (v : Int))) ∧ gs ≠ [] ∧ gs.length ≤ 60 ∧ (∀ v ∈ gs, lo' ≤ v ∧ v < lo' + m ∧ stgF ds v < 2)) (fun N2 hN2 => ?_) (fun σ' He ⟨q, gs, z16, es, ke, qb, qc, hq, gne, gl, gall⟩ => ?_)
          · have same : N2 [some (.ref b), some (.int n), some (.ref e), some (.int (2 * (m : Int))), some (.int steps), some (.int keen), some (.int sl), some (.ref pt), some (.ref w), some (.ref lg), some (.int y10), some (.int (k : Int)), some (.ref fr), some (.ref la), some (.int tn), y15, y16] Hd := hN2 _ _ ⟨fr, fs, _, rfl, Kp.refl _ _, frb, frc, hfrd, fsne, lfr, fall⟩
            walk_at "g"
            refine w_iteD (fun c6 => ?_) (fun c6 => ?_)
            · walk_at "g"
              refine w_lenL (SqL.of hlad) ?_
              walk_at "g"
              refine w_lenL (SqL.of hfrd) ?_
              walk_at "g"
              rw [List.length_map, List.length_map]
              refine w_iteD (fun c7 => ?_) (fun c7 => ?_)
              · walk_at "g"
                refine w_l1 (SqL.of hfrd) ?_
                refine cp_lst (SqL.of hfrd) (fun j => ((fs.take j).filter fun v : Nat => !decide ((v : Int) ∈ (fs.filter fun v => decide (0 < (lateL (runS (wholeS n) ds) ds v).length)).map fun (u : Nat) => (u : Int))).map fun (v : Nat) => V.int (v : Int)) (fun j hj => sz_lt (by
                  rw [List.length_map] at hj
                  rw [List.length_map]
                  have := List.length_filter_le (fun v : Nat => !decide ((v : Int) ∈ (fs.filter fun v => decide (0 < (lateL (runS (wholeS n) ds) ds v).length)).map fun (u : Nat) => (u : Int))) (fs.take j)
                  rw [List.length_take] at this
                  omega)) rfl (fun j x H' S N hx kk yes no => ?_) (fun q Hc nq kc hq => ?_)
                · obtain ⟨v, hv, rfl⟩ := at_map hx
                  walk_at "g"
                  refine ⟨rfl, ?_⟩
                  walk_at "g"
                  refine w_inZ (by rw [e_fr]; exact kk.at0 hlad) ?_
                  walk_at "g"
                  refine w_iteBN (fun cc => ?_) (fun cc => ?_)
                  · walk_at "g"
                    refine yes _ _ (Kp.refl _ _) ?_
                    rw [take_snoc hv, List.filter_append, List.filter_cons_of_pos (by rw [cc]; rfl), List.map_append] <;> rfl
                  · refine no _ (Kp.refl _ _) ?_
                    rw [take_snoc hv, List.filter_append, List.filter_cons_of_neg (by rw [cc]; exact Bool.false_ne_true), List.filter_nil, List.append_nil]
                rw [List.length_map, List.take_length] at hq
                walk_at "g"
                obtain ⟨n1, n2⟩ := bd.fr nq
                exact hN2 _ _ ⟨q, _, _, rfl, kc, n1, n2, hq, rest_ne (by omega), Nat.le_trans (List.length_filter_le _ _) lfr, filt _ _ fall⟩
              · walk_at "g"
                exact same
            · walk_at "g"
              exact same
          subst es
          walk_at "g"
          refine w_l1 (SqL.of hq) ?_
          refine cp_lst (SqL.of hq) (fun j => ((gs.take j).filter fun v : Nat => decide ((((v : Int) - y10).natAbs : Int) = 1)).map fun (v : Nat) => V.int (v : Int)) (fun j hj => sz_lt (by
            rw [List.length_map] at hj
            rw [List.length_map]
            have := List.length_filter_le (fun v : Nat => decide ((((v : Int) - y10).natAbs : Int) = 1)) (gs.take j)
            rw [List.length_take] at this
            omega)) rfl (fun j x H' S N hx kk yes no => ?_) (fun ne_ Hc nne kc hne => ?_)
          · obtain ⟨v, hv, rfl⟩ := at_map hx
            walk_at "g"
            refine ⟨rfl, ?_⟩
            walk_at "g"
            rw [natAbs_if]
            refine w_iteD (fun cc => ?_) (fun cc => ?_)
            · walk_at "g"
              refine yes _ _ (Kp.refl _ _) ?_
              rw [take_snoc hv, List.filter_append, List.filter_cons_of_pos (by exact decide_eq_true cc), List.map_append] <;> rfl
            · refine no _ (Kp.refl _ _) ?_
              rw [take_snoc hv, List.filter_append, List.filter_cons_of_neg (by rw [decide_eq_false cc]; exact Bool.false_ne_true), List.filter_nil, List.append_nil]
          rw [List.length_map, List.take_length] at hne
          have kq := kc.at0 hq
          obtain ⟨n1, n2⟩ := (bd.k0 ke).fr nne
          have same : ∀ z15 z16, N [some (.ref b), some (.int n), some (.ref e), some (.int (2 * (m : Int))), some (.int steps), some (.int keen), some (.int sl), some (.ref pt), some (.ref w), some (.ref lg), some (.int y10), some (.int (k : Int)), some (.ref q), some (.ref la), some (.int tn), z15, z16] Hc := fun z15 z16 => hN _ _ ⟨q, gs, _, _, _, _, _, rfl, ke.trans kc, qb, qc, kq, gne, gl, gall, fun h p hp v _ => bg h p hp v⟩
          walk_at "g"
          refine w_iteD (fun c6 => ?_) (fun c6 => ?_)
          · walk_at "g"
            refine w_lenL (SqL.of hne) ?_
            walk_at "g"
            rw [List.length_map]
            refine w_iteD (fun c7 => ?_) (fun c7 => ?_)
            · walk_at "g"
              refine hx _ _ (hN _ _ ⟨ne_, _, _, _, _, _, _, rfl, ke.trans kc, n1, n2, hne, fun z => ?_, Nat.le_trans (List.length_filter_le _ _) gl, filt _ _ gall, fun h p hp v _ => bg h p hp v⟩)
              rw [z] at c7
              simp at c7
            · walk_at "g"
              exact hx _ _ (same _ _)
          · walk_at "g"
            exact hx _ _ (same _ _)
        · walk_at "g"
          exact hx _ _ (hN _ _ ⟨fr, fs, _, _, _, _, _, rfl, Kp.refl _ _, frb, frc, hfrd, fsne, lfr, fall, fun h p hp v _ => bg h p hp v⟩)
      have second : ∀ D2 : Ends, D2.nx = N → ¬ ((k : Int) < steps ∧ (k : Int) < (ps.length : Int)) → tIfS (tAnd (tOr (tTest (tOp (rEqA K) (tVar 5) (tC (.int 1)))) (tAnd (tTest (tOp (rEqA K) (tVar 5) (tC (.int 2)))) (tTest (tOp rGeA (tVar 11) (tVar 6))))) (tAnd (tTest (tOp rLtA (tVar 14) (tC (.int 3)))) (tTest (tOp rGtA (tCB (rLenA K) (tCons (tVar 13) (tNil))) (tC (.int 0)))))) (tSeq (tAsg (tVar 13) (gName 12)) (tAsg (tVar 3) (gName 6))) (tIfS (tTest (tOp rGtA (tVar 5) (tC (.int 0)))) (tSeq (tIfS (tAnd (tTest (tOp rGtA (tVar 5) (tC (.int 1)))) (tTest (tOp rLtA (tCB (rLenA K) (tCons (tVar 13) (tNil))) (tCB (rLenA K) (tCons (tVar 12) (tNil)))))) (tAsg (tLc (iList K (tVar 12)) (gName 16) (tTest (tOp (rIn K true) (tVar 16) (tVar 13))) (tVar 16) [16]) (gName 12)) (tNext)) (tSeq (tAsg (tLc (iList K (tVar 12)) (gName 16) (tTest (tOp (rEqA K) (tCB rAbsA (tCons (tOp rSubA (tVar 16) (tVar 10)) (tNil))) (tC (.int 1)))) (tVar 16) [16]) (gName 15)) (tIfS (tAnd (tTest (tOp rGtA (tVar 14) (tC (.int 0)))) (tTest (tOp rGtA (tCB (rLenA K) (tCons (tVar 15) (tNil))) (tC (.int 0))))) (tAsg (tVar 15) (gName 12)) (tNext)))) (tNext)) D2 [some (.ref b), some (.int n), some (.ref e), some (.int (2 * (m : Int))), some (.int steps), some (.int keen), some (.int sl), some (.ref pt), some (.ref w), some (.ref lg), some (.int y10), some (.int (k : Int)), some (.ref fr), some (.ref la), some (.int tn), y15, y16] Hd := by
        intro D2 eD big
        have hx : ∀ σ H', N σ H' → D2.nx σ H' := fun σ H' z => by rw [eD]; exact z
        have bg : (k : Int) < steps → ∀ p, ps[k]? = some p → ∀ v : Nat, (v : Int) = p := fun h1 p hp => by
          have := (List.getElem?_eq_some_iff.mp hp).1
          omega
        have more : ∀ D3 : Ends, D3.nx = D2.nx → tIfS (tAnd (tTest (tOp rLtA (tVar 14) (tC (.int 3)))) (tTest (tOp rGtA (tCB (rLenA K) (tCons (tVar 13) (tNil))) (tC (.int 0))))) (tSeq (tAsg (tVar 13) (gName 12)) (tAsg (tVar 3) (gName 6))) (tIfS (tTest (tOp rGtA (tVar 5) (tC (.int 0)))) (tSeq (tIfS (tAnd (tTest (tOp rGtA (tVar 5) (tC (.int 1)))) (tTest (tOp rLtA (tCB (rLenA K) (tCons (tVar 13) (tNil))) (tCB (rLenA K) (tCons (tVar 12) (tNil)))))) (tAsg (tLc (iList K (tVar 12)) (gName 16) (tTest (tOp (rIn K true) (tVar 16) (tVar 13))) (tVar 16) [16]) (gName 12)) (tNext)) (tSeq (tAsg (tLc (iList K (tVar 12)) (gName 16) (tTest (tOp (rEqA K) (tCB rAbsA (tCons (tOp rSubA (tVar 16) (tVar 10)) (tNil))) (tC (.int 1)))) (tVar 16) [16]) (gName 15)) (tIfS (tAnd (tTest (tOp rGtA (tVar 14) (tC (.int 0)))) (tTest (tOp rGtA (tCB (rLenA K) (tCons (tVar 15) (tNil))) (tC (.int 0))))) (tAsg (tVar 15) (gName 12)) (tNext)))) (tNext)) D3 [some (.ref b), some (.int n), some (.ref e), some (.int (2 * (m : Int))), some (.int steps), some (.int keen), some (.int sl), some (.ref pt), some (.ref w), some (.ref lg), some (.int y10), some (.int (k : Int)), some (.ref fr), some (.ref la), some (.int tn), y15, y16] Hd := by
          intro D3 e3
          walk_at "g"
          refine w_iteD (fun c3 => ?_) (fun c3 => ?_)
          · walk_at "g"
            refine w_lenL (SqL.of hlad) ?_
            walk_at "g"
            rw [List.length_map]
            refine w_iteD (fun c4 => ?_) (fun c4 => ?_)
            · walk_at "g"
              rw [e3]
              refine hx _ _ (hN _ _ ⟨la, _, _, _, _, _, _, rfl, Kp.refl _ _, lab, lac, hlad, fun z => ?_, Nat.le_trans (List.length_filter_le _ _) lfr, filt _ _ fall, fun h p hp v _ => bg h p hp v⟩)
              rw [z] at c4
              simp at c4
            · exact third _ (by rw [e3, eD]) big
          · exact third _ (by rw [e3, eD]) big
        walk_at "g"
        refine w_iteD (fun c1 => ?_) (fun c1 => ?_)
        · exact more _ rfl
        · walk_at "g"
          refine w_iteD (fun c2 => ?_) (fun c2 => ?_)
          · walk_at "g"
            refine w_iteD (fun c3 => ?_) (fun c3 => ?_)
            · exact more _ rfl
            · exact third _ eD big
          · exact third _ eD big
      walk_at "g"
      refine w_iteD (fun c1 => ?_) (fun c1 => ?_)
      · walk_at "g"
        refine w_lenL (SqL.of Dd.hp) ?_
        walk_at "g"
        rw [List.length_map]
        refine w_iteD (fun c2 => ?_) (fun c2 => ?_)
        · obtain ⟨p, hp⟩ : ∃ p, ps[k]? = some p := ⟨_, List.getElem?_eq_getElem (by omega)⟩
          have pv : ∃ v : Nat, p = (v : Int) ∧ lo' ≤ v ∧ v < lo' + m ∧ stgF ds v < 2 := by
            rcases hps with rfl | ⟨x, y, rfl, x1, x2, y1, y2, xy⟩
            · simp at hp
            · have a0 : ∀ a, ds[0]? = some a → (a.natAbs : Int) = x := fun a h => pds (by omega) 0 a x h rfl
              have a1 : ∀ a, ds[1]? = some a → (a.natAbs : Int) = y := fun a h => pds (by omega) 1 a y h rfl
              have ln : ∀ v : Nat, 1 ≤ v → stgF ds v = (opsV v ds).length := fun v hv => (nodeI L.alt L.one v hv).ln.symm
              match k, hp, lds with
              | 0, hp, lds =>
                have e : x = p := by simpa using hp
                subst e
                have d0 : ds = [] := List.length_eq_zero_iff.mp lds
                exact ⟨x.toNat, by omega, by omega, by omega, by rw [ln _ (by omega), d0]; exact Nat.zero_lt_succ 1⟩
              | 1, hp, lds =>
                have e : y = p := by simpa using hp
                subst e
                match ds, lds, a0, ln with
                | [a], _, a0, ln =>
                  have := a0 a rfl
                  refine ⟨y.toNat, by omega, by omega, by omega, ?_⟩
                  rw [ln _ (by omega)]
                  have : (opsV y.toNat [a]) = [] := by
                    unfold opsV
                    rw [List.filter_cons_of_neg (by rw [decide_eq_false (by omega)]; exact Bool.false_ne_true)] <;> rfl
                  rw [this]
                  decide
              | 2, hp, lds =>
                have e : x = p := by simpa using hp
                subst e
                match ds, lds, a0, a1, ln with
                | [a, d], _, a0, a1, ln =>
                  have h0 := a0 a rfl
                  have h1 := a1 d rfl
                  refine ⟨x.toNat, by omega, by omega, by omega, ?_⟩
                  rw [ln _ (by omega)]
                  have : (opsV x.toNat [a, d]).length ≤ 1 := by
                    unfold opsV
                    have c0 : decide (d.natAbs = x.toNat) = false := decide_eq_false (by omega)
                    rw [List.filter_cons]
                    split
                    · rw [List.filter_cons_of_neg (by rw [c0]; exact Bool.false_ne_true)]
                      exact Nat.le_refl _
                    · rw [List.filter_cons_of_neg (by rw [c0]; exact Bool.false_ne_true)]
                      exact Nat.zero_le _
                  omega
              | k + 3, hp, _ => simp at hp
          obtain ⟨v, rfl, v1, v2, v3⟩ := pv
          walk_at "g"
          refine w_ixL (SqL.of Dd.hp) (v := .int (v : Int)) (by rw [atI_pos (by omega) (by rw [List.length_map]; omega), Int.toNat_natCast, List.getElem?_map, hp] <;> rfl) ?_
          walk_at "g"
          refine ⟨sz_ok (by show 1 ≤ 1000000; omega), G.nw fun q He nq ke hq => ?_⟩
          walk_at "g"
          obtain ⟨q1, q2⟩ := bd.fr nq
          refine hN _ _ ⟨q, [v], _, _, _, _, _, rfl, ke, q1, q2, hq, by simp, by show 1 ≤ 60; omega, fun u hu => ?_, fun _ p' hp' u hu => ?_⟩
          · rw [List.mem_singleton] at hu
            rw [hu]
            exact ⟨v1, v2, v3⟩
          · rw [List.mem_singleton] at hu
            rw [hp] at hp'
            injection hp' with hp'
            rw [hu, hp']
        · exact second _ rfl (fun z => c2 z.2)
      · exact second _ rfl (fun z => c1 z.1)
    subst es
    have De := Dd.k0 ke
    walk_at "g"
    refine w_lenL (SqL.of hq) ?_
    walk_at "g"
    rw [List.length_map]
    have gpos : 0 < gs.length := List.length_pos_iff.mpr gne
    refine ⟨b, c, _, rfl, by omega, by omega, De.bx, fun ix Hf ix1 ix2 kf bf => ?_⟩
    have Df := De.kb lay kf bf
    have hqf : Hf q = _ := kf _ _ (by simp [qb, qc]) hq
    obtain ⟨v, hv⟩ : ∃ v, gs[ix.toNat]? = some v := ⟨_, List.getElem?_eq_getElem (by omega)⟩
    obtain ⟨v1, v2, v3⟩ := gall v (List.mem_of_getElem? hv)
    refine w_ixL (SqL.of hqf) (v := .int (v : Int)) (by rw [atI_pos ix1 (by rw [List.length_map]; omega), List.getElem?_map, hv] <;> rfl) ?_
    walk_at "g"
    obtain ⟨op, eop, na, ok, once, L2⟩ := L.go (v := v) (by omega) (by omega) v3 len120 hn
    refine ⟨w_ty (SqL.of Df.hg), ?_⟩
    walk_at "g"
    refine ⟨sz_ok (by show 2 ≤ 1000000; omega), G.nw fun t Hg nt kg ht => ?_⟩
    walk_at "g"
    have Dg := Df.k0 kg
    obtain ⟨G2, hG2, lG2, eG2, _, _⟩ := Dg.lb.hg
    refine w_ixL (SqL.of Dg.lb.ob) (i := 2) (v := .ref g) rfl ?_
    walk_at "g"
    refine w_ixL (SqL.of hG2) (at_I (by omega) (by omega)) ?_
    rw [Int.toNat_natCast, eG2 v (by omega) (by omega)]
    have ea : atI [V.int (-(v : Int)), V.int (v : Int)] (stgF ds v : Int) = some (.int op) := by
      rw [eop]
      have h01 : stgF ds v = 0 ∨ stgF ds v = 1 := by omega
      rcases h01 with h | h
      · rw [h, if_pos rfl] <;> rfl
      · rw [h, if_neg (by omega)] <;> rfl
    refine w_ixL (SqL.of ht) ea ?_
    walk_at "g"
    refine w_apT Dg.hg (sz_lt (by rw [List.length_map]; omega)) fun Hh kh hh => ?_
    obtain ⟨x1, x2, x3, x4, x5, x6, x7⟩ := lay.nb
    obtain ⟨z1, z2, z3, z4, z5, z6, z7⟩ := lay.nc
    obtain ⟨g1, g2, g3, g4, g5, g6⟩ := lay.ng
    have hh' : Hh lg = some (.lst ((ds ++ [op]).map V.int)) := by rw [hh, List.map_append] <;> rfl
    have lbh : LB Hh w l r g n ds := Dg.lb.kp kh (by simpa using g3) (by simpa using g4) (by simpa using g5) (by simpa using g6)
    have bh : BoxI Hh b c := Dg.bx.kp kh (by simpa using Ne.symm x7) (by simpa using Ne.symm z7)
    walk_at "g"
    refine w_ixL (SqL.of hh') (at_I (by omega) (by rw [List.length_append, lds]; show (k : Int) < ((k + 1 : Nat) : Int); omega)) ?_
    rw [Int.toNat_natCast, show gI (ds ++ [op]) k = op from gI_of (by rw [← lds, List.getElem?_append_right (Nat.le_refl _), Nat.sub_self] <;> rfl)]
    walk_at "g"
    refine ⟨w, l, r, g, n, ds, op, rfl, lbh, ok, once, fun Hi ki lbi => ?_⟩
    obtain ⟨nl1, nl2⟩ := lay.nl
    obtain ⟨nr1, nr2⟩ := lay.nr
    obtain ⟨ns1, ns2⟩ := lay.ns
    walk_at "g"
    refine ⟨⟨_, _, _, _, _, _, _, _, rfl⟩, ?_, ds ++ [op], ⟨bh.kp ki (by simp [Ne.symm x4, Ne.symm x5, Ne.symm x6]) (by simp [Ne.symm z4, Ne.symm z5, Ne.symm z6]), ki _ _ (by simp [nl1, nr1, ns1]) (kh.at1 g1 Dg.he), ki _ _ (by simp [nl2, nr2, ns2]) (kh.at1 g2 Dg.hp), lbi, ki _ _ (by simp [Ne.symm g4, Ne.symm g5, Ne.symm g6]) hh'⟩, L2, by rw [List.length_append, lds] <;> rfl, fun x hx => ?_, fun hst j x p hj hp => ?_⟩
    · have k9i : Kp [b, c, lg, l, r, g] H9 Hi := ((k9b.all.trans (kd.mono (by simp))).trans (ke.all.trans (kf.mono (by simp)))).trans (kg.all.trans ((kh.mono (by simp)).trans (ki.mono (by simp))))
      exact ((k9.mono (S' := [b, c, lg, l, r, g]) (by simp)).trans k9i).cut (by simp [f_lg, f_l, f_r, f_g])
    · rcases List.mem_append.mp hx with hx | hx
      · exact rds x hx
      · rw [List.mem_singleton] at hx
        rw [hx, na]
        exact ⟨v1, v2⟩
    · by_cases cj : j < ds.length
      · rw [List.getElem?_append_left cj] at hj
        exact pds (by omega) j x p hj hp
      · have hl := (List.getElem?_eq_some_iff.mp hj).1
        rw [List.length_append] at hl
        have ej : j = ds.length := by simp at hl; omega
        subst ej
        rw [List.getElem?_append_right (Nat.le_refl _), Nat.sub_self] at hj
        have ex : op = x := by simpa using hj
        subst ex
        rw [na]
        rw [lds] at hp
        exact gps (by omega) p hp v (List.mem_of_getElem? hv)
  · rintro σ' H9 ⟨⟨sl, y10, y11, y12, y13, y14, y15, y16, rfl⟩, k9, ds, D, L, lds, rds, pds⟩
    walk_at "g"
    exact gk ds lg H9 L (bk_full L (by omega) rds (by omega)) f_lg k9 D.bx D.hg
end
end G
set_option Elab.async false
set_option linter.all false
set_option maxRecDepth 100000
set_option maxHeartbeats 2000000
namespace G
--#FAM KP
open PySem PySem.Spec PyProof.Rows L2
local macro_rules
  | `(tactic| walk_at "1") => `(tactic| first
    | with_reducible refine w_seq ?_
    | with_reducible refine w_asg ?_
    | with_reducible refine w_asgS ?_
    | with_reducible refine w_asf ?_
    | with_reducible refine w_drop ?_
    | with_reducible refine w_ret ?_
    | with_reducible refine w_if ?_
    | with_reducible refine w_not ?_
    | with_reducible refine w_and ?_
    | with_reducible refine w_or ?_
    | with_reducible refine w_test ?_
    | with_reducible refine w_tb ?_
    | with_reducible refine w_chain ?_
    | with_reducible refine w_op ?_
    | with_reducible refine w_un ?_
    | with_reducible refine w_andV ?_
    | with_reducible refine w_orV ?_
    | with_reducible refine w_notV ?_
    | with_reducible refine w_ifE ?_
    | with_reducible refine w_cons ?_
    | with_reducible refine w_nil ?_
    | with_reducible refine w_cb ?_
    | with_reducible refine w_cl ?_
    | with_reducible refine w_mt ?_
    | with_reducible refine w_fld ?_
    | with_reducible refine w_tupN ?_
    | with_reducible refine w_lstN ?_
    | with_reducible refine w_bm ?_
    | with_reducible refine w_bm0 ?_
    | with_reducible refine w_for ?_
    | with_reducible refine w_lc ?_
    | with_reducible refine w_iR1 ?_
    | with_reducible refine w_iR2 ?_
    | with_reducible refine w_iL ?_
    | with_reducible refine w_iT ?_
    | with_reducible refine w_iE ?_
    | with_reducible refine w_iZ ?_
    | with_reducible refine w_var (by with_unfolding_all rfl) ?_
    | with_reducible refine w_c ?_
    | with_reducible refine w_next ?_
    | with_reducible refine w_i0 ?_
    | with_reducible refine w_u1 ?_
    | with_reducible refine w_addI ?_
    | with_reducible refine w_eqI ?_
    | with_reducible refine w_eqS ?_
    | with_reducible refine w_eqB ?_
    | with_reducible refine w_neI ?_
    | with_reducible refine w_neS ?_
    | with_reducible refine w_neB ?_
    | with_reducible refine w_abs ?_
    | with_reducible refine w_intI ?_
    | with_reducible refine w_min2 ?_
    | with_reducible refine w_max2 ?_
    | with_reducible refine w_isN0 ?_
    | with_reducible refine w_isN1 ref_ne ?_
    | with_reducible refine w_isN1 int_ne ?_
    | with_reducible refine w_notN0 ?_
    | with_reducible refine w_notN1 ref_ne ?_
    | with_reducible refine w_notN1 int_ne ?_
    | with_reducible refine w_ex1 ?_
    | with_reducible refine w_n1 ?_
    | with_reducible refine w_n2 ?_
    | with_reducible refine w_tT ?_
    | with_reducible refine w_tF ?_
    | with_reducible refine w_nT ?_
    | with_reducible refine w_nF ?_
    | with_reducible refine w_rz ?_
    | with_reducible refine w_mkN ?_
    | with_reducible refine w_lrgN ?_
    | with_reducible refine w_rg1 ?_
    | with_reducible refine w_rg2 ?_
    | with_reducible refine w_sl ?_
    | with_reducible refine w_np ?_
    | with_reducible refine w_pt ?_
    | with_reducible refine w_tr ?_
    | with_reducible refine w_gn ?_
    | with_reducible refine w_yes ?_
    | with_reducible refine w_m1 ?_
    | with_reducible refine w_asu ?_
    | with_reducible refine w_exS ?_
    | with_reducible refine w_iS ?_
    | with_reducible refine w_g1 ?_
    | with_reducible refine w_gc ?_
    | with_reducible refine w_gt (SqT.of upd_same) rfl ?_)
local macro_rules
  | `(tactic| walk_at "g") => `(tactic| repeat walk_at "1")
local macro_rules
  | `(tactic| walk_at "j1") => `(tactic| first
    | with_reducible refine w_seqI ?_
    | walk_at "1")
local macro_rules
  | `(tactic| walk_at "j") => `(tactic| repeat walk_at "j1")
section
variable {K : PySem.W.Frag} {mg : Str → Option Value}
theorem Leg.rep {H : Hp} {n : Nat} {log : List Int} {E : XK} (hn : n ≤ 60) (le : Leg (wholeS n) log) : RepE K H (n : Int) log E :=
  ⟨fun ok i op hi l b H' k => by rw [Int.toNat_natCast] at b; exact absurd (le i op hi) b, fun b => absurd ⟨by omega, by omega⟩ b⟩
theorem lateW_len (n : Nat) (log : List Int) : (lateW n log).length ≤ 2 * log.length := lateWi_len n log log.length
theorem at_Bf {f : Nat → Bool} {m : Nat} {i : Int} (h0 : 0 ≤ i) (h1 : i < (m : Int)) : atI (((List.range m).map fun g => f g).map V.bl) i = some (.bl (f i.toNat)) := by
  rw [atI_pos h0 (by rw [List.length_map, List.length_map, List.length_range]; exact h1), List.getElem?_map, List.getElem?_map, List.getElem?_range (by omega)] <;> rfl
theorem inV_B : ∀ xs : List Bool, inV (.bl true) (xs.map V.bl) = xs.any id
  | [] => rfl
  | true :: ys => rfl
  | false :: ys => by
    have e : inV (.bl true) ((false :: ys).map V.bl) = inV (.bl true) (ys.map V.bl) := rfl
    rw [e, inV_B ys] <;> rfl
theorem flatB (xs : List Bool) : (xs.map V.bl).all flatV = true := by
  rw [List.all_map]
  exact List.all_eq_true.mpr fun _ _ => rfl
theorem outN_snoc (O : List Bool) (i : Nat) : outN (i + 1) O = outN i O ++ (if gB O (i + 1) then [((i + 1 : Nat) : Int)] else []) := by
  unfold outN
  rw [List.range_succ, List.map_append, List.filter_append, List.map_append]
  congr 1
  show (([i + 1].filter fun v => gB O v).map _) = _
  rw [filt1]
  by_cases c : gB O (i + 1) = true
  · rw [if_pos c, if_pos c] <;> rfl
  · rw [if_neg c, if_neg c] <;> rfl
theorem len__law_complete (K : PySem.W.Frag) : ∀ vs H Q E, sp23__law_complete K vs H Q E → vs.length = (["size", "log"] : List Str).length := by
  rintro vs H Q E ⟨_, _, _, rfl, _⟩
  rfl
theorem rd__law_complete (T : Txt K mg) (vs : List V) (H : Hp) (Q : VK) (E : XK) (h : sp23__law_complete K vs H Q E) : t__law_complete K E { nx := fun _ H' => Q .non H', rt := Q } (start ["size", "log", "states", "handed", "marked", "gap", "net"] vs) H := by
  obtain ⟨a, n, log, rfl, hn, ha, lo, bk, gq⟩ := h
  unfold t__law_complete
  have tn : (n : Int).toNat = n := Int.toNat_natCast n
  have leg : Leg (wholeS n) log := leg_of hn lo.ops lo.alt
  have len := lo.len
  have lw := lateW_len n log
  have en : (runS (wholeS n) log).n = n := runS_n _ _
  have oe : ∀ H', OnE K H' n log E := fun H' => ⟨Leg.rep hn leg, fun _ _ i t => (twice_once t lo.one).elim⟩
  have hw := once_whole hn lo bk
  have on : decide (outN n (runS (wholeS n) log).O = []) = true := by
    refine decide_eq_true ?_
    unfold outN
    rw [List.map_eq_nil_iff, List.filter_eq_nil_iff]
    intro v _
    rw [run_out hn log lo.ops v, stg_out, decide_eq_false (bk v)]
    exact Bool.false_ne_true
  have jn : ∀ g, g ≤ n → markB (lateW n log) g = !decide (stT (runS (wholeS n) log) g = "joined") := by
    intro g hg
    have := once_joined hn leg lo.alt lo.one bk hg
    have := markB_iff (n := n) (log := log) (g := g)
    by_cases c : LateG n log g
    · rw [markB_iff.mpr c, decide_eq_false (by rw [once_joined hn leg lo.alt lo.one bk hg]; exact fun z => z c)] <;> rfl
    · rw [decide_eq_true ((once_joined hn leg lo.alt lo.one bk hg).mpr c), Bool.not_eq_true _ |>.mp (fun z => c (markB_iff.mp z))] <;> rfl
  walk_at "g"
  refine ⟨a, n, log, rfl, hn, ha, lo, fun w l r g H1 nw1 nl nr ng k1 lb => ?_⟩
  walk_at "g"
  refine ⟨w, l, r, g, n, log, rfl, hn, lb, fun st H2 nst k2 hst => ?_⟩
  walk_at "g"
  refine w_listLN (SqL.of ((k1.trans k2).at0 ha)) fun hd H3 nhd k3 hhd => ?_
  have ha3 := ((k1.trans k2).trans k3).at0 ha
  walk_at "g"
  refine ⟨hd, n, log, rfl, SqL.of hhd, by omega, oe _, fun _ _ _ xs q H4 nq k4 hq px => ?_⟩
  rw [tn] at px
  walk_at "g"
  refine w_lenL (SqL.of (k4.at0 ha3)) ?_
  walk_at "g"
  rw [List.length_map]
  refine ⟨q, xs, lateW n log, log.length, n, rfl, hn, by omega, hq, px, lateW_bd hn lo, lateW_up hn lo, fun mk H5 nmk k5 hmk => ?_⟩
  have ha5 := k5.at0 (k4.at0 ha3)
  have hd5 := k5.at0 (k4.at0 hhd)
  have st5 := k5.at0 (k4.at0 (k3.at0 hst))
  have k05 : Kp [] H H5 := (((k1.trans k2).trans k3).trans k4).trans k5
  walk_at "g"
  refine w_neL (SqL.of hd5) (SqL.of ha5) ?_
  walk_at "g"
  refine w_r1 (by omega) ?_
  refine lp_rng0 (fun i σ H' => H' = H5 ∧ ∃ x5, σ = [some (.int (n : Int)), some (.ref a), some (.ref st), some (.ref hd), some (.ref mk), x5, none]) ⟨rfl, _, rfl⟩ ?_ ?_
  · rintro i σ' H' hi ⟨rfl, x5, rfl⟩
    walk_at "g"
    refine w_ixL (SqL.of hmk) (at_Bf (by omega) (by omega)) ?_
    rw [Int.toNat_natCast]
    walk_at "g"
    refine w_ixL (SqL.of st5) (at_Sf (by omega) (by omega)) ?_
    rw [Int.toNat_natCast]
    walk_at "g"
    rw [jn i (by omega)]
    refine w_iteD (fun c => ?_) (fun c => ?_)
    · exfalso
      revert c
      cases decide (stT (runS (wholeS n) log) i = "joined") <;> decide
    · walk_at "g"
      exact ⟨rfl, _, rfl⟩
  · rintro σ' H' ⟨rfl, x5, rfl⟩
    walk_at "g"
    refine ⟨hd, n, log, rfl, SqL.of hd5, fun _ _ => ?_, (Leg.rep hn leg).op, (Leg.rep hn leg).sz⟩
    rw [tn]
    intro p rr ll oo H6 np npr npl npo k6 la
    walk_at "g"
    refine ⟨p, rr, ll, oo, _, rfl, la, fun gs H7 ngs k7 hgs => ?_⟩
    rw [en] at hgs
    have st7 := k7.at0 (k6.at0 st5)
    walk_at "g"
    refine ⟨gs, st, (List.range (n + 1)).map fun (v : Nat) => stT (runS (wholeS n) log) v, rfl, by rw [List.length_map, List.length_range]; omega, by rw [List.map_map]; exact hgs, by rw [List.map_map]; exact st7, ?_⟩
    walk_at "g"
    refine w_neL (SqL.of (k7.at0 (k6.at0 hd5))) (SqL.of (k7.at0 (k6.at0 ha5))) ?_
    walk_at "g"
    refine ⟨hd, n, log, rfl, SqL.of (k7.at0 (k6.at0 hd5)), by omega, oe _, fun _ _ _ H8 k8 => ?_⟩
    rw [tn, on]
    walk_at "g"
    refine w_isnB ?_
    walk_at "g"
    refine w_iteN (fun z => absurd rfl z) (fun _ => ?_)
    walk_at "g"
    have mk8 := k8.at0 (k7.at0 (k6.at0 hmk))
    have la8 := (la.k0 k7).k0 k8
    have k08 : Kp [] H H8 := k05.trans ((k6.trans k7).trans k8)
    refine w_inL (x := V.bl true) (SqL.of mk8) rfl (flatB _) ?_
    rw [inV_B]
    have an : ((List.range (n + 1)).map fun g => markB (lateW n log) g).any id = !wholeB (runS (wholeS n) log) := by
      by_cases c : wholeB (runS (wholeS n) log) = true
      · rw [c]
        show _ = false
        rw [Bool.eq_false_iff]
        intro z
        rw [List.any_eq_true] at z
        obtain ⟨b, hb, eb⟩ := z
        obtain ⟨g, hg, rfl⟩ := List.mem_map.mp hb
        have := List.mem_range.mp hg
        exact hw.mp c g (by omega) (markB_iff.mp eb)
      · rw [Bool.not_eq_true _ |>.mp c]
        show _ = true
        rw [List.any_eq_true]
        apply Classical.byContradiction
        intro z
        refine c (hw.mpr fun g hg y => z ⟨_, List.mem_map.mpr ⟨g, List.mem_range.mpr (by omega), rfl⟩, markB_iff.mpr y⟩)
    rw [an]
    walk_at "g"
    have wb : ∀ b, wholeB (runS (wholeS n) log) = b → ∀ (Q' : VK) H9, Kp [] H8 H9 → (Q' (.bl true) H9) → rIsB false (.bl (wholeB (runS (wholeS n) log))) (.bl b) H9 Q' := fun b e Q' H9 k9 q => w_isB (by rw [decide_eq_true e]; exact q)
    refine w_iteB (fun c => ?_) (fun c => ?_)
    · have c : wholeB (runS (wholeS n) log) = false := by
        revert c
        cases wholeB (runS (wholeS n) log) <;> decide
      walk_at "g"
      refine w_me la8 no_m ?_
      walk_at "g"
      refine ⟨p, rr, ll, oo, _, rfl, la8, fun H9 k9 => ?_⟩
      walk_at "g"
      exact wb _ c _ H9 k9 (gq H9 (k08.trans k9))
    · have c : wholeB (runS (wholeS n) log) = true := by
        revert c
        cases wholeB (runS (wholeS n) log) <;> decide
      walk_at "g"
      refine w_me la8 no_m ?_
      walk_at "g"
      refine ⟨p, rr, ll, oo, _, rfl, la8, fun H9 k9 => ?_⟩
      walk_at "g"
      exact wb _ c _ H9 k9 (gq H9 (k08.trans k9))
theorem len__law_calm (K : PySem.W.Frag) : ∀ vs H Q E, sp23__law_calm K vs H Q E → vs.length = (["size", "log"] : List Str).length := by
  rintro vs H Q E ⟨_, _, _, rfl, _⟩
  rfl
theorem rd__law_calm (T : Txt K mg) (vs : List V) (H : Hp) (Q : VK) (E : XK) (h : sp23__law_calm K vs H Q E) : t__law_calm K E { nx := fun _ H' => Q .non H', rt := Q } (start ["size", "log", "book", "holders", "outs", "node", "told", "net", "owed", "x"] vs) H := by
  obtain ⟨a, n, log, rfl, hn, ha, lo, cm, gq⟩ := h
  unfold t__law_calm
  have tn : (n : Int).toNat = n := Int.toNat_natCast n
  have leg : Leg (wholeS n) log := leg_of hn lo.ops lo.alt
  have len := lo.len
  have en : (runS (wholeS n) log).n = n := runS_n _ _
  have oe : ∀ H', OnE K H' n log E := fun H' => ⟨Leg.rep hn leg, fun _ _ i t => (twice_once t lo.one).elim⟩
  obtain ⟨nl0, ow, al⟩ := calm_owed hn lo cm
  have og : ∀ v, gB (runS (wholeS n) log).O v = decide (stgF log v = 1) := fun v => by rw [run_out hn log lo.ops v, stg_out]
  walk_at "g"
  refine ⟨a, n, log, rfl, hn, ha, lo, fun w l r g H1 nw1 nl nr ng k1 lb => ?_⟩
  walk_at "g"
  refine ⟨w, l, r, g, n, log, rfl, hn, lb, fun st H2 nst k2 hst => ?_⟩
  walk_at "g"
  refine ⟨st, n, runS (wholeS n) log, rfl, hn, en, hst, fun hd H3 nhd k3 hhd => ?_⟩
  have lb3 := (lb.k0 k2).k0 k3
  obtain ⟨G', hG, lG, eG, eG0, eG1⟩ := lb3.hg
  walk_at "g"
  refine w_r2 (by omega) ?_
  rw [show ((n : Int) + 1 - 1).toNat = n by omega]
  refine cp_rng (fun i => (outN i (runS (wholeS n) log).O).map V.int) (fun i hi => sz_lt (by
    rw [List.length_map]
    have := outN_len i (runS (wholeS n) log).O
    omega)) rfl (fun i H' S N hi kk yes no => ?_) (fun ou H4 nou k4 hou => ?_)
  · walk_at "g"
    refine ⟨rfl, ?_⟩
    walk_at "g"
    refine w_ixL (SqL.of (kk.at0 lb3.ob)) (i := 2) (v := .ref g) rfl ?_
    walk_at "g"
    refine w_ixL (SqL.of (kk.at0 hG)) (at_I (by omega) (by omega)) ?_
    rw [show ((1 : Int) + (i : Int)).toNat = i + 1 by omega, eG (i + 1) (by omega) (by omega)]
    walk_at "g"
    refine w_iteD (fun c => ?_) (fun c => ?_)
    · walk_at "g"
      refine yes _ _ (Kp.refl _ _) ?_
      rw [outN_snoc, og, if_pos (decide_eq_true (by omega)), List.map_append, show (1 : Int) + (i : Int) = ((i + 1 : Nat) : Int) by omega] <;> rfl
    · refine no _ (Kp.refl _ _) ?_
      rw [outN_snoc, og, if_neg (by rw [decide_eq_true_iff]; omega), List.append_nil]
  have hd4 := k4.at0 hhd
  have ha4 := (((k1.trans k2).trans k3).trans k4).at0 ha
  have k04 : Kp [] H H4 := ((k1.trans k2).trans k3).trans k4
  walk_at "g"
  refine w_l1 (SqL.of hd4) ?_
  refine lp_lst (xs := (soleN (runS (wholeS n) log)).map V.int) (fun i σ H' => H' = H4 ∧ ∃ x5, σ = [some (.int (n : Int)), some (.ref a), some (.ref w), some (.ref hd), some (.ref ou), x5, none, none, none, none]) ⟨rfl, _, rfl⟩ ?_ ?_ ?_
  · rintro i σ' H' hi ⟨rfl, _⟩
    exact SqL.of hd4
  · rintro i x σ' H' hx ⟨rfl, x5, rfl⟩
    obtain ⟨v, hv, rfl⟩ := at_map hx
    walk_at "g"
    refine w_inZ hou ?_
    have iv : v ∈ outN n (runS (wholeS n) log).O := al v (List.mem_of_getElem? hv)
    walk_at "g"
    refine w_iteBN (fun c => ?_) (fun c => ?_)
    · exact absurd iv (of_decide_eq_false c)
    · walk_at "g"
      exact ⟨rfl, _, rfl⟩
  · rintro σ' H' ⟨eH, x5, rfl⟩
    obtain rfl : H4 = H' := eH.symm
    walk_at "g"
    refine w_listLN (SqL.of ha4) fun h5 H5 nh5 k5 hh5 => ?_
    walk_at "g"
    refine ⟨h5, n, log, rfl, SqL.of hh5, by omega, oe _, fun _ _ _ xs q H6 nq k6 hq px => ?_⟩
    rw [tn, calm_nil hn lo cm] at px
    have x0 : xs = [] := List.length_eq_zero_iff.mp px.1
    subst x0
    walk_at "g"
    refine w_isiL (r := true) hq (by decide +kernel) ?_
    walk_at "g"
    refine w_lenL (SqL.of hq) ?_
    walk_at "g"
    refine w_iteD (fun c => ?_) (fun _ => ?_)
    · exact absurd c (by decide)
    have k46 := k5.trans k6
    walk_at "g"
    refine w_listLN (SqL.of (k46.at0 ha4)) fun h7 H7 nh7 k7 hh7 => ?_
    walk_at "g"
    refine ⟨h7, n, log, rfl, SqL.of hh7, fun _ _ => ?_, (Leg.rep hn leg).op, (Leg.rep hn leg).sz⟩
    rw [tn]
    intro p rr ll oo H8 np npr npl npo k8 la
    walk_at "g"
    refine ⟨p, rr, ll, oo, _, rfl, la, fun lg H9 nlg k9 hlg => ?_⟩
    rw [nl0] at hlg
    walk_at "g"
    refine ⟨sz_ok (Nat.zero_le _), G.nw fun em HA nem kA hem => ?_⟩
    walk_at "g"
    refine ⟨lg, em, [], rfl, Nat.zero_le _, kA.at0 hlg, hem, ?_⟩
    have k4A : Kp [] H4 HA := (((k46.trans k7).trans k8).trans k9).trans kA
    have laA := (la.k0 k9).k0 kA
    walk_at "g"
    refine ⟨p, rr, ll, oo, _, rfl, laA, fun sh HB nsh kB hsh => ?_⟩
    have laB := laA.k0 kB
    have hdB := kB.at0 (k4A.at0 hd4)
    have ls : (aloneL (runS (wholeS n) log)).length ≤ n := by
      unfold aloneL
      rw [List.length_map, en]
      refine Nat.le_trans (List.length_filter_le _ _) ?_
      rw [List.length_map, List.length_range]
      exact Nat.le_refl _
    walk_at "g"
    refine ⟨sh, hd, aloneL (runS (wholeS n) log), rfl, by omega, hsh, hdB, ?_⟩
    walk_at "g"
    refine ⟨p, rr, ll, oo, _, rfl, laB, fun _ HC kC => ?_, fun g gs z => by rw [nl0] at z; cases z⟩
    have laC := laB.k0 kC
    have k4C : Kp [] H4 HC := (k4A.trans kB).trans kC
    walk_at "g"
    refine ⟨_, rfl, ?_⟩
    walk_at "g"
    refine w_lenL (SqL.of (k4C.at0 hou)) ?_
    walk_at "g"
    rw [List.length_map, ow, decide_eq_true rfl]
    walk_at "g"
    refine w_me laC no_m ?_
    walk_at "g"
    refine ⟨p, rr, ll, oo, _, rfl, laC, fun ot HD not kD hot => ?_⟩
    rw [en] at hot
    have lo' := outN_len n (runS (wholeS n) log).O
    walk_at "g"
    refine ⟨ot, ou, outN n (runS (wholeS n) log).O, rfl, by omega, hot, kD.at0 (k4C.at0 hou), ?_⟩
    exact gq HD ((k04.trans k4C).trans kD)
theorem len_law (K : PySem.W.Frag) : ∀ vs H Q E, sp_law K vs H Q E → vs.length = (["script"] : List Str).length := by
  rintro vs H Q E ⟨_, _, rfl, _⟩
  rfl
theorem rd_law (T : Txt K mg) (vs : List V) (H : Hp) (Q : VK) (E : XK) (h : sp_law K vs H Q E) : t_law K E { nx := fun _ H' => Q .non H', rt := Q } (start ["script", "box", "size", "log", "clean", "cut"] vs) H := by
  obtain ⟨a, ns, rfl, hs, hl, gq⟩ := h
  unfold t_law
  walk_at "g"
  refine ⟨a, ns, rfl, hs, hl, fun b c H1 nb nc k1 b1 => ?_⟩
  walk_at "g"
  refine ⟨b, c, rfl, b1, fun n H2 hn k2 b2 => ?_⟩
  walk_at "g"
  refine ⟨b, c, n, rfl, hn, b2, fun ds lg H3 L bk nlg k3 b3 hlg => ?_⟩
  obtain ⟨lgb, lgc⟩ := b2.fr nlg
  have len := L.len
  walk_at "g"
  refine ⟨lg, n, ds, rfl, hn, hlg, L, bk, fun H4 k4 => ?_⟩
  walk_at "g"
  refine ⟨lg, n, ds, rfl, hn, k4.at0 hlg, L, fun k H5 hk cm k5 => ?_⟩
  have b5 := (b3.k0 k4).k0 k5
  walk_at "g"
  refine ⟨b, c, _, rfl, by omega, by omega, b5, fun d H6 d0 d1 k6 b6 => ?_⟩
  obtain ⟨d', rfl⟩ : ∃ d' : Nat, d = (d' : Int) := ⟨d.toNat, by omega⟩
  have lg6 : H6 lg = _ := k6 _ _ (by simp [lgb, lgc]) (k5.at0 (k4.at0 hlg))
  walk_at "g"
  refine w_slL (SqL.of lg6) fun q H7 nq k7 hq => ?_
  rw [cut_takeI ds k hk] at hq
  walk_at "g"
  refine ⟨q, n, ds.take k, rfl, hn, hq, L.take k, cm, fun H8 k8 => ?_⟩
  walk_at "g"
  refine w_slL (SqL.of (k8.at0 (k7.at0 lg6))) fun q2 H9 nq2 k9 hq2 => ?_
  rw [cut_takeI ds d' (by omega)] at hq2
  have cm2 : Calm n (ds.take d') := by
    have := cm.take d'
    rwa [List.take_take, Nat.min_eq_left (by omega)] at this
  walk_at "g"
  refine ⟨q2, n, ds.take d', rfl, hn, hq2, L.take d', cm2, fun HA kA => ?_⟩
  exact gq HA
end
end G
set_option Elab.async false
set_option linter.all false
set_option maxRecDepth 100000
set_option maxHeartbeats 1000000
namespace G
--#FAM KP
open PySem PySem.Spec PyProof.Rows L2
local macro_rules
  | `(tactic| walk_at "1") => `(tactic| first
    | with_reducible refine w_seq ?_
    | with_reducible refine w_asg ?_
    | with_reducible refine w_asgS ?_
    | with_reducible refine w_asf ?_
    | with_reducible refine w_drop ?_
    | with_reducible refine w_ret ?_
    | with_reducible refine w_if ?_
    | with_reducible refine w_not ?_
    | with_reducible refine w_and ?_
    | with_reducible refine w_or ?_
    | with_reducible refine w_test ?_
    | with_reducible refine w_tb ?_
    | with_reducible refine w_chain ?_
    | with_reducible refine w_op ?_
    | with_reducible refine w_un ?_
    | with_reducible refine w_andV ?_
    | with_reducible refine w_orV ?_
    | with_reducible refine w_notV ?_
    | with_reducible refine w_ifE ?_
    | with_reducible refine w_cons ?_
    | with_reducible refine w_nil ?_
    | with_reducible refine w_cb ?_
    | with_reducible refine w_cl ?_
    | with_reducible refine w_mt ?_
    | with_reducible refine w_fld ?_
    | with_reducible refine w_tupN ?_
    | with_reducible refine w_lstN ?_
    | with_reducible refine w_bm ?_
    | with_reducible refine w_bm0 ?_
    | with_reducible refine w_for ?_
    | with_reducible refine w_lc ?_
    | with_reducible refine w_iR1 ?_
    | with_reducible refine w_iR2 ?_
    | with_reducible refine w_iL ?_
    | with_reducible refine w_iT ?_
    | with_reducible refine w_iE ?_
    | with_reducible refine w_iZ ?_
    | with_reducible refine w_var (by with_unfolding_all rfl) ?_
    | with_reducible refine w_c ?_
    | with_reducible refine w_next ?_
    | with_reducible refine w_i0 ?_
    | with_reducible refine w_u1 ?_
    | with_reducible refine w_addI ?_
    | with_reducible refine w_eqI ?_
    | with_reducible refine w_eqS ?_
    | with_reducible refine w_eqB ?_
    | with_reducible refine w_neI ?_
    | with_reducible refine w_neS ?_
    | with_reducible refine w_neB ?_
    | with_reducible refine w_abs ?_
    | with_reducible refine w_intI ?_
    | with_reducible refine w_min2 ?_
    | with_reducible refine w_max2 ?_
    | with_reducible refine w_isN0 ?_
    | with_reducible refine w_isN1 ref_ne ?_
    | with_reducible refine w_isN1 int_ne ?_
    | with_reducible refine w_notN0 ?_
    | with_reducible refine w_notN1 ref_ne ?_
    | with_reducible refine w_notN1 int_ne ?_
    | with_reducible refine w_ex1 ?_
    | with_reducible refine w_n1 ?_
    | with_reducible refine w_n2 ?_
    | with_reducible refine w_tT ?_
    | with_reducible refine w_tF ?_
    | with_reducible refine w_nT ?_
    | with_reducible refine w_nF ?_
    | with_reducible refine w_rz ?_
    | with_reducible refine w_mkN ?_
    | with_reducible refine w_lrgN ?_
    | with_reducible refine w_rg1 ?_
    | with_reducible refine w_rg2 ?_
    | with_reducible refine w_sl ?_
    | with_reducible refine w_np ?_
    | with_reducible refine w_pt ?_
    | with_reducible refine w_tr ?_
    | with_reducible refine w_gn ?_
    | with_reducible refine w_yes ?_
    | with_reducible refine w_m1 ?_
    | with_reducible refine w_asu ?_
    | with_reducible refine w_exS ?_
    | with_reducible refine w_iS ?_
    | with_reducible refine w_g1 ?_
    | with_reducible refine w_gc ?_
    | with_reducible refine w_gt (SqT.of upd_same) rfl ?_)
local macro_rules
  | `(tactic| walk_at "g") => `(tactic| repeat walk_at "1")
local macro_rules
  | `(tactic| walk_at "j1") => `(tactic| first
    | with_reducible refine w_seqI ?_
    | walk_at "1")
local macro_rules
  | `(tactic| walk_at "j") => `(tactic| repeat walk_at "j1")
section
theorem op_leTA {X : Cx} {k : Nat} (hr : Room k X.A) : OpR X (compareOp .LtE) (rLeT X.K) := op_leT (by have := hr.units; omega)
end
section
variable {K : PySem.W.Frag} {mg : Str → Option Value}
theorem len_check_size (K : PySem.W.Frag) : ∀ vs H Q E, sp_check_size K vs H Q E → vs.length = (["size"] : List Str).length := by
  rintro vs H Q E ⟨_, rfl, _⟩
  rfl
theorem rd_check_size (T : Txt K mg) (vs : List V) (H : Hp) (Q : VK) (E : XK) (h : sp_check_size K vs H Q E) : t_check_size K E { nx := fun _ H' => Q .non H', rt := Q } (start ["size"] vs) H := by
  obtain ⟨size, rfl, h1, h2⟩ := h
  unfold t_check_size
  walk_at "g"
  refine w_iteD (fun c1 => ?_) (fun c1 => ?_)
  · walk_at "g"
    refine w_iteN (fun c2 => ?_) (fun c2 => ?_)
    · walk_at "g"
      exact ⟨rfl, Nat.le_of_ble_eq_true rfl, h2 fun z => c2 z.2⟩
    · walk_at "g"
      exact h1 ⟨c1, c2⟩
  · walk_at "g"
    exact ⟨rfl, Nat.le_of_ble_eq_true rfl, h2 fun z => c1 z.1⟩
theorem len_check_operation (K : PySem.W.Frag) : ∀ vs H Q E, sp_check_operation K vs H Q E → vs.length = (["size", "operation", "index"] : List Str).length := by
  rintro vs H Q E ⟨_, _, _, rfl, _⟩
  rfl
theorem rd_check_operation (T : Txt K mg) (vs : List V) (H : Hp) (Q : VK) (E : XK) (h : sp_check_operation K vs H Q E) : t_check_operation K E { nx := fun _ H' => Q .non H', rt := Q } (start ["size", "operation", "index"] vs) H := by
  obtain ⟨n, op, i, rfl, h1, h2⟩ := h
  unfold t_check_operation
  walk_at "g"
  rw [natAbs_if]
  refine w_iteD (fun c1 => ?_) (fun c1 => ?_)
  · walk_at "g"
    refine w_iteN (fun c2 => ?_) (fun c2 => ?_)
    · walk_at "g"
      exact ⟨rfl, Nat.le_of_ble_eq_true rfl, h2 fun z => c2 (by have := z.2; omega)⟩
    · walk_at "g"
      exact h1 ⟨by omega, by omega⟩
  · walk_at "g"
    exact ⟨rfl, Nat.le_of_ble_eq_true rfl, h2 fun z => c1 (by have := z.1; omega)⟩
theorem len_check_gap (K : PySem.W.Frag) : ∀ vs H Q E, sp_check_gap K vs H Q E → vs.length = (["size", "gap"] : List Str).length := by
  rintro vs H Q E ⟨_, _, rfl, _⟩
  rfl
theorem rd_check_gap (T : Txt K mg) (vs : List V) (H : Hp) (Q : VK) (E : XK) (h : sp_check_gap K vs H Q E) : t_check_gap K E { nx := fun _ H' => Q .non H', rt := Q } (start ["size", "gap"] vs) H := by
  obtain ⟨n, g, rfl, h1, h2⟩ := h
  unfold t_check_gap
  walk_at "g"
  refine w_iteD (fun c1 => ?_) (fun c1 => ?_)
  · walk_at "g"
    refine w_iteN (fun c2 => ?_) (fun c2 => ?_)
    · walk_at "g"
      exact ⟨rfl, Nat.le_of_ble_eq_true rfl, h2 fun z => c2 z.2⟩
    · walk_at "g"
      exact h1 ⟨c1, c2⟩
  · walk_at "g"
    exact ⟨rfl, Nat.le_of_ble_eq_true rfl, h2 fun z => c1 z.1⟩
theorem len_Links_is_legal (K : PySem.W.Frag) : ∀ vs H Q E, sp_Links_is_legal K vs H Q E → vs.length = (["self", "operation"] : List Str).length := by
  rintro vs H Q E ⟨_, _, _, _, _, _, rfl, _⟩
  rfl
theorem rd_Links_is_legal (T : Txt K mg) (vs : List V) (H : Hp) (Q : VK) (E : XK) (h : sp_Links_is_legal K vs H Q E) : t_Links_is_legal K E { nx := fun _ H' => Q .non H', rt := Q } (start ["self", "operation"] vs) H := by
  obtain ⟨p, r, l, o, s, op, rfl, a, hi, k⟩ := h
  unfold t_Links_is_legal
  walk_at "g"
  refine w_fO T.cl_Links T.na_Links__out a ?_
  walk_at "g"
  rw [natAbs_if]
  have hlt : (op.natAbs : Int) < (s.O.length : Int) := by
    rw [a.wf.lO]
    have := hi.2
    omega
  refine w_ixL (SqL.of a.ho) (at_B (by omega) hlt) ?_
  walk_at "g"
  exact k
theorem len_Links_check (K : PySem.W.Frag) : ∀ vs H Q E, sp_Links_check K vs H Q E → vs.length = (["self", "operation", "index"] : List Str).length := by
  rintro vs H Q E ⟨_, _, _, _, _, _, _, rfl, _⟩
  rfl
theorem rd_Links_check (T : Txt K mg) (vs : List V) (H : Hp) (Q : VK) (E : XK) (h : sp_Links_check K vs H Q E) : t_Links_check K E { nx := fun _ H' => Q .non H', rt := Q } (start ["self", "operation", "index"] vs) H := by
  obtain ⟨p, r, l, o, s, op, i, rfl, a, h1, h2⟩ := h
  unfold t_Links_check
  walk_at "g"
  refine w_fS T.cl_Links T.na_Links_size a ?_
  walk_at "g"
  refine ⟨s.n, op, i, rfl, fun hi => ?_, fun hi => ?_⟩
  · walk_at "g"
    refine w_me a no_m ?_
    walk_at "g"
    refine ⟨p, r, l, o, s, op, rfl, a, hi, ?_⟩
    walk_at "g"
    refine w_iteN (fun c => ?_) (fun c => ?_)
    · walk_at "g"
      refine ⟨rfl, Nat.le_of_ble_eq_true rfl, ?_⟩
      have e := h2 fun z => c z.2
      unfold OpE at e
      rw [if_pos hi] at e
      exact e
    · walk_at "g"
      exact h1 ⟨hi, c⟩
  · have e := h2 fun z => hi z.1
    unfold OpE at e
    rw [if_neg hi] at e
    exact e
end
end G
set_option Elab.async false
set_option linter.all false
set_option maxRecDepth 100000
set_option maxHeartbeats 4000000
namespace G
open PySem PySem.Spec PyProof.Rows L2
section
variable {P : Program} {w : World} {K : PySem.W.Frag} {mg : Str → Option Value} {base : Heap}
theorem ok__law_box {f : Addr} {fd : FuncData} (T : Txt K mg) (F : FunD K "_law_box" "_law_box" (defArgs s__law_box) (defBody s__law_box) (defScope s__law_box) [] [] f fd)  : FnOk P w K mg base (L2N.CX P w) 1 f fd ["script"] (sp__law_box K) :=
  F.ok sc__law_box (len__law_box K) fun cdv A outer s H vs Q E hr h => ⟨t__law_box K E, pss_cons (ps_set (i := 1) sc__law_box.nd rfl (by first | exact Or.inl rfl | exact Or.inr rfl) (pe_int)) (pss_cons (ps_for (passes_of rfl) rfl (pi_list (pe_slice sl_list (pv 0) (po_none) (po_some (pe_int)))) (pg_name (i := 2) sc__law_box.nd rfl (by first | exact Or.inl rfl | exact Or.inr rfl)) (pss_one (ps_set (i := 1) sc__law_box.nd rfl (by first | exact Or.inl rfl | exact Or.inr rfl) (pe_op op_mod (pe_callTy call_intA (by rfl) T.b_int (by decide +kernel) (pa_cons (pe_op op_addA (pe_op op_addA (pe_op op_mulA (pv 1) (pe_int)) (pv 2)) (pe_int)) (pa_nil))) (pe_int))))) (pss_one (ps_ret (pe_lst (pa_cons (pe_int) (pa_cons (pv 1) (pa_cons (pe_int) (pa_cons (pe_callTy call_listA (by rfl) T.b_list (by decide +kernel) (pa_cons (pe_slice sl_list (pv 0) (po_none) (po_some (pe_int))) (pa_nil))) (pa_nil))))))))), rd__law_box T vs H Q E h⟩
theorem ok_Links_outs {f : Addr} {fd : FuncData} (T : Txt K mg) (F : FunD K "outs" "Links.outs" (defArgs s_Links_outs) (defBody s_Links_outs) (defScope s_Links_outs) [] [] f fd)  : FnOk P w K mg base (L2N.CX P w) 1 f fd ["self"] (sp_Links_outs K) :=
  F.ok sc_Links_outs (len_Links_outs K) fun cdv A outer s H vs Q E hr h => ⟨t_Links_outs K E, pss_one (ps_ret (pe_lc (own := [("node", 1)]) (g := gName 1) (tt := tB (tOp (rIx K) (tFld K (tVar 0) "_out") (tVar 1))) (te := tVar 1) rfl sc_Links_outs.nd (pi_range2 rfl T.b_range (pa_cons (pe_int) (pa_cons (pe_op op_addA (pe_fld (pv 0) rfl) (pe_int)) (pa_nil)))) (blkOk_by (own := [("node", 1)]) (N := ["self", "node"]) (sc := defScope s_Links_outs) (by decide +kernel)) (fun _ _ _ _ _ => pg_name (i := 1) sc_Links_outs.nd rfl (by first | exact Or.inl rfl | exact Or.inr rfl)) (fun _ _ _ _ _ => pts_one (pt_val (pe_ix ix_seq (pe_fld (pv 0) rfl) (pv 1) (fun _ _ => rfl)))) (fun _ _ _ _ _ => pv 1))), rd_Links_outs T vs H Q E h⟩
theorem ok__law_start {f : Addr} {fd : FuncData} (T : Txt K mg) (F : FunD K "_law_start" "_law_start" (defArgs s__law_start) (defBody s__law_start) (defScope s__law_start) [] [] f fd)  : FnOk P w K mg base (L2N.CX P w) 1 f fd ["size"] (sp__law_start K) :=
  F.ok sc__law_start (len__law_start K) fun cdv A outer s H vs Q E hr h => ⟨t__law_start K E, pss_one (ps_ret (pe_lst (pa_cons (pe_lc (own := [("v", 1)]) (g := gName 1) (tt := tYes) (te := tOp rSubA (tVar 1) (tC (.int 1))) rfl sc__law_start.nd (pi_range1 rfl T.b_range (pa_cons (pe_op op_addA (pv 0) (pe_int)) (pa_nil))) (blkOk_by (own := [("v", 1)]) (N := ["size", "v"]) (sc := defScope s__law_start) (by decide +kernel)) (fun _ _ _ _ _ => pg_name (i := 1) sc__law_start.nd rfl (by first | exact Or.inl rfl | exact Or.inr rfl)) (fun _ _ _ _ _ => pts_nil) (fun _ _ _ _ _ => pe_op op_sub (pv 1) (pe_int))) (pa_cons (pe_lc (own := [("v", 1)]) (g := gName 1) (tt := tYes) (te := tOp rAddA (tVar 1) (tC (.int 1))) rfl sc__law_start.nd (pi_range1 rfl T.b_range (pa_cons (pe_op op_addA (pv 0) (pe_int)) (pa_nil))) (blkOk_by (own := [("v", 1)]) (N := ["size", "v"]) (sc := defScope s__law_start) (by decide +kernel)) (fun _ _ _ _ _ => pg_name (i := 1) sc__law_start.nd rfl (by first | exact Or.inl rfl | exact Or.inr rfl)) (fun _ _ _ _ _ => pts_nil) (fun _ _ _ _ _ => pe_op op_addA (pv 1) (pe_int))) (pa_cons (pe_op op_mulA (pe_lst (pa_cons (pe_int) (pa_nil))) (pe_op op_addA (pv 0) (pe_int))) (pa_nil)))))), rd__law_start T vs H Q E h⟩
theorem ok__law_step {f : Addr} {fd : FuncData} (T : Txt K mg) (F : FunD K "_law_step" "_law_step" (defArgs s__law_step) (defBody s__law_step) (defScope s__law_step) [] [] f fd)  : FnOk P w K mg base (L2N.CX P w) 1 f fd ["book", "operation"] (sp22__law_step K) :=
  F.ok sc__law_step (len__law_step K) fun cdv A outer s H vs Q E hr h => ⟨t__law_step K E, pss_cons (ps_set (i := 2) sc__law_step.nd rfl (by first | exact Or.inl rfl | exact Or.inr rfl) (pe_ix ix_seq (pv 0) (pe_int) (fun _ _ => rfl))) (pss_cons (ps_set (i := 3) sc__law_step.nd rfl (by first | exact Or.inl rfl | exact Or.inr rfl) (pe_ix ix_seq (pv 0) (pe_int) (fun _ _ => rfl))) (pss_cons (ps_set (i := 4) sc__law_step.nd rfl (by first | exact Or.inl rfl | exact Or.inr rfl) (pe_ix ix_seq (pv 0) (pe_int) (fun _ _ => rfl))) (pss_cons (ps_set (i := 5) sc__law_step.nd rfl (by first | exact Or.inl rfl | exact Or.inr rfl) (pe_callB call_absA (by rfl) T.b_abs (by decide +kernel) (pa_cons (pv 1) (pa_nil)))) (pss_cons (ps_set (i := 6) sc__law_step.nd rfl (by first | exact Or.inl rfl | exact Or.inr rfl) (pe_ix ix_seq (pv 2) (pv 5) (fun _ _ => rfl))) (pss_cons (ps_set (i := 7) sc__law_step.nd rfl (by first | exact Or.inl rfl | exact Or.inr rfl) (pe_ix ix_seq (pv 3) (pv 5) (fun _ _ => rfl))) (pss_one (ps_if (pt_cmpR op_lt (pv 1) (pe_int) (nomark _)) (pss_cons (ps_asg (pv 7) (pg_sub (pv 3) (pv 6) set_list)) (pss_cons (ps_asg (pv 6) (pg_sub (pv 2) (pv 7) set_list)) (pss_one (ps_asg (pe_int) (pg_sub (pv 4) (pv 5) set_list))))) (pss_cons (ps_asg (pv 5) (pg_sub (pv 3) (pv 6) set_list)) (pss_cons (ps_asg (pv 5) (pg_sub (pv 2) (pv 7) set_list)) (pss_one (ps_asg (pe_int) (pg_sub (pv 4) (pv 5) set_list)))))))))))), rd__law_step T vs H Q E h⟩
theorem ok__law_after {f : Addr} {fd : FuncData} (T : Txt K mg) (F : FunD K "_law_after" "_law_after" (defArgs s__law_after) (defBody s__law_after) (defScope s__law_after) [] [] f fd) (c__law_start : Cal P w K mg base 1 "_law_start" ["size"] (sp__law_start K)) (c__law_step : Cal P w K mg base 1 "_law_step" ["book", "operation"] (sp22__law_step K)) : FnOk P w K mg base (L2N.CX P w) 2 f fd ["size", "log"] (sp23__law_after K) :=
  F.ok sc__law_after (len__law_after K) fun cdv A outer s H vs Q E hr h => ⟨t__law_after K E, pss_cons (ps_set (i := 2) sc__law_after.nd rfl (by first | exact Or.inl rfl | exact Or.inr rfl) (pe_cl c__law_start hr (by decide) (pat_of (W := fun cls d _ H => E cls d H) (L2N.takes_of rfl rfl rfl rfl)) (pa_cons (pv 0) (pa_nil)))) (pss_cons (ps_for (passes_of rfl) rfl (pi_list (pv 1)) (pg_name (i := 3) sc__law_after.nd rfl (by first | exact Or.inl rfl | exact Or.inr rfl)) (pss_one (ps_expr (pe_cl c__law_step hr (by decide) (pat_of (W := fun cls d _ H => E cls d H) (L2N.takes_of rfl rfl rfl rfl)) (pa_cons (pv 2) (pa_cons (pv 3) (pa_nil))))))) (pss_one (ps_ret (pv 2)))), rd__law_after T vs H Q E h⟩
theorem ok__law_holders {f : Addr} {fd : FuncData} (T : Txt K mg) (F : FunD K "_law_holders" "_law_holders" (defArgs s__law_holders) (defBody s__law_holders) (defScope s__law_holders) [] [] f fd)  : FnOk P w K mg base (L2N.CX P w) 1 f fd ["size", "states"] (sp23__law_holders K) :=
  F.ok sc__law_holders (len__law_holders K) fun cdv A outer s H vs Q E hr h => ⟨t__law_holders K E, pss_cons (ps_set (i := 2) sc__law_holders.nd rfl (by first | exact Or.inl rfl | exact Or.inr rfl) (pe_lst (pa_nil))) (pss_cons (ps_for (passes_of rfl) rfl (pi_range2 rfl T.b_range (pa_cons (pe_int) (pa_cons (pe_op op_addA (pv 0) (pe_int)) (pa_nil)))) (pg_name (i := 3) sc__law_holders.nd rfl (by first | exact Or.inl rfl | exact Or.inr rfl)) (pss_one (ps_if ((pw_or (pt_cmpR (op_eqA hr) (pe_ix ix_seq (pv 1) (pe_op op_sub (pv 3) (pe_int)) (fun _ _ => rfl)) (pe_str) (nomark _)) (pw_or1 (pt_cmpR (op_eqA hr) (pe_ix ix_seq (pv 1) (pv 3) (fun _ _ => rfl)) (pe_str) (nomark _)))).pt) (pss_one (ps_expr (pe_bm PySem.F.plainAttrs_list PySem.F.slot_list_append PySem.F.type_list_append mt_append (pv 2) (pa_cons (pv 3) (pa_nil))))) (pss_nil)))) (pss_one (ps_ret (pv 2)))), rd__law_holders T vs H Q E h⟩
theorem ok__law_integer {f : Addr} {fd : FuncData} (T : Txt K mg) (F : FunD K "_law_integer" "_law_integer" (defArgs s__law_integer) (defBody s__law_integer) (defScope s__law_integer) [] [] f fd)  : FnOk P w K mg base (L2N.CX P w) 1 f fd ["told"] (sp__law_integer K) :=
  F.ok sc__law_integer (len__law_integer K) fun cdv A outer s H vs Q E hr h => ⟨t__law_integer K E, pss_one (ps_ret (pe_and (pe_callB call_isi (by rfl) T.b_isinstance (by decide +kernel) (pa_cons (pv 0) (pa_cons (pe_ty "int" T.b_int (by decide +kernel)) (pa_nil)))) (pe_one (pe_not (pe_callB call_isi (by rfl) T.b_isinstance (by decide +kernel) (pa_cons (pv 0) (pa_cons (pe_ty "bool" T.b_bool (by decide +kernel)) (pa_nil)))))))), rd__law_integer T vs H Q E h⟩
theorem ok__law_row {f : Addr} {fd : FuncData} (T : Txt K mg) (F : FunD K "_law_row" "_law_row" (defArgs s__law_row) (defBody s__law_row) (defScope s__law_row) [] [] f fd) (c__law_integer : Cal P w K mg base 1 "_law_integer" ["told"] (sp__law_integer K)) : FnOk P w K mg base (L2N.CX P w) 2 f fd ["told", "due"] (sp__law_row K) :=
  F.ok sc__law_row (len__law_row K) fun cdv A outer s H vs Q E hr h => ⟨t__law_row K E, pss_cons (ps_if ((pw_or (pt_not (pt_val (pe_callB call_isi (by rfl) T.b_isinstance (by decide +kernel) (pa_cons (pv 0) (pa_cons (pe_ty "list" T.b_list (by decide +kernel)) (pa_nil)))))) (pw_or1 (pt_cmpR (op_neA hr) (pe_callB call_lenA (by rfl) T.b_len (by decide +kernel) (pa_cons (pv 0) (pa_nil))) (pe_callB call_lenA (by rfl) T.b_len (by decide +kernel) (pa_cons (pv 1) (pa_nil))) (nomark _)))).pt) (pss_one (ps_ret (pe_bl))) (pss_nil)) (pss_cons (ps_for (passes_of rfl) rfl (pi_range1 rfl T.b_range (pa_cons (pe_callB call_lenA (by rfl) T.b_len (by decide +kernel) (pa_cons (pv 1) (pa_nil))) (pa_nil))) (pg_name (i := 2) sc__law_row.nd rfl (by first | exact Or.inl rfl | exact Or.inr rfl)) (pss_one (ps_if ((pw_or (pt_not (pt_val (pe_cl c__law_integer hr (by decide) (pat_of (W := fun cls d _ H => E cls d H) (L2N.takes_of rfl rfl rfl rfl)) (pa_cons (pe_ix ix_seq (pv 0) (pv 2) (fun _ _ => rfl)) (pa_nil))))) (pw_or1 (pt_cmpR (op_neA hr) (pe_ix ix_seq (pv 0) (pv 2) (fun _ _ => rfl)) (pe_ix ix_seq (pv 1) (pv 2) (fun _ _ => rfl)) (nomark _)))).pt) (pss_one (ps_ret (pe_bl))) (pss_nil)))) (pss_one (ps_ret (pe_bl)))), rd__law_row T vs H Q E h⟩
theorem ok__law_states {f : Addr} {fd : FuncData} (T : Txt K mg) (F : FunD K "_law_states" "_law_states" (defArgs s__law_states) (defBody s__law_states) (defScope s__law_states) [] [] f fd)  : FnOk P w K mg base (L2N.CX P w) 1 f fd ["size", "book"] (sp23__law_states K) :=
  F.ok sc__law_states (len__law_states K) fun cdv A outer s H vs Q E hr h => ⟨t__law_states K E, pss_cons (ps_set (i := 2) sc__law_states.nd rfl (by first | exact Or.inl rfl | exact Or.inr rfl) (pe_lst (pa_nil))) (pss_cons (ps_for (passes_of rfl) rfl (pi_range1 rfl T.b_range (pa_cons (pe_op op_addA (pv 0) (pe_int)) (pa_nil))) (pg_name (i := 3) sc__law_states.nd rfl (by first | exact Or.inl rfl | exact Or.inr rfl)) (pss_cons (ps_set (i := 4) sc__law_states.nd rfl (by first | exact Or.inl rfl | exact Or.inr rfl) (pe_cmpR (op_eqA hr) (pe_ix ix_seq (pe_ix ix_seq (pv 1) (pe_int) (fun _ _ => rfl)) (pv 3) (fun _ _ => rfl)) (pe_op op_addA (pv 3) (pe_int)) (nomark _))) (pss_cons (ps_set (i := 5) sc__law_states.nd rfl (by first | exact Or.inl rfl | exact Or.inr rfl) (pe_cmpR (op_eqA hr) (pe_ix ix_seq (pe_ix ix_seq (pv 1) (pe_int) (fun _ _ => rfl)) (pe_op op_addA (pv 3) (pe_int)) (fun _ _ => rfl)) (pv 3) (nomark _))) (pss_one (ps_if ((pw_and (pt_val (pv 4)) (pw_and1 (pt_val (pv 5)))).pt) (pss_one (ps_expr (pe_bm PySem.F.plainAttrs_list PySem.F.slot_list_append PySem.F.type_list_append mt_append (pv 2) (pa_cons (pe_str) (pa_nil))))) (pss_one (ps_if (pt_val (pv 4)) (pss_one (ps_expr (pe_bm PySem.F.plainAttrs_list PySem.F.slot_list_append PySem.F.type_list_append mt_append (pv 2) (pa_cons (pe_str) (pa_nil))))) (pss_one (ps_if (pt_val (pv 5)) (pss_one (ps_expr (pe_bm PySem.F.plainAttrs_list PySem.F.slot_list_append PySem.F.type_list_append mt_append (pv 2) (pa_cons (pe_str) (pa_nil))))) (pss_one (ps_expr (pe_bm PySem.F.plainAttrs_list PySem.F.slot_list_append PySem.F.type_list_append mt_append (pv 2) (pa_cons (pe_str) (pa_nil)))))))))))))) (pss_one (ps_ret (pv 2)))), rd__law_states T vs H Q E h⟩
theorem ok_Links_is_out {f : Addr} {fd : FuncData} (T : Txt K mg) (F : FunD K "is_out" "Links.is_out" (defArgs s_Links_is_out) (defBody s_Links_is_out) (defScope s_Links_is_out) [] [] f fd) (x_BadNode : ExM P w K mg base 1 "BadNode" (He.ga K "BadNode") ["node"]) : FnOk P w K mg base (L2N.CX P w) 3 f fd ["self", "node"] (sp03_Links_is_out K) :=
  F.ok sc_Links_is_out (len_Links_is_out K) fun cdv A outer s H vs Q E hr h => ⟨t_Links_is_out K E, pss_cons (ps_if (pt_not (pt_chain op_le op_le (pe_int) (pv 1) (pe_op op_addA (pe_fld (pv 0) rfl) (pe_int)))) (pss_one (ps_rz x_BadNode rfl (L2N.takes_of rfl rfl rfl rfl) hr (by decide) (pa_cons (pv 1) (pa_nil)))) (pss_nil)) (pss_one (ps_ret (pe_ix ix_seq (pe_fld (pv 0) rfl) (pv 1) (fun _ _ => rfl)))), rd_Links_is_out T vs H Q E h⟩
theorem ok_Links_left {f : Addr} {fd : FuncData} (T : Txt K mg) (F : FunD K "left" "Links.left" (defArgs s_Links_left) (defBody s_Links_left) (defScope s_Links_left) [] [] f fd) (x_BadNode : ExM P w K mg base 1 "BadNode" (He.ga K "BadNode") ["node"]) : FnOk P w K mg base (L2N.CX P w) 3 f fd ["self", "node"] (sp_Links_left K) :=
  F.ok sc_Links_left (len_Links_left K) fun cdv A outer s H vs Q E hr h => ⟨t_Links_left K E, pss_cons (ps_if (pt_not (pt_chain op_le op_le (pe_int) (pv 1) (pe_op op_addA (pe_fld (pv 0) rfl) (pe_int)))) (pss_one (ps_rz x_BadNode rfl (L2N.takes_of rfl rfl rfl rfl) hr (by decide) (pa_cons (pv 1) (pa_nil)))) (pss_nil)) (pss_one (ps_ret (pe_ix ix_seq (pe_fld (pv 0) rfl) (pv 1) (fun _ _ => rfl)))), rd_Links_left T vs H Q E h⟩
theorem ok_Links_right {f : Addr} {fd : FuncData} (T : Txt K mg) (F : FunD K "right" "Links.right" (defArgs s_Links_right) (defBody s_Links_right) (defScope s_Links_right) [] [] f fd) (x_BadNode : ExM P w K mg base 1 "BadNode" (He.ga K "BadNode") ["node"]) : FnOk P w K mg base (L2N.CX P w) 3 f fd ["self", "node"] (sp_Links_right K) :=
  F.ok sc_Links_right (len_Links_right K) fun cdv A outer s H vs Q E hr h => ⟨t_Links_right K E, pss_cons (ps_if (pt_not (pt_chain op_le op_le (pe_int) (pv 1) (pe_fld (pv 0) rfl))) (pss_one (ps_rz x_BadNode rfl (L2N.takes_of rfl rfl rfl rfl) hr (by decide) (pa_cons (pv 1) (pa_nil)))) (pss_nil)) (pss_one (ps_ret (pe_ix ix_seq (pe_fld (pv 0) rfl) (pv 1) (fun _ _ => rfl)))), rd_Links_right T vs H Q E h⟩
theorem ok_check_gap {f : Addr} {fd : FuncData} (T : Txt K mg) (F : FunD K "check_gap" "check_gap" (defArgs s_check_gap) (defBody s_check_gap) (defScope s_check_gap) [] [] f fd) (x_BadGap : ExM P w K mg base 1 "BadGap" (He.ga K "BadGap") ["gap"]) : FnOk P w K mg base (L2N.CX P w) 3 f fd ["size", "gap"] (sp_check_gap K) :=
  F.ok sc_check_gap (len_check_gap K) fun cdv A outer s H vs Q E hr h => ⟨t_check_gap K E, pss_one (ps_if (pt_not (pt_chain op_le op_le (pe_int) (pv 1) (pv 0))) (pss_one (ps_rz x_BadGap rfl (L2N.takes_of rfl rfl rfl rfl) hr (by decide) (pa_cons (pv 1) (pa_nil)))) (pss_nil)), rd_check_gap T vs H Q E h⟩
theorem ok_gap_state {f : Addr} {fd : FuncData} (T : Txt K mg) (F : FunD K "gap_state" "gap_state" (defArgs s_gap_state) (defBody s_gap_state) (defScope s_gap_state) [] [] f fd) (c_Links_left : Met P w K mg base 3 (He.ga K "Links") "left" ["self", "node"] (sp_Links_left K)) (c_Links_right : Met P w K mg base 3 (He.ga K "Links") "right" ["self", "node"] (sp_Links_right K)) (c_check_gap : Cal P w K mg base 3 "check_gap" ["size", "gap"] (sp_check_gap K)) : FnOk P w K mg base (L2N.CX P w) 4 f fd ["links", "gap"] (sp_gap_state K) :=
  F.ok sc_gap_state (len_gap_state K) fun cdv A outer s H vs Q E hr h => ⟨t_gap_state K E, pss_cons (ps_expr (pe_cl c_check_gap hr (by decide) (pat_of (W := fun cls d _ H => E cls d H) (L2N.takes_of rfl rfl rfl rfl)) (pa_cons (pe_fld (pv 0) rfl) (pa_cons (pv 1) (pa_nil))))) (pss_cons (ps_set (i := 2) sc_gap_state.nd rfl (by first | exact Or.inl rfl | exact Or.inr rfl) (pe_cmpR (op_eqA hr) (pe_mt c_Links_right T.cl_Links hr (by decide) (pat_of (W := fun cls d _ H => E cls d H) (L2N.takes_of rfl rfl rfl rfl)) (pv 0) (pa_cons (pv 1) (pa_nil))) (pe_op op_addA (pv 1) (pe_int)) (nomark _))) (pss_cons (ps_set (i := 3) sc_gap_state.nd rfl (by first | exact Or.inl rfl | exact Or.inr rfl) (pe_cmpR (op_eqA hr) (pe_mt c_Links_left T.cl_Links hr (by decide) (pat_of (W := fun cls d _ H => E cls d H) (L2N.takes_of rfl rfl rfl rfl)) (pv 0) (pa_cons (pe_op op_addA (pv 1) (pe_int)) (pa_nil))) (pv 1) (nomark _))) (pss_cons (ps_if (pt_val (pv 2)) (pss_one (ps_ret (pe_ifExp (pt_val (pv 3)) (pe_str) (pe_str)))) (pss_nil)) (pss_one (ps_ret (pe_ifExp (pt_val (pv 3)) (pe_str) (pe_str))))))), rd_gap_state T vs H Q E h⟩
theorem ok_gap_states {f : Addr} {fd : FuncData} (T : Txt K mg) (F : FunD K "gap_states" "gap_states" (defArgs s_gap_states) (defBody s_gap_states) (defScope s_gap_states) [] [] f fd) (c_gap_state : Cal P w K mg base 4 "gap_state" ["links", "gap"] (sp_gap_state K)) : FnOk P w K mg base (L2N.CX P w) 5 f fd ["links"] (sp_gap_states K) :=
  F.ok sc_gap_states (len_gap_states K) fun cdv A outer s H vs Q E hr h => ⟨t_gap_states K E, pss_one (ps_ret (pe_lc (own := [("gap", 1)]) (g := gName 1) (tt := tYes) (te := tCl (sp_gap_state K) (fun _ => E0) (tCons (tVar 0) (tCons (tVar 1) (tNil)))) rfl sc_gap_states.nd (pi_range1 rfl T.b_range (pa_cons (pe_op op_addA (pe_fld (pv 0) rfl) (pe_int)) (pa_nil))) (blkOk_by (own := [("gap", 1)]) (N := ["links", "gap"]) (sc := defScope s_gap_states) (by decide +kernel)) (fun _ _ _ _ _ => pg_name (i := 1) sc_gap_states.nd rfl (by first | exact Or.inl rfl | exact Or.inr rfl)) (fun _ _ _ _ _ => pts_nil) (fun _ _ _ _ _ => pe_cl c_gap_state hr (by decide) (pat_no) (pa_cons (pv 0) (pa_cons (pv 1) (pa_nil)))))), rd_gap_states T vs H Q E h⟩
theorem ok_lost_gaps {f : Addr} {fd : FuncData} (T : Txt K mg) (F : FunD K "lost_gaps" "lost_gaps" (defArgs s_lost_gaps) (defBody s_lost_gaps) (defScope s_lost_gaps) [] [] f fd) (c_gap_states : Cal P w K mg base 5 "gap_states" ["links"] (sp_gap_states K)) : FnOk P w K mg base (L2N.CX P w) 6 f fd ["links"] (sp_lost_gaps K) :=
  F.ok sc_lost_gaps (len_lost_gaps K) fun cdv A outer s H vs Q E hr h => ⟨t_lost_gaps K E, pss_one (ps_ret (pe_lc (own := [("gap", 1), ("state", 2)]) (g := gTup K 2 (gCons (gName 1) (gCons (gName 2) (gNil)))) (tt := tTest (tOp (rEqA K) (tVar 2) (tC (.str "lost")))) (te := tVar 1) rfl sc_lost_gaps.nd (pi_enum (by rfl) T.b_enumerate (pa_cons (pe_cl c_gap_states hr (by decide) (pat_of (W := fun cls d _ H => E cls d H) (L2N.takes_of rfl rfl rfl rfl)) (pa_cons (pv 0) (pa_nil))) (pa_nil))) (blkOk_by (own := [("gap", 1), ("state", 2)]) (N := ["links", "gap", "state"]) (sc := defScope s_lost_gaps) (by decide +kernel)) (fun _ _ _ _ _ => pg_tup (by rfl) (pgs_cons (pg_name (i := 1) sc_lost_gaps.nd rfl (by first | exact Or.inl rfl | exact Or.inr rfl)) (pgs_cons (pg_name (i := 2) sc_lost_gaps.nd rfl (by first | exact Or.inl rfl | exact Or.inr rfl)) (pgs_nil)))) (fun _ _ _ _ _ => pts_one (pt_cmpR (op_eqA hr) (pv 2) (pe_str) (nomark _))) (fun _ _ _ _ _ => pv 1))), rd_lost_gaps T vs H Q E h⟩
theorem ok_check_repairable {f : Addr} {fd : FuncData} (T : Txt K mg) (F : FunD K "check_repairable" "check_repairable" (defArgs s_check_repairable) (defBody s_check_repairable) (defScope s_check_repairable) [] [] f fd) (c_lost_gaps : Cal P w K mg base 6 "lost_gaps" ["links"] (sp_lost_gaps K)) (x_NotRepairable : ExM P w K mg base 1 "NotRepairable" (He.ga K "NotRepairable") ["gap"]) : FnOk P w K mg base (L2N.CX P w) 7 f fd ["links"] (sp16_check_repairable K) :=
  F.ok sc_check_repairable (len_check_repairable K) fun cdv A outer s H vs Q E hr h => ⟨t_check_repairable K E, pss_cons (ps_set (i := 1) sc_check_repairable.nd rfl (by first | exact Or.inl rfl | exact Or.inr rfl) (pe_cl c_lost_gaps hr (by decide) (pat_of (W := fun cls d _ H => E cls d H) (L2N.takes_of rfl rfl rfl rfl)) (pa_cons (pv 0) (pa_nil)))) (pss_one (ps_if (pt_tr (pv 1) (by intro _; rfl)) (pss_one (ps_rz x_NotRepairable rfl (L2N.takes_of rfl rfl rfl rfl) hr (by decide) (pa_cons (pe_ix ix_seq (pv 1) (pe_int) (fun _ _ => rfl)) (pa_nil)))) (pss_nil))), rd_check_repairable T vs H Q E h⟩
theorem ok_sole_holders {f : Addr} {fd : FuncData} (T : Txt K mg) (F : FunD K "sole_holders" "sole_holders" (defArgs s_sole_holders) (defBody s_sole_holders) (defScope s_sole_holders) [] [] f fd) (c_gap_states : Cal P w K mg base 5 "gap_states" ["links"] (sp_gap_states K)) : FnOk P w K mg base (L2N.CX P w) 6 f fd ["links"] (sp_sole_holders K) :=
  F.ok sc_sole_holders (len_sole_holders K) fun cdv A outer s H vs Q E hr h => ⟨t_sole_holders K w E, pss_cons (ps_set (i := 1) sc_sole_holders.nd rfl (by first | exact Or.inl rfl | exact Or.inr rfl) (pe_callTy0 cr_set0 (by rfl) T.b_set (by decide +kernel))) (pss_cons (ps_for (passes_of rfl) rfl (pi_enum (by rfl) T.b_enumerate (pa_cons (pe_cl c_gap_states hr (by decide) (pat_of (W := fun cls d _ H => E cls d H) (L2N.takes_of rfl rfl rfl rfl)) (pa_cons (pv 0) (pa_nil))) (pa_nil))) (pg_tup (by rfl) (pgs_cons (pg_name (i := 2) sc_sole_holders.nd rfl (by first | exact Or.inl rfl | exact Or.inr rfl)) (pgs_cons (pg_name (i := 3) sc_sole_holders.nd rfl (by first | exact Or.inl rfl | exact Or.inr rfl)) (pgs_nil)))) (pss_one (ps_if (pt_cmpR op_in_seq (pv 3) (pe_tup (pa_cons (pe_str) (pa_cons (pe_str) (pa_nil)))) (rfl)) (pss_one (ps_expr (pe_sadd (pv 1) (pa_cons (pe_ifExp (pt_cmpR (op_eqA hr) (pv 3) (pe_str) (nomark _)) (pv 2) (pe_op op_addA (pv 2) (pe_int))) (pa_nil))))) (pss_nil)))) (pss_one (ps_ret (pe_callB (cr_sortedSet rfl) (by rfl) T.b_sorted (by decide +kernel) (pa_cons (pv 1) (pa_nil)))))), rd_sole_holders w T vs H Q E h⟩
theorem ok_due_nodes {f : Addr} {fd : FuncData} (T : Txt K mg) (F : FunD K "due_nodes" "due_nodes" (defArgs s_due_nodes) (defBody s_due_nodes) (defScope s_due_nodes) [] [] f fd) (c_Links_outs : Met P w K mg base 1 (He.ga K "Links") "outs" ["self"] (sp_Links_outs K)) (c_sole_holders : Cal P w K mg base 6 "sole_holders" ["links"] (sp_sole_holders K)) : FnOk P w K mg base (L2N.CX P w) 7 f fd ["links"] (sp16_due_nodes K) :=
  F.ok sc_due_nodes (len_due_nodes K) fun cdv A outer s H vs Q E hr h => ⟨t_due_nodes K w E, pss_one (ps_ret (pe_callB (cr_sortedSet rfl) (by rfl) T.b_sorted (by decide +kernel) (pa_cons (pe_op op_orS (pe_callTy (cr_setOfL rfl) (by rfl) T.b_set (by decide +kernel) (pa_cons (pe_mt0 c_Links_outs T.cl_Links hr (by decide) (pat_of (W := fun cls d _ H => E cls d H) (L2N.takes_of rfl rfl rfl rfl)) (pv 0)) (pa_nil))) (pe_callTy (cr_setOfL rfl) (by rfl) T.b_set (by decide +kernel) (pa_cons (pe_cl c_sole_holders hr (by decide) (pat_of (W := fun cls d _ H => E cls d H) (L2N.takes_of rfl rfl rfl rfl)) (pa_cons (pv 0) (pa_nil))) (pa_nil)))) (pa_nil)))), rd_due_nodes w T vs H Q E h⟩
theorem ok_repair_cost {f : Addr} {fd : FuncData} (T : Txt K mg) (F : FunD K "repair_cost" "repair_cost" (defArgs s_repair_cost) (defBody s_repair_cost) (defScope s_repair_cost) [] [] f fd) (c_Links_is_out : Met P w K mg base 3 (He.ga K "Links") "is_out" ["self", "node"] (sp03_Links_is_out K)) (c_check_repairable : Cal P w K mg base 7 "check_repairable" ["links"] (sp16_check_repairable K)) (c_due_nodes : Cal P w K mg base 7 "due_nodes" ["links"] (sp16_due_nodes K)) (x_BadWeights : ExM P w K mg base 1 "BadWeights" (He.ga K "BadWeights") ["count"]) : FnOk P w K mg base (L2N.CX P w) 8 f fd ["links", "weights"] (sp16_repair_cost K) :=
  F.ok sc_repair_cost (len_repair_cost K) fun cdv A outer s H vs Q E hr h => ⟨t_repair_cost K E, pss_cons (ps_if ((pw_or (pt_cmpR (op_neA hr) (pe_callB call_lenA (by rfl) T.b_len (by decide +kernel) (pa_cons (pv 1) (pa_nil))) (pe_fld (pv 0) rfl) (nomark _)) (pw_or1 (pt_val (pe_callB (cr_any rfl) (by rfl) T.b_any (by decide +kernel) (pa_cons (pe_lc (own := [("weight", 2)]) (g := gName 2) (tt := tYes) (te := tOp rLtA (tVar 2) (tC (.int 0))) rfl sc_repair_cost.nd (pi_list (pv 1)) (blkOk_by (own := [("weight", 2)]) (N := ["links", "weights", "weight", "node"]) (sc := defScope s_repair_cost) (by decide +kernel)) (fun _ _ _ _ _ => pg_name (i := 2) sc_repair_cost.nd rfl (by first | exact Or.inl rfl | exact Or.inr rfl)) (fun _ _ _ _ _ => pts_nil) (fun _ _ _ _ _ => pe_cmpR op_lt (pv 2) (pe_int) (nomark _))) (pa_nil)))))).pt) (pss_one (ps_rz x_BadWeights rfl (L2N.takes_of rfl rfl rfl rfl) hr (by decide) (pa_cons (pe_callB call_lenA (by rfl) T.b_len (by decide +kernel) (pa_cons (pv 1) (pa_nil))) (pa_nil)))) (pss_nil)) (pss_cons (ps_expr (pe_cl c_check_repairable hr (by decide) (pat_of (W := fun cls d _ H => E cls d H) (L2N.takes_of rfl rfl rfl rfl)) (pa_cons (pv 0) (pa_nil)))) (pss_one (ps_ret (pe_callB (cr_sum rfl) (by rfl) T.b_sum (by decide +kernel) (pa_cons (pe_lc (own := [("node", 3)]) (g := gName 3) (tt := tYes) (te := tOp rMulA (tOp (rIx K) (tVar 1) (tOp rSubA (tVar 3) (tC (.int 1)))) (tIf (tB (tMt (He.ga K "Links") "is_out" (sp03_Links_is_out K) (fun _ => E0) (tVar 0) (tCons (tVar 3) (tNil)))) (tC (.int 1)) (tC (.int 2)))) rfl sc_repair_cost.nd (pi_list (pe_cl c_due_nodes hr (by decide) (pat_of (W := fun cls d _ H => E cls d H) (L2N.takes_of rfl rfl rfl rfl)) (pa_cons (pv 0) (pa_nil)))) (blkOk_by (own := [("node", 3)]) (N := ["links", "weights", "weight", "node"]) (sc := defScope s_repair_cost) (by decide +kernel)) (fun _ _ _ _ _ => pg_name (i := 3) sc_repair_cost.nd rfl (by first | exact Or.inl rfl | exact Or.inr rfl)) (fun _ _ _ _ _ => pts_nil) (fun _ _ _ _ _ => pe_op op_mulA (pe_ix ix_seq (pv 1) (pe_op op_sub (pv 3) (pe_int)) (fun _ _ => rfl)) (pe_ifExp (pt_val (pe_mt c_Links_is_out T.cl_Links hr (by decide) (pat_no) (pv 0) (pa_cons (pv 3) (pa_nil)))) (pe_int) (pe_int)))) (pa_nil)))))), rd_repair_cost T vs H Q E h⟩
theorem ok_debt_of {f : Addr} {fd : FuncData} (T : Txt K mg) (F : FunD K "debt_of" "debt_of" (defArgs s_debt_of) (defBody s_debt_of) (defScope s_debt_of) [] [] f fd) (c_repair_cost : Cal P w K mg base 8 "repair_cost" ["links", "weights"] (sp16_repair_cost K)) : FnOk P w K mg base (L2N.CX P w) 9 f fd ["links"] (sp16_debt_of K) :=
  F.ok sc_debt_of (len_debt_of K) fun cdv A outer s H vs Q E hr h => ⟨t_debt_of K E, pss_one (ps_ret (pe_cl c_repair_cost hr (by decide) (pat_of (W := fun cls d _ H => E cls d H) (L2N.takes_of rfl rfl rfl rfl)) (pa_cons (pv 0) (pa_cons (pe_op op_mulA (pe_lst (pa_cons (pe_int) (pa_nil))) (pe_fld (pv 0) rfl)) (pa_nil))))), rd_debt_of T vs H Q E h⟩
theorem ok_check_size {f : Addr} {fd : FuncData} (T : Txt K mg) (F : FunD K "check_size" "check_size" (defArgs s_check_size) (defBody s_check_size) (defScope s_check_size) [] [] f fd) (x_BadSize : ExM P w K mg base 1 "BadSize" (He.ga K "BadSize") ["size"]) : FnOk P w K mg base (L2N.CX P w) 3 f fd ["size"] (sp_check_size K) :=
  F.ok sc_check_size (len_check_size K) fun cdv A outer s H vs Q E hr h => ⟨t_check_size K E, pss_one (ps_if (pt_not (pt_chain op_le op_le (pe_int) (pv 0) (pe_cc T.cc_Links_MOST (pe_own T.g_Links)))) (pss_one (ps_rz x_BadSize rfl (L2N.takes_of rfl rfl rfl rfl) hr (by decide) (pa_cons (pv 0) (pa_nil)))) (pss_nil)), rd_check_size T vs H Q E h⟩
theorem ok_Links___init__ {f : Addr} {fd : FuncData} (T : Txt K mg) (F : FunD K "__init__" "Links.__init__" (defArgs s_Links___init__) (defBody s_Links___init__) (defScope s_Links___init__) [] [] f fd) (c_check_size : Cal P w K mg base 3 "check_size" ["size"] (sp_check_size K)) : FnOk P w K mg base (L2N.CX P w) 4 f fd ["self", "size"] (sp_Links___init__ K) :=
  F.ok sc_Links___init__ (len_Links___init__ K) fun cdv A outer s H vs Q E hr h => ⟨t_Links___init__ K E, pss_cons (ps_expr (pe_cl c_check_size hr (by decide) (pat_of (W := fun cls d _ H => E cls d H) (L2N.takes_of rfl rfl rfl rfl)) (pa_cons (pv 1) (pa_nil)))) (pss_cons (ps_fld (pv 0) (pv 1) rfl) (pss_cons (ps_fld (pv 0) (pe_listRg rfl rfl T.b_list (prg_2 rfl T.b_range (pe_int) (pe_op op_addA (pv 1) (pe_int)))) rfl) (pss_cons (ps_fld (pv 0) (pe_op op_addA (pe_lst (pa_cons (pe_int) (pa_nil))) (pe_listRg rfl rfl T.b_list (prg_1 rfl T.b_range (pe_op op_addA (pv 1) (pe_int))))) rfl) (pss_one (ps_fld (pv 0) (pe_op op_mulA (pe_lst (pa_cons (pe_bl) (pa_nil))) (pe_op op_addA (pv 1) (pe_int))) rfl))))), rd_Links___init__ T vs H Q E h⟩
theorem ok_Links_is_legal {f : Addr} {fd : FuncData} (T : Txt K mg) (F : FunD K "is_legal" "Links.is_legal" (defArgs s_Links_is_legal) (defBody s_Links_is_legal) (defScope s_Links_is_legal) [] [] f fd)  : FnOk P w K mg base (L2N.CX P w) 1 f fd ["self", "operation"] (sp_Links_is_legal K) :=
  F.ok sc_Links_is_legal (len_Links_is_legal K) fun cdv A outer s H vs Q E hr h => ⟨t_Links_is_legal K E, pss_one (ps_ret (pe_cmpR (op_eqA hr) (pe_ix ix_seq (pe_fld (pv 0) rfl) (pe_callB call_absA (by rfl) T.b_abs (by decide +kernel) (pa_cons (pv 1) (pa_nil))) (fun _ _ => rfl)) (pe_cmpR op_gt (pv 1) (pe_int) (nomark _)) (nomark _))), rd_Links_is_legal T vs H Q E h⟩
theorem ok_check_operation {f : Addr} {fd : FuncData} (T : Txt K mg) (F : FunD K "check_operation" "check_operation" (defArgs s_check_operation) (defBody s_check_operation) (defScope s_check_operation) [] [] f fd) (x_BadOperation : ExM P w K mg base 1 "BadOperation" (He.ga K "BadOperation") ["operation", "index"]) : FnOk P w K mg base (L2N.CX P w) 3 f fd ["size", "operation", "index"] (sp_check_operation K) :=
  F.ok sc_check_operation (len_check_operation K) fun cdv A outer s H vs Q E hr h => ⟨t_check_operation K E, pss_one (ps_if (pt_not (pt_chain op_le op_le (pe_int) (pe_callB call_absA (by rfl) T.b_abs (by decide +kernel) (pa_cons (pv 1) (pa_nil))) (pv 0))) (pss_one (ps_rz x_BadOperation rfl (L2N.takes_of rfl rfl rfl rfl) hr (by decide) (pa_cons (pv 1) (pa_cons (pv 2) (pa_nil))))) (pss_nil)), rd_check_operation T vs H Q E h⟩
theorem ok_Links_check {f : Addr} {fd : FuncData} (T : Txt K mg) (F : FunD K "check" "Links.check" (defArgs s_Links_check) (defBody s_Links_check) (defScope s_Links_check) [] [] f fd) (c_Links_is_legal : Met P w K mg base 1 (He.ga K "Links") "is_legal" ["self", "operation"] (sp_Links_is_legal K)) (c_check_operation : Cal P w K mg base 3 "check_operation" ["size", "operation", "index"] (sp_check_operation K)) (x_Illegal : ExM P w K mg base 1 "Illegal" (He.ga K "Illegal") ["operation", "index"]) : FnOk P w K mg base (L2N.CX P w) 4 f fd ["self", "operation", "index"] (sp_Links_check K) :=
  F.ok sc_Links_check (len_Links_check K) fun cdv A outer s H vs Q E hr h => ⟨t_Links_check K E, pss_cons (ps_expr (pe_cl c_check_operation hr (by decide) (pat_of (W := fun cls d _ H => E cls d H) (L2N.takes_of rfl rfl rfl rfl)) (pa_cons (pe_fld (pv 0) rfl) (pa_cons (pv 1) (pa_cons (pv 2) (pa_nil)))))) (pss_one (ps_if (pt_not (pt_val (pe_mt c_Links_is_legal T.cl_Links hr (by decide) (pat_of (W := fun cls d _ H => E cls d H) (L2N.takes_of rfl rfl rfl rfl)) (pv 0) (pa_cons (pv 1) (pa_nil))))) (pss_one (ps_rz x_Illegal rfl (L2N.takes_of rfl rfl rfl rfl) hr (by decide) (pa_cons (pv 1) (pa_cons (pv 2) (pa_nil))))) (pss_nil))), rd_Links_check T vs H Q E h⟩
theorem ok_Links_apply_at {f : Addr} {fd : FuncData} (T : Txt K mg) (F : FunD K "apply_at" "Links.apply_at" (defArgs s_Links_apply_at) (defBody s_Links_apply_at) (defScope s_Links_apply_at) [] [] f fd) (c_Links_check : Met P w K mg base 4 (He.ga K "Links") "check" ["self", "operation", "index"] (sp_Links_check K)) : FnOk P w K mg base (L2N.CX P w) 5 f fd ["self", "operation", "index"] (sp_Links_apply_at K) :=
  F.ok sc_Links_apply_at (len_Links_apply_at K) fun cdv A outer s H vs Q E hr h => ⟨t_Links_apply_at K E, pss_cons (ps_expr (pe_mt c_Links_check T.cl_Links hr (by decide) (pat_of (W := fun cls d _ H => E cls d H) (L2N.takes_of rfl rfl rfl rfl)) (pv 0) (pa_cons (pv 1) (pa_cons (pv 2) (pa_nil))))) (pss_cons (ps_set (i := 3) sc_Links_apply_at.nd rfl (by first | exact Or.inl rfl | exact Or.inr rfl) (pe_callB call_absA (by rfl) T.b_abs (by decide +kernel) (pa_cons (pv 1) (pa_nil)))) (pss_cons (ps_set (i := 4) sc_Links_apply_at.nd rfl (by first | exact Or.inl rfl | exact Or.inr rfl) (pe_ix ix_seq (pe_fld (pv 0) rfl) (pv 3) (fun _ _ => rfl))) (pss_cons (ps_set (i := 5) sc_Links_apply_at.nd rfl (by first | exact Or.inl rfl | exact Or.inr rfl) (pe_ix ix_seq (pe_fld (pv 0) rfl) (pv 3) (fun _ _ => rfl))) (pss_cons (ps_set (i := 6) sc_Links_apply_at.nd rfl (by first | exact Or.inl rfl | exact Or.inr rfl) (pe_cmpR op_lt (pv 1) (pe_int) (nomark _))) (pss_cons (ps_asg (pe_ifExp (pt_val (pv 6)) (pv 5) (pv 3)) (pg_sub (pe_fld (pv 0) rfl) (pv 4) set_list)) (pss_cons (ps_asg (pe_ifExp (pt_val (pv 6)) (pv 4) (pv 3)) (pg_sub (pe_fld (pv 0) rfl) (pv 5) set_list)) (pss_one (ps_asg (pv 6) (pg_sub (pe_fld (pv 0) rfl) (pv 3) set_list))))))))), rd_Links_apply_at T vs H Q E h⟩
theorem ok_Links_apply {f : Addr} {fd : FuncData} (T : Txt K mg) (F : FunD K "apply" "Links.apply" (defArgs s_Links_apply) (defBody s_Links_apply) (defScope s_Links_apply) [] [] f fd) (c_Links_apply_at : Met P w K mg base 5 (He.ga K "Links") "apply_at" ["self", "operation", "index"] (sp_Links_apply_at K)) : FnOk P w K mg base (L2N.CX P w) 6 f fd ["self", "operation"] (sp_Links_apply K) :=
  F.ok sc_Links_apply (len_Links_apply K) fun cdv A outer s H vs Q E hr h => ⟨t_Links_apply K E, pss_one (ps_expr (pe_mt c_Links_apply_at T.cl_Links hr (by decide) (pat_of (W := fun cls d _ H => E cls d H) (L2N.takes_of rfl rfl rfl rfl)) (pv 0) (pa_cons (pv 1) (pa_cons (pe_int) (pa_nil))))), rd_Links_apply T vs H Q E h⟩
theorem ok_Links_copy {f : Addr} {fd : FuncData} (T : Txt K mg) (F : FunD K "copy" "Links.copy" (defArgs s_Links_copy) (defBody s_Links_copy) (defScope s_Links_copy) [] [] f fd) (m_Links : Mak P w K mg base 4 "Links" (He.ga K "Links") ["self", "size"] (sp_Links___init__ K)) : FnOk P w K mg base (L2N.CX P w) 6 f fd ["self"] (sp_Links_copy K) :=
  F.ok sc_Links_copy (len_Links_copy K) fun cdv A outer s H vs Q E hr h => ⟨t_Links_copy K E, pss_cons (ps_set (i := 1) sc_Links_copy.nd rfl (by first | exact Or.inl rfl | exact Or.inr rfl) (pe_mk m_Links hr (by decide) (pat_of (W := fun cls d _ H => E cls d H) (L2N.takes_of rfl rfl rfl rfl)) (pa_cons (pe_fld (pv 0) rfl) (pa_nil)))) (pss_cons (ps_fld (pv 1) (pe_callTy call_listA (by rfl) T.b_list (by decide +kernel) (pa_cons (pe_fld (pv 0) rfl) (pa_nil))) rfl) (pss_cons (ps_fld (pv 1) (pe_callTy call_listA (by rfl) T.b_list (by decide +kernel) (pa_cons (pe_fld (pv 0) rfl) (pa_nil))) rfl) (pss_cons (ps_fld (pv 1) (pe_callTy call_listA (by rfl) T.b_list (by decide +kernel) (pa_cons (pe_fld (pv 0) rfl) (pa_nil))) rfl) (pss_one (ps_ret (pv 1)))))), rd_Links_copy T vs H Q E h⟩
theorem ok_play {f : Addr} {fd : FuncData} (T : Txt K mg) (F : FunD K "play" "play" (defArgs s_play) (defBody s_play) (defScope s_play) [] [] f fd) (c_Links_apply_at : Met P w K mg base 5 (He.ga K "Links") "apply_at" ["self", "operation", "index"] (sp_Links_apply_at K)) (c_Links_copy : Met P w K mg base 6 (He.ga K "Links") "copy" ["self"] (sp_Links_copy K)) : FnOk P w K mg base (L2N.CX P w) 7 f fd ["links", "log"] (sp_play K) :=
  F.ok sc_play (len_play K) fun cdv A outer s H vs Q E hr h => ⟨t_play K E, pss_cons (ps_set (i := 2) sc_play.nd rfl (by first | exact Or.inl rfl | exact Or.inr rfl) (pe_mt0 c_Links_copy T.cl_Links hr (by decide) (pat_of (W := fun cls d _ H => E cls d H) (L2N.takes_of rfl rfl rfl rfl)) (pv 0))) (pss_cons (ps_for (passes_of rfl) rfl (pi_enum (by rfl) T.b_enumerate (pa_cons (pv 1) (pa_nil))) (pg_tup (by rfl) (pgs_cons (pg_name (i := 3) sc_play.nd rfl (by first | exact Or.inl rfl | exact Or.inr rfl)) (pgs_cons (pg_name (i := 4) sc_play.nd rfl (by first | exact Or.inl rfl | exact Or.inr rfl)) (pgs_nil)))) (pss_one (ps_expr (pe_mt c_Links_apply_at T.cl_Links hr (by decide) (pat_of (W := fun cls d _ H => E cls d H) (L2N.takes_of rfl rfl rfl rfl)) (pv 2) (pa_cons (pv 4) (pa_cons (pv 3) (pa_nil))))))) (pss_one (ps_ret (pv 2)))), rd_play T vs H Q E h⟩
theorem ok_replay {f : Addr} {fd : FuncData} (T : Txt K mg) (F : FunD K "replay" "replay" (defArgs s_replay) (defBody s_replay) (defScope s_replay) [] [] f fd) (m_Links : Mak P w K mg base 4 "Links" (He.ga K "Links") ["self", "size"] (sp_Links___init__ K)) (c_play : Cal P w K mg base 7 "play" ["links", "log"] (sp_play K)) : FnOk P w K mg base (L2N.CX P w) 8 f fd ["size", "log"] (sp_replay K) :=
  F.ok sc_replay (len_replay K) fun cdv A outer s H vs Q E hr h => ⟨t_replay K E, pss_one (ps_ret (pe_cl c_play hr (by decide) (pat_of (W := fun cls d _ H => E cls d H) (L2N.takes_of rfl rfl rfl rfl)) (pa_cons (pe_mk m_Links hr (by decide) (pat_of (W := fun cls d _ H => E cls d H) (L2N.takes_of rfl rfl rfl rfl)) (pa_cons (pv 0) (pa_nil))) (pa_cons (pv 1) (pa_nil))))), rd_replay T vs H Q E h⟩
theorem ok__check_once {f : Addr} {fd : FuncData} (T : Txt K mg) (F : FunD K "_check_once" "_check_once" (defArgs s__check_once) (defBody s__check_once) (defScope s__check_once) [] [] f fd) (c_replay : Cal P w K mg base 8 "replay" ["size", "log"] (sp_replay K)) (x_NotOnce : ExM P w K mg base 1 "NotOnce" (He.ga K "NotOnce") ["index"]) : FnOk P w K mg base (L2N.CX P w) 9 f fd ["size", "log"] (sp__check_once K) :=
  F.ok sc__check_once (len__check_once K) fun cdv A outer s H vs Q E hr h => ⟨t__check_once K E, pss_cons (ps_expr (pe_cl c_replay hr (by decide) (pat_of (W := fun cls d _ H => E cls d H) (L2N.takes_of rfl rfl rfl rfl)) (pa_cons (pv 0) (pa_cons (pv 1) (pa_nil))))) (pss_one (ps_for (passes_of rfl) rfl (pi_enum (by rfl) T.b_enumerate (pa_cons (pv 1) (pa_nil))) (pg_tup (by rfl) (pgs_cons (pg_name (i := 2) sc__check_once.nd rfl (by first | exact Or.inl rfl | exact Or.inr rfl)) (pgs_cons (pg_name (i := 3) sc__check_once.nd rfl (by first | exact Or.inl rfl | exact Or.inr rfl)) (pgs_nil)))) (pss_one (ps_if ((pw_and (pt_cmpR op_lt (pv 3) (pe_int) (nomark _)) (pw_and1 (pt_cmpR op_in_seq (pv 3) (pe_slice sl_list (pv 1) (po_none) (po_some (pv 2))) (rfl)))).pt) (pss_one (ps_rz x_NotOnce rfl (L2N.takes_of rfl rfl rfl rfl) hr (by decide) (pa_cons (pv 2) (pa_nil)))) (pss_nil))))), rd__check_once T vs H Q E h⟩
theorem ok__late_gaps {f : Addr} {fd : FuncData} (T : Txt K mg) (F : FunD K "_late_gaps" "_late_gaps" (defArgs s__late_gaps) (defBody s__late_gaps) (defScope s__late_gaps) [] [] f fd) (c_Links_left : Met P w K mg base 3 (He.ga K "Links") "left" ["self", "node"] (sp_Links_left K)) (c_Links_right : Met P w K mg base 3 (He.ga K "Links") "right" ["self", "node"] (sp_Links_right K)) : FnOk P w K mg base (L2N.CX P w) 4 f fd ["links", "earlier", "operation"] (sp__late_gaps K) :=
  F.ok sc__late_gaps (len__late_gaps K) fun cdv A outer s H vs Q E hr h => ⟨t__late_gaps K E, pss_cons (ps_set (i := 3) sc__late_gaps.nd rfl (by first | exact Or.inl rfl | exact Or.inr rfl) (pe_callB call_absA (by rfl) T.b_abs (by decide +kernel) (pa_cons (pv 2) (pa_nil)))) (pss_cons (ps_set (i := 4) sc__late_gaps.nd rfl (by first | exact Or.inl rfl | exact Or.inr rfl) (pe_mt c_Links_left T.cl_Links hr (by decide) (pat_of (W := fun cls d _ H => E cls d H) (L2N.takes_of rfl rfl rfl rfl)) (pv 0) (pa_cons (pv 3) (pa_nil)))) (pss_cons (ps_set (i := 5) sc__late_gaps.nd rfl (by first | exact Or.inl rfl | exact Or.inr rfl) (pe_mt c_Links_right T.cl_Links hr (by decide) (pat_of (W := fun cls d _ H => E cls d H) (L2N.takes_of rfl rfl rfl rfl)) (pv 0) (pa_cons (pv 3) (pa_nil)))) (pss_cons (ps_set (i := 6) sc__late_gaps.nd rfl (by first | exact Or.inl rfl | exact Or.inr rfl) (pe_lst (pa_nil))) (pss_cons (ps_if ((pw_and (pt_cmpR (op_neA hr) (pv 4) (pe_op op_sub (pv 3) (pe_int)) (nomark _)) (pw_and1 (pt_cmpR op_in_seq (pe_op op_addA (pv 4) (pe_int)) (pv 1) (rfl)))).pt) (pss_one (ps_expr (pe_bm PySem.F.plainAttrs_list PySem.F.slot_list_append PySem.F.type_list_append mt_append (pv 6) (pa_cons (pv 4) (pa_nil))))) (pss_nil)) (pss_cons (ps_if ((pw_and (pt_cmpR (op_neA hr) (pv 5) (pe_op op_addA (pv 3) (pe_int)) (nomark _)) (pw_and1 (pt_cmpR op_in_seq (pe_op op_sub (pv 5) (pe_int)) (pv 1) (rfl)))).pt) (pss_one (ps_expr (pe_bm PySem.F.plainAttrs_list PySem.F.slot_list_append PySem.F.type_list_append mt_append (pv 6) (pa_cons (pe_op op_sub (pv 5) (pe_int)) (pa_nil))))) (pss_nil)) (pss_one (ps_ret (pv 6)))))))), rd__late_gaps T vs H Q E h⟩
theorem ok_late_writes {f : Addr} {fd : FuncData} (T : Txt K mg) (F : FunD K "late_writes" "late_writes" (defArgs s_late_writes) (defBody s_late_writes) (defScope s_late_writes) [] [] f fd) (m_Links : Mak P w K mg base 4 "Links" (He.ga K "Links") ["self", "size"] (sp_Links___init__ K)) (c_Links_apply : Met P w K mg base 6 (He.ga K "Links") "apply" ["self", "operation"] (sp_Links_apply K)) (c__check_once : Cal P w K mg base 9 "_check_once" ["size", "log"] (sp__check_once K)) (c__late_gaps : Cal P w K mg base 4 "_late_gaps" ["links", "earlier", "operation"] (sp__late_gaps K)) : FnOk P w K mg base (L2N.CX P w) 10 f fd ["size", "log"] (sp_late_writes K) :=
  F.ok sc_late_writes (len_late_writes K) fun cdv A outer s H vs Q E hr h => ⟨t_late_writes K E, pss_cons (ps_expr (pe_cl c__check_once hr (by decide) (pat_of (W := fun cls d _ H => E cls d H) (L2N.takes_of rfl rfl rfl rfl)) (pa_cons (pv 0) (pa_cons (pv 1) (pa_nil))))) (pss_cons (ps_set (i := 2) sc_late_writes.nd rfl (by first | exact Or.inl rfl | exact Or.inr rfl) (pe_mk m_Links hr (by decide) (pat_of (W := fun cls d _ H => E cls d H) (L2N.takes_of rfl rfl rfl rfl)) (pa_cons (pv 0) (pa_nil)))) (pss_cons (ps_set (i := 3) sc_late_writes.nd rfl (by first | exact Or.inl rfl | exact Or.inr rfl) (pe_lst (pa_nil))) (pss_cons (ps_for (passes_of rfl) rfl (pi_enum (by rfl) T.b_enumerate (pa_cons (pv 1) (pa_nil))) (pg_tup (by rfl) (pgs_cons (pg_name (i := 4) sc_late_writes.nd rfl (by first | exact Or.inl rfl | exact Or.inr rfl)) (pgs_cons (pg_name (i := 5) sc_late_writes.nd rfl (by first | exact Or.inl rfl | exact Or.inr rfl)) (pgs_nil)))) (pss_cons (ps_expr (pe_bm PySem.F.plainAttrs_list PySem.F.slot_list_extend PySem.F.type_list_extend mt_extend (pv 3) (pa_cons (pe_lc (own := [("gap", 6)]) (g := gName 6) (tt := tYes) (te := tTup (tCons (tVar 4) (tCons (tVar 6) (tNil)))) rfl sc_late_writes.nd (pi_list (pe_cl c__late_gaps hr (by decide) (pat_of (W := fun cls d _ H => E cls d H) (L2N.takes_of rfl rfl rfl rfl)) (pa_cons (pv 2) (pa_cons (pe_slice sl_list (pv 1) (po_none) (po_some (pv 4))) (pa_cons (pv 5) (pa_nil)))))) (blkOk_by (own := [("gap", 6)]) (N := ["size", "log", "links", "found", "index", "operation", "gap"]) (sc := defScope s_late_writes) (by decide +kernel)) (fun _ _ _ _ _ => pg_name (i := 6) sc_late_writes.nd rfl (by first | exact Or.inl rfl | exact Or.inr rfl)) (fun _ _ _ _ _ => pts_nil) (fun _ _ _ _ _ => pe_tup (pa_cons (pv 4) (pa_cons (pv 6) (pa_nil))))) (pa_nil)))) (pss_one (ps_expr (pe_mt c_Links_apply T.cl_Links hr (by decide) (pat_of (W := fun cls d _ H => E cls d H) (L2N.takes_of rfl rfl rfl rfl)) (pv 2) (pa_cons (pv 5) (pa_nil))))))) (pss_one (ps_ret (pv 3)))))), rd_late_writes T vs H Q E h⟩
theorem ok__law_calm {f : Addr} {fd : FuncData} (T : Txt K mg) (F : FunD K "_law_calm" "_law_calm" (defArgs s__law_calm) (defBody s__law_calm) (defScope s__law_calm) [] [] f fd) (c_Links_outs : Met P w K mg base 1 (He.ga K "Links") "outs" ["self"] (sp_Links_outs K)) (c__law_after : Cal P w K mg base 2 "_law_after" ["size", "log"] (sp23__law_after K)) (c__law_holders : Cal P w K mg base 1 "_law_holders" ["size", "states"] (sp23__law_holders K)) (c__law_integer : Cal P w K mg base 1 "_law_integer" ["told"] (sp__law_integer K)) (c__law_row : Cal P w K mg base 2 "_law_row" ["told", "due"] (sp__law_row K)) (c__law_states : Cal P w K mg base 1 "_law_states" ["size", "book"] (sp23__law_states K)) (c_debt_of : Cal P w K mg base 9 "debt_of" ["links"] (sp16_debt_of K)) (c_late_writes : Cal P w K mg base 10 "late_writes" ["size", "log"] (sp_late_writes K)) (c_lost_gaps : Cal P w K mg base 6 "lost_gaps" ["links"] (sp_lost_gaps K)) (c_replay : Cal P w K mg base 8 "replay" ["size", "log"] (sp_replay K)) (c_sole_holders : Cal P w K mg base 6 "sole_holders" ["links"] (sp_sole_holders K)) : FnOk P w K mg base (L2N.CX P w) 11 f fd ["size", "log"] (sp23__law_calm K) :=
  F.ok sc__law_calm (len__law_calm K) fun cdv A outer s H vs Q E hr h => ⟨t__law_calm K E, pss_cons (ps_set (i := 2) sc__law_calm.nd rfl (by first | exact Or.inl rfl | exact Or.inr rfl) (pe_cl c__law_after hr (by decide) (pat_of (W := fun cls d _ H => E cls d H) (L2N.takes_of rfl rfl rfl rfl)) (pa_cons (pv 0) (pa_cons (pv 1) (pa_nil))))) (pss_cons (ps_set (i := 3) sc__law_calm.nd rfl (by first | exact Or.inl rfl | exact Or.inr rfl) (pe_cl c__law_holders hr (by decide) (pat_of (W := fun cls d _ H => E cls d H) (L2N.takes_of rfl rfl rfl rfl)) (pa_cons (pv 0) (pa_cons (pe_cl c__law_states hr (by decide) (pat_of (W := fun cls d _ H => E cls d H) (L2N.takes_of rfl rfl rfl rfl)) (pa_cons (pv 0) (pa_cons (pv 2) (pa_nil)))) (pa_nil))))) (pss_cons (ps_setLc (i := 4) (own := [("x", 9)]) (g := gName 9) (tt := tTest (tOp (rEqA K) (tOp (rIx K) (tOp (rIx K) (tVar 2) (tC (.int 2))) (tVar 9)) (tC (.int 1)))) (te := tVar 9) rfl sc__law_calm.nd rfl rfl (sw_true rfl rfl rfl (by decide +kernel)) (pi_range2 rfl T.b_range (pa_cons (pe_int) (pa_cons (pe_op op_addA (pv 0) (pe_int)) (pa_nil)))) (blkOk_by (own := [("x", 9)]) (N := ["size", "log", "book", "holders", "outs", "node", "told", "net", "owed", "x"]) (sc := defScope s__law_calm) (by decide +kernel)) (fun _ _ _ _ _ => pg_name (i := 9) sc__law_calm.nd rfl (by first | exact Or.inl rfl | exact Or.inr rfl)) (fun _ _ _ _ _ => pts_one (pt_cmpR (op_eqA hr) (pe_ix ix_seq (pe_ix ix_seq (pv 2) (pe_int) (fun _ _ => rfl)) (pv 9) (fun _ _ => rfl)) (pe_int) (nomark _))) (fun _ _ _ _ _ => pv 9)) (pss_cons (ps_for (passes_of rfl) rfl (pi_list (pv 3)) (pg_name (i := 5) sc__law_calm.nd rfl (by first | exact Or.inl rfl | exact Or.inr rfl)) (pss_one (ps_if (pt_cmpR op_notIn_seq (pv 5) (pv 4) (rfl)) (pss_one (ps_ret (pe_bl))) (pss_nil)))) (pss_cons (ps_set (i := 6) sc__law_calm.nd rfl (by first | exact Or.inl rfl | exact Or.inr rfl) (pe_cl c_late_writes hr (by decide) (pat_of (W := fun cls d _ H => E cls d H) (L2N.takes_of rfl rfl rfl rfl)) (pa_cons (pv 0) (pa_cons (pe_callTy call_listA (by rfl) T.b_list (by decide +kernel) (pa_cons (pv 1) (pa_nil))) (pa_nil))))) (pss_cons (ps_if ((pw_or (pt_not (pt_val (pe_callB call_isi (by rfl) T.b_isinstance (by decide +kernel) (pa_cons (pv 6) (pa_cons (pe_ty "list" T.b_list (by decide +kernel)) (pa_nil)))))) (pw_or1 (pt_cmpR op_gt (pe_callB call_lenA (by rfl) T.b_len (by decide +kernel) (pa_cons (pv 6) (pa_nil))) (pe_int) (nomark _)))).pt) (pss_one (ps_ret (pe_bl))) (pss_nil)) (pss_cons (ps_set (i := 7) sc__law_calm.nd rfl (by first | exact Or.inl rfl | exact Or.inr rfl) (pe_cl c_replay hr (by decide) (pat_of (W := fun cls d _ H => E cls d H) (L2N.takes_of rfl rfl rfl rfl)) (pa_cons (pv 0) (pa_cons (pe_callTy call_listA (by rfl) T.b_list (by decide +kernel) (pa_cons (pv 1) (pa_nil))) (pa_nil))))) (pss_cons (ps_if ((pw_or (pt_not (pt_val (pe_cl c__law_row hr (by decide) (pat_of (W := fun cls d _ H => E cls d H) (L2N.takes_of rfl rfl rfl rfl)) (pa_cons (pe_cl c_lost_gaps hr (by decide) (pat_of (W := fun cls d _ H => E cls d H) (L2N.takes_of rfl rfl rfl rfl)) (pa_cons (pv 7) (pa_nil))) (pa_cons (pe_lst (pa_nil)) (pa_nil)))))) (pw_or1 (pt_not (pt_val (pe_cl c__law_row hr (by decide) (pat_of (W := fun cls d _ H => E cls d H) (L2N.takes_of rfl rfl rfl rfl)) (pa_cons (pe_cl c_sole_holders hr (by decide) (pat_of (W := fun cls d _ H => E cls d H) (L2N.takes_of rfl rfl rfl rfl)) (pa_cons (pv 7) (pa_nil))) (pa_cons (pv 3) (pa_nil)))))))).pt) (pss_one (ps_ret (pe_bl))) (pss_nil)) (pss_cons (ps_set (i := 8) sc__law_calm.nd rfl (by first | exact Or.inl rfl | exact Or.inr rfl) (pe_cl c_debt_of hr (by decide) (pat_of (W := fun cls d _ H => E cls d H) (L2N.takes_of rfl rfl rfl rfl)) (pa_cons (pv 7) (pa_nil)))) (pss_one (ps_ret (pe_and (pe_cl c__law_integer hr (by decide) (pat_of (W := fun cls d _ H => E cls d H) (L2N.takes_of rfl rfl rfl rfl)) (pa_cons (pv 8) (pa_nil))) (pe_and (pe_cmpR (op_eqA hr) (pv 8) (pe_callB call_lenA (by rfl) T.b_len (by decide +kernel) (pa_cons (pv 4) (pa_nil))) (nomark _)) (pe_one (pe_cl c__law_row hr (by decide) (pat_of (W := fun cls d _ H => E cls d H) (L2N.takes_of rfl rfl rfl rfl)) (pa_cons (pe_mt0 c_Links_outs T.cl_Links hr (by decide) (pat_of (W := fun cls d _ H => E cls d H) (L2N.takes_of rfl rfl rfl rfl)) (pv 7)) (pa_cons (pv 4) (pa_nil))))))))))))))))), rd__law_calm T vs H Q E h⟩
theorem ok_Links___eq__ {f : Addr} {fd : FuncData} (T : Txt K mg) (F : FunD K "__eq__" "Links.__eq__" (defArgs s_Links___eq__) (defBody s_Links___eq__) (defScope s_Links___eq__) [] [] f fd)  : FnOk P w K mg base (L2N.CX P w) 1 f fd ["self", "other"] (sp23_Links___eq__ K) :=
  F.ok sc_Links___eq__ (len_Links___eq__ K) fun cdv A outer s H vs Q E hr h => ⟨t_Links___eq__ K E, pss_one (ps_ret (pe_and (pe_callB call_isi (by rfl) T.b_isinstance (by decide +kernel) (pa_cons (pv 1) (pa_cons (pe_own T.g_Links) (pa_nil)))) (pe_and (pe_cmpR (op_eqA hr) (pe_fld (pv 0) rfl) (pe_fld (pv 1) rfl) (nomark _)) (pe_and (pe_cmpR (op_eqA hr) (pe_fld (pv 0) rfl) (pe_fld (pv 1) rfl) (nomark _)) (pe_one (pe_cmpR (op_eqA hr) (pe_fld (pv 0) rfl) (pe_fld (pv 1) rfl) (nomark _))))))), rd_Links___eq__ T vs H Q E h⟩
theorem ok_Links_is_whole {f : Addr} {fd : FuncData} (T : Txt K mg) (F : FunD K "is_whole" "Links.is_whole" (defArgs s_Links_is_whole) (defBody s_Links_is_whole) (defScope s_Links_is_whole) [] [] f fd) (c_Links___eq__ : Met P w K mg base 1 (He.ga K "Links") "__eq__" ["self", "other"] (sp23_Links___eq__ K)) (m_Links : Mak P w K mg base 4 "Links" (He.ga K "Links") ["self", "size"] (sp_Links___init__ K)) : FnOk P w K mg base (L2N.CX P w) 6 f fd ["self"] (sp23_Links_is_whole K) :=
  F.ok sc_Links_is_whole (len_Links_is_whole K) fun cdv A outer s H vs Q E hr h => ⟨t_Links_is_whole K E, pss_one (ps_ret (pe_cmpR (op_eqO (i := 0) c_Links___eq__ hr (by decide) (pat_of (W := fun cls d _ H => E cls d H) (L2N.takes_of rfl rfl rfl rfl))) (pv 0) (pe_mk m_Links hr (by decide) (pat_of (W := fun cls d _ H => E cls d H) (L2N.takes_of rfl rfl rfl rfl)) (pa_cons (pe_fld (pv 0) rfl) (pa_nil))) (nomark _))), rd_Links_is_whole T vs H Q E h⟩
theorem ok__law_texts {f : Addr} {fd : FuncData} (T : Txt K mg) (F : FunD K "_law_texts" "_law_texts" (defArgs s__law_texts) (defBody s__law_texts) (defScope s__law_texts) [] [] f fd)  : FnOk P w K mg base (L2N.CX P w) 1 f fd ["told", "due"] (sp23__law_texts K) :=
  F.ok sc__law_texts (len__law_texts K) fun cdv A outer s H vs Q E hr h => ⟨t__law_texts K E, pss_cons (ps_if ((pw_or (pt_not (pt_val (pe_callB call_isi (by rfl) T.b_isinstance (by decide +kernel) (pa_cons (pv 0) (pa_cons (pe_ty "list" T.b_list (by decide +kernel)) (pa_nil)))))) (pw_or1 (pt_cmpR (op_neA hr) (pe_callB call_lenA (by rfl) T.b_len (by decide +kernel) (pa_cons (pv 0) (pa_nil))) (pe_callB call_lenA (by rfl) T.b_len (by decide +kernel) (pa_cons (pv 1) (pa_nil))) (nomark _)))).pt) (pss_one (ps_ret (pe_bl))) (pss_nil)) (pss_cons (ps_for (passes_of rfl) rfl (pi_range1 rfl T.b_range (pa_cons (pe_callB call_lenA (by rfl) T.b_len (by decide +kernel) (pa_cons (pv 1) (pa_nil))) (pa_nil))) (pg_name (i := 2) sc__law_texts.nd rfl (by first | exact Or.inl rfl | exact Or.inr rfl)) (pss_one (ps_if ((pw_or (pt_not (pt_val (pe_callB call_isi (by rfl) T.b_isinstance (by decide +kernel) (pa_cons (pe_ix ix_seq (pv 0) (pv 2) (fun _ _ => rfl)) (pa_cons (pe_ty "str" T.b_str (by decide +kernel)) (pa_nil)))))) (pw_or1 (pt_cmpR (op_neA hr) (pe_ix ix_seq (pv 0) (pv 2) (fun _ _ => rfl)) (pe_ix ix_seq (pv 1) (pv 2) (fun _ _ => rfl)) (nomark _)))).pt) (pss_one (ps_ret (pe_bl))) (pss_nil)))) (pss_one (ps_ret (pe_bl)))), rd__law_texts T vs H Q E h⟩
theorem ok__law_is_pair {f : Addr} {fd : FuncData} (T : Txt K mg) (F : FunD K "_law_is_pair" "_law_is_pair" (defArgs s__law_is_pair) (defBody s__law_is_pair) (defScope s__law_is_pair) [] [] f fd) (c__law_integer : Cal P w K mg base 1 "_law_integer" ["told"] (sp__law_integer K)) : FnOk P w K mg base (L2N.CX P w) 2 f fd ["told", "many", "size"] (sp23__law_is_pair K) :=
  F.ok sc__law_is_pair (len__law_is_pair K) fun cdv A outer s H vs Q E hr h => ⟨t__law_is_pair K E, pss_cons (ps_if ((pw_or (pt_not (pt_val (pe_callB call_isi (by rfl) T.b_isinstance (by decide +kernel) (pa_cons (pv 0) (pa_cons (pe_ty "tuple" T.b_tuple (by decide +kernel)) (pa_nil)))))) (pw_or1 (pt_cmpR (op_neA hr) (pe_callB call_lenA (by rfl) T.b_len (by decide +kernel) (pa_cons (pv 0) (pa_nil))) (pe_int) (nomark _)))).pt) (pss_one (ps_ret (pe_bl))) (pss_nil)) (pss_cons (ps_if ((pw_or (pt_not (pt_val (pe_cl c__law_integer hr (by decide) (pat_of (W := fun cls d _ H => E cls d H) (L2N.takes_of rfl rfl rfl rfl)) (pa_cons (pe_ix ix_seq (pv 0) (pe_int) (fun _ _ => rfl)) (pa_nil))))) (pw_or1 (pt_not (pt_val (pe_cl c__law_integer hr (by decide) (pat_of (W := fun cls d _ H => E cls d H) (L2N.takes_of rfl rfl rfl rfl)) (pa_cons (pe_ix ix_seq (pv 0) (pe_int) (fun _ _ => rfl)) (pa_nil))))))).pt) (pss_one (ps_ret (pe_bl))) (pss_nil)) (pss_one (ps_ret (pe_and (pe_cmpR op_le (pe_int) (pe_ix ix_seq (pv 0) (pe_int) (fun _ _ => rfl)) (nomark _)) (pe_and (pe_cmpR op_lt (pe_ix ix_seq (pv 0) (pe_int) (fun _ _ => rfl)) (pv 1) (nomark _)) (pe_and (pe_cmpR op_le (pe_int) (pe_ix ix_seq (pv 0) (pe_int) (fun _ _ => rfl)) (nomark _)) (pe_one (pe_cmpR op_le (pe_ix ix_seq (pv 0) (pe_int) (fun _ _ => rfl)) (pv 2) (nomark _))))))))), rd__law_is_pair T vs H Q E h⟩
theorem ok__law_told_gaps {f : Addr} {fd : FuncData} (T : Txt K mg) (F : FunD K "_law_told_gaps" "_law_told_gaps" (defArgs s__law_told_gaps) (defBody s__law_told_gaps) (defScope s__law_told_gaps) [] [] f fd) (c__law_is_pair : Cal P w K mg base 2 "_law_is_pair" ["told", "many", "size"] (sp23__law_is_pair K)) : FnOk P w K mg base (L2N.CX P w) 3 f fd ["told", "many", "size"] (sp23__law_told_gaps K) :=
  F.ok sc__law_told_gaps (len__law_told_gaps K) fun cdv A outer s H vs Q E hr h => ⟨t__law_told_gaps K E, pss_cons (ps_set (i := 3) sc__law_told_gaps.nd rfl (by first | exact Or.inl rfl | exact Or.inr rfl) (pe_op op_mulA (pe_lst (pa_cons (pe_bl) (pa_nil))) (pe_op op_addA (pv 2) (pe_int)))) (pss_cons (ps_if (pt_not (pt_val (pe_callB call_isi (by rfl) T.b_isinstance (by decide +kernel) (pa_cons (pv 0) (pa_cons (pe_ty "list" T.b_list (by decide +kernel)) (pa_nil)))))) (pss_one (ps_ret (pe_non))) (pss_nil)) (pss_cons (ps_for (passes_of rfl) rfl (pi_range1 rfl T.b_range (pa_cons (pe_callB call_lenA (by rfl) T.b_len (by decide +kernel) (pa_cons (pv 0) (pa_nil))) (pa_nil))) (pg_name (i := 4) sc__law_told_gaps.nd rfl (by first | exact Or.inl rfl | exact Or.inr rfl)) (pss_cons (ps_if (pt_not (pt_val (pe_cl c__law_is_pair hr (by decide) (pat_of (W := fun cls d _ H => E cls d H) (L2N.takes_of rfl rfl rfl rfl)) (pa_cons (pe_ix ix_seq (pv 0) (pv 4) (fun _ _ => rfl)) (pa_cons (pv 1) (pa_cons (pv 2) (pa_nil))))))) (pss_one (ps_ret (pe_non))) (pss_nil)) (pss_cons (ps_if ((pw_and (pt_cmpR op_gt (pv 4) (pe_int) (nomark _)) (pw_and1 (pt_cmpR (op_leTA hr) (pe_tup (pa_cons (pe_ix ix_seq (pe_ix ix_seq (pv 0) (pv 4) (fun _ _ => rfl)) (pe_int) (fun _ _ => rfl)) (pa_cons (pe_ix ix_seq (pe_ix ix_seq (pv 0) (pv 4) (fun _ _ => rfl)) (pe_int) (fun _ _ => rfl)) (pa_nil)))) (pe_tup (pa_cons (pe_ix ix_seq (pe_ix ix_seq (pv 0) (pe_op op_sub (pv 4) (pe_int)) (fun _ _ => rfl)) (pe_int) (fun _ _ => rfl)) (pa_cons (pe_ix ix_seq (pe_ix ix_seq (pv 0) (pe_op op_sub (pv 4) (pe_int)) (fun _ _ => rfl)) (pe_int) (fun _ _ => rfl)) (pa_nil)))) (nomark _)))).pt) (pss_one (ps_ret (pe_non))) (pss_nil)) (pss_one (ps_asg (pe_bl) (pg_sub (pv 3) (pe_ix ix_seq (pe_ix ix_seq (pv 0) (pv 4) (fun _ _ => rfl)) (pe_int) (fun _ _ => rfl)) set_list)))))) (pss_one (ps_ret (pv 3))))), rd__law_told_gaps T vs H Q E h⟩
theorem ok_is_complete {f : Addr} {fd : FuncData} (T : Txt K mg) (F : FunD K "is_complete" "is_complete" (defArgs s_is_complete) (defBody s_is_complete) (defScope s_is_complete) [] [] f fd) (c_Links_outs : Met P w K mg base 1 (He.ga K "Links") "outs" ["self"] (sp_Links_outs K)) (c__check_once : Cal P w K mg base 9 "_check_once" ["size", "log"] (sp__check_once K)) (c_replay : Cal P w K mg base 8 "replay" ["size", "log"] (sp_replay K)) : FnOk P w K mg base (L2N.CX P w) 10 f fd ["size", "log"] (sp_is_complete K) :=
  F.ok sc_is_complete (len_is_complete K) fun cdv A outer s H vs Q E hr h => ⟨t_is_complete K E, pss_cons (ps_expr (pe_cl c__check_once hr (by decide) (pat_of (W := fun cls d _ H => E cls d H) (L2N.takes_of rfl rfl rfl rfl)) (pa_cons (pv 0) (pa_cons (pv 1) (pa_nil))))) (pss_one (ps_ret (pe_cmpR (op_eqA hr) (pe_callB call_lenA (by rfl) T.b_len (by decide +kernel) (pa_cons (pe_mt0 c_Links_outs T.cl_Links hr (by decide) (pat_of (W := fun cls d _ H => E cls d H) (L2N.takes_of rfl rfl rfl rfl)) (pe_cl c_replay hr (by decide) (pat_of (W := fun cls d _ H => E cls d H) (L2N.takes_of rfl rfl rfl rfl)) (pa_cons (pv 0) (pa_cons (pv 1) (pa_nil))))) (pa_nil))) (pe_int) (nomark _)))), rd_is_complete T vs H Q E h⟩
theorem ok__law_complete {f : Addr} {fd : FuncData} (T : Txt K mg) (F : FunD K "_law_complete" "_law_complete" (defArgs s__law_complete) (defBody s__law_complete) (defScope s__law_complete) [] [] f fd) (c_Links_is_whole : Met P w K mg base 6 (He.ga K "Links") "is_whole" ["self"] (sp23_Links_is_whole K)) (c__law_after : Cal P w K mg base 2 "_law_after" ["size", "log"] (sp23__law_after K)) (c__law_states : Cal P w K mg base 1 "_law_states" ["size", "book"] (sp23__law_states K)) (c__law_texts : Cal P w K mg base 1 "_law_texts" ["told", "due"] (sp23__law_texts K)) (c__law_told_gaps : Cal P w K mg base 3 "_law_told_gaps" ["told", "many", "size"] (sp23__law_told_gaps K)) (c_gap_states : Cal P w K mg base 5 "gap_states" ["links"] (sp_gap_states K)) (c_is_complete : Cal P w K mg base 10 "is_complete" ["size", "log"] (sp_is_complete K)) (c_late_writes : Cal P w K mg base 10 "late_writes" ["size", "log"] (sp_late_writes K)) (c_replay : Cal P w K mg base 8 "replay" ["size", "log"] (sp_replay K)) : FnOk P w K mg base (L2N.CX P w) 11 f fd ["size", "log"] (sp23__law_complete K) :=
  F.ok sc__law_complete (len__law_complete K) fun cdv A outer s H vs Q E hr h => ⟨t__law_complete K E, pss_cons (ps_set (i := 2) sc__law_complete.nd rfl (by first | exact Or.inl rfl | exact Or.inr rfl) (pe_cl c__law_states hr (by decide) (pat_of (W := fun cls d _ H => E cls d H) (L2N.takes_of rfl rfl rfl rfl)) (pa_cons (pv 0) (pa_cons (pe_cl c__law_after hr (by decide) (pat_of (W := fun cls d _ H => E cls d H) (L2N.takes_of rfl rfl rfl rfl)) (pa_cons (pv 0) (pa_cons (pv 1) (pa_nil)))) (pa_nil))))) (pss_cons (ps_set (i := 3) sc__law_complete.nd rfl (by first | exact Or.inl rfl | exact Or.inr rfl) (pe_callTy call_listA (by rfl) T.b_list (by decide +kernel) (pa_cons (pv 1) (pa_nil)))) (pss_cons (ps_set (i := 4) sc__law_complete.nd rfl (by first | exact Or.inl rfl | exact Or.inr rfl) (pe_cl c__law_told_gaps hr (by decide) (pat_of (W := fun cls d _ H => E cls d H) (L2N.takes_of rfl rfl rfl rfl)) (pa_cons (pe_cl c_late_writes hr (by decide) (pat_of (W := fun cls d _ H => E cls d H) (L2N.takes_of rfl rfl rfl rfl)) (pa_cons (pv 0) (pa_cons (pv 3) (pa_nil)))) (pa_cons (pe_callB call_lenA (by rfl) T.b_len (by decide +kernel) (pa_cons (pv 1) (pa_nil))) (pa_cons (pv 0) (pa_nil)))))) (pss_cons (ps_if ((pw_or (pt_cmpR op_isNA (pv 4) (pe_non) (nomark _)) (pw_or1 (pt_cmpR (op_neA hr) (pv 3) (pv 1) (nomark _)))).pt) (pss_one (ps_ret (pe_bl))) (pss_nil)) (pss_cons (ps_for (passes_of rfl) rfl (pi_range1 rfl T.b_range (pa_cons (pe_op op_addA (pv 0) (pe_int)) (pa_nil))) (pg_name (i := 5) sc__law_complete.nd rfl (by first | exact Or.inl rfl | exact Or.inr rfl)) (pss_one (ps_if (pt_cmpR (op_eqA hr) (pe_ix ix_seq (pv 4) (pv 5) (fun _ _ => rfl)) (pe_cmpR (op_eqA hr) (pe_ix ix_seq (pv 2) (pv 5) (fun _ _ => rfl)) (pe_str) (nomark _)) (nomark _)) (pss_one (ps_ret (pe_bl))) (pss_nil)))) (pss_cons (ps_set (i := 6) sc__law_complete.nd rfl (by first | exact Or.inl rfl | exact Or.inr rfl) (pe_cl c_replay hr (by decide) (pat_of (W := fun cls d _ H => E cls d H) (L2N.takes_of rfl rfl rfl rfl)) (pa_cons (pv 0) (pa_cons (pv 3) (pa_nil))))) (pss_cons (ps_if ((pw_or (pt_not (pt_val (pe_cl c__law_texts hr (by decide) (pat_of (W := fun cls d _ H => E cls d H) (L2N.takes_of rfl rfl rfl rfl)) (pa_cons (pe_cl c_gap_states hr (by decide) (pat_of (W := fun cls d _ H => E cls d H) (L2N.takes_of rfl rfl rfl rfl)) (pa_cons (pv 6) (pa_nil))) (pa_cons (pv 2) (pa_nil)))))) (pw_or1 (pt_cmpR (op_neA hr) (pv 3) (pv 1) (nomark _)))).pt) (pss_one (ps_ret (pe_bl))) (pss_nil)) (pss_cons (ps_if (pt_cmpR op_isnotB (pe_cl c_is_complete hr (by decide) (pat_of (W := fun cls d _ H => E cls d H) (L2N.takes_of rfl rfl rfl rfl)) (pa_cons (pv 0) (pa_cons (pv 3) (pa_nil)))) (pe_bl) (nomark _)) (pss_one (ps_ret (pe_bl))) (pss_nil)) (pss_cons (ps_if (pt_cmpR op_in_seq (pe_bl) (pv 4) (rfl)) (pss_one (ps_ret (pe_cmpR op_isB (pe_mt0 c_Links_is_whole T.cl_Links hr (by decide) (pat_of (W := fun cls d _ H => E cls d H) (L2N.takes_of rfl rfl rfl rfl)) (pv 6)) (pe_bl) (nomark _)))) (pss_nil)) (pss_one (ps_ret (pe_cmpR op_isB (pe_mt0 c_Links_is_whole T.cl_Links hr (by decide) (pat_of (W := fun cls d _ H => E cls d H) (L2N.takes_of rfl rfl rfl rfl)) (pv 6)) (pe_bl) (nomark _)))))))))))), rd__law_complete T vs H Q E h⟩
theorem ok__law_late {f : Addr} {fd : FuncData} (T : Txt K mg) (F : FunD K "_law_late" "_law_late" (defArgs s__law_late) (defBody s__law_late) (defScope s__law_late) [] [] f fd)  : FnOk P w K mg base (L2N.CX P w) 1 f fd ["book", "node"] (sp__law_late K) :=
  F.ok sc__law_late (len__law_late K) fun cdv A outer s H vs Q E hr h => ⟨t__law_late K E, pss_cons (ps_set (i := 2) sc__law_late.nd rfl (by first | exact Or.inl rfl | exact Or.inr rfl) (pe_lst (pa_nil))) (pss_cons (ps_set (i := 3) sc__law_late.nd rfl (by first | exact Or.inl rfl | exact Or.inr rfl) (pe_ix ix_seq (pe_ix ix_seq (pv 0) (pe_int) (fun _ _ => rfl)) (pv 1) (fun _ _ => rfl))) (pss_cons (ps_set (i := 4) sc__law_late.nd rfl (by first | exact Or.inl rfl | exact Or.inr rfl) (pe_ix ix_seq (pe_ix ix_seq (pv 0) (pe_int) (fun _ _ => rfl)) (pv 1) (fun _ _ => rfl))) (pss_cons (ps_if ((pw_and (pt_cmpR (op_neA hr) (pv 3) (pe_op op_sub (pv 1) (pe_int)) (nomark _)) (pw_and1 (pt_cmpR (op_eqA hr) (pe_ix ix_seq (pe_ix ix_seq (pv 0) (pe_int) (fun _ _ => rfl)) (pe_op op_addA (pv 3) (pe_int)) (fun _ _ => rfl)) (pe_int) (nomark _)))).pt) (pss_one (ps_expr (pe_bm PySem.F.plainAttrs_list PySem.F.slot_list_append PySem.F.type_list_append mt_append (pv 2) (pa_cons (pv 3) (pa_nil))))) (pss_nil)) (pss_cons (ps_if ((pw_and (pt_cmpR (op_neA hr) (pv 4) (pe_op op_addA (pv 1) (pe_int)) (nomark _)) (pw_and1 (pt_cmpR (op_eqA hr) (pe_ix ix_seq (pe_ix ix_seq (pv 0) (pe_int) (fun _ _ => rfl)) (pe_op op_sub (pv 4) (pe_int)) (fun _ _ => rfl)) (pe_int) (nomark _)))).pt) (pss_one (ps_expr (pe_bm PySem.F.plainAttrs_list PySem.F.slot_list_append PySem.F.type_list_append mt_append (pv 2) (pa_cons (pe_op op_sub (pv 4) (pe_int)) (pa_nil))))) (pss_nil)) (pss_one (ps_ret (pv 2))))))), rd__law_late T vs H Q E h⟩
theorem ok__law_first_late {f : Addr} {fd : FuncData} (T : Txt K mg) (F : FunD K "_law_first_late" "_law_first_late" (defArgs s__law_first_late) (defBody s__law_first_late) (defScope s__law_first_late) [] [] f fd) (c__law_late : Cal P w K mg base 1 "_law_late" ["book", "node"] (sp__law_late K)) (c__law_start : Cal P w K mg base 1 "_law_start" ["size"] (sp__law_start K)) (c__law_step : Cal P w K mg base 1 "_law_step" ["book", "operation"] (sp22__law_step K)) : FnOk P w K mg base (L2N.CX P w) 2 f fd ["size", "log"] (sp23__law_first_late K) :=
  F.ok sc__law_first_late (len__law_first_late K) fun cdv A outer s H vs Q E hr h => ⟨t__law_first_late K E, pss_cons (ps_set (i := 2) sc__law_first_late.nd rfl (by first | exact Or.inl rfl | exact Or.inr rfl) (pe_cl c__law_start hr (by decide) (pat_of (W := fun cls d _ H => E cls d H) (L2N.takes_of rfl rfl rfl rfl)) (pa_cons (pv 0) (pa_nil)))) (pss_cons (ps_for (passes_of rfl) rfl (pi_range1 rfl T.b_range (pa_cons (pe_callB call_lenA (by rfl) T.b_len (by decide +kernel) (pa_cons (pv 1) (pa_nil))) (pa_nil))) (pg_name (i := 3) sc__law_first_late.nd rfl (by first | exact Or.inl rfl | exact Or.inr rfl)) (pss_cons (ps_if (pt_cmpR op_gt (pe_callB call_lenA (by rfl) T.b_len (by decide +kernel) (pa_cons (pe_cl c__law_late hr (by decide) (pat_of (W := fun cls d _ H => E cls d H) (L2N.takes_of rfl rfl rfl rfl)) (pa_cons (pv 2) (pa_cons (pe_callB call_absA (by rfl) T.b_abs (by decide +kernel) (pa_cons (pe_ix ix_seq (pv 1) (pv 3) (fun _ _ => rfl)) (pa_nil))) (pa_nil)))) (pa_nil))) (pe_int) (nomark _)) (pss_one (ps_ret (pv 3))) (pss_nil)) (pss_one (ps_expr (pe_cl c__law_step hr (by decide) (pat_of (W := fun cls d _ H => E cls d H) (L2N.takes_of rfl rfl rfl rfl)) (pa_cons (pv 2) (pa_cons (pe_ix ix_seq (pv 1) (pv 3) (fun _ _ => rfl)) (pa_nil)))))))) (pss_one (ps_ret (pe_callB call_lenA (by rfl) T.b_len (by decide +kernel) (pa_cons (pv 1) (pa_nil)))))), rd__law_first_late T vs H Q E h⟩
theorem ok__law_mixed {f : Addr} {fd : FuncData} (T : Txt K mg) (F : FunD K "_law_mixed" "_law_mixed" (defArgs s__law_mixed) (defBody s__law_mixed) (defScope s__law_mixed) [] [] f fd)  : FnOk P w K mg base (L2N.CX P w) 1 f fd ["cell", "turn"] (sp__law_mixed K) :=
  F.ok sc__law_mixed (len__law_mixed K) fun cdv A outer s H vs Q E hr h => ⟨t__law_mixed K E, pss_cons (ps_set (i := 2) sc__law_mixed.nd rfl (by first | exact Or.inl rfl | exact Or.inr rfl) (pe_op op_mod (pe_callTy call_intA (by rfl) T.b_int (by decide +kernel) (pa_cons (pe_op op_addA (pe_op op_addA (pe_op op_mulA (pv 0) (pe_int)) (pe_op op_mulA (pv 1) (pe_int))) (pe_int)) (pa_nil))) (pe_int))) (pss_cons (ps_set (i := 3) sc__law_mixed.nd rfl (by first | exact Or.inl rfl | exact Or.inr rfl) (pe_op op_mod (pe_callTy call_intA (by rfl) T.b_int (by decide +kernel) (pa_cons (pe_op op_addA (pe_op op_addA (pe_op op_mulA (pv 2) (pv 2)) (pe_op op_mulA (pv 1) (pe_int))) (pe_int)) (pa_nil))) (pe_int))) (pss_one (ps_ret (pe_op op_fdiv (pe_op op_mod (pe_callTy call_intA (by rfl) T.b_int (by decide +kernel) (pa_cons (pe_op op_addA (pe_op op_mulA (pv 3) (pv 3)) (pv 2)) (pa_nil))) (pe_int)) (pe_int))))), rd__law_mixed T vs H Q E h⟩
theorem ok__law_take {f : Addr} {fd : FuncData} (T : Txt K mg) (F : FunD K "_law_take" "_law_take" (defArgs s__law_take) (defBody s__law_take) (defScope s__law_take) [] [] f fd) (c__law_mixed : Cal P w K mg base 1 "_law_mixed" ["cell", "turn"] (sp__law_mixed K)) : FnOk P w K mg base (L2N.CX P w) 2 f fd ["box", "many"] (sp__law_take K) :=
  F.ok sc__law_take (len__law_take K) fun cdv A outer s H vs Q E hr h => ⟨t__law_take K E, pss_cons (ps_set (i := 2) sc__law_take.nd rfl (by first | exact Or.inl rfl | exact Or.inr rfl) (pe_ix ix_seq (pv 0) (pe_int) (fun _ _ => rfl))) (pss_cons (ps_if ((pw_and (pt_cmpR op_lt (pe_ix ix_seq (pv 0) (pe_int) (fun _ _ => rfl)) (pe_int) (nomark _)) (pw_and1 (pt_cmpR op_gt (pe_callB call_lenA (by rfl) T.b_len (by decide +kernel) (pa_cons (pv 2) (pa_nil))) (pe_int) (nomark _)))).pt) (pss_cons (ps_set (i := 3) sc__law_take.nd rfl (by first | exact Or.inl rfl | exact Or.inr rfl) (pe_bm PySem.F.plainAttrs_list PySem.F.slot_list_pop PySem.F.type_list_pop mt_popAt (pv 2) (pa_cons (pe_int) (pa_nil)))) (pss_cons (ps_if (pt_cmpR op_lt (pv 3) (pe_op op_pow (pe_int) (pe_int)) (nomark _)) (pss_cons (ps_asg (pe_op op_addA (pe_ix ix_seq (pv 0) (pe_int) (fun _ _ => rfl)) (pe_int)) (pg_sub (pv 0) (pe_int) set_list)) (pss_one (ps_ret (pe_op op_mod (pe_callTy call_intA (by rfl) T.b_int (by decide +kernel) (pa_cons (pe_cl c__law_mixed hr (by decide) (pat_of (W := fun cls d _ H => E cls d H) (L2N.takes_of rfl rfl rfl rfl)) (pa_cons (pv 3) (pa_cons (pe_ix ix_seq (pv 0) (pe_int) (fun _ _ => rfl)) (pa_nil)))) (pa_nil))) (pv 1))))) (pss_nil)) (pss_one (ps_asg (pv 3) (pg_sub (pv 0) (pe_int) set_list))))) (pss_nil)) (pss_cons (ps_if (pt_cmpR op_gt (pe_ix ix_seq (pv 0) (pe_int) (fun _ _ => rfl)) (pe_int) (nomark _)) (pss_cons (ps_set (i := 4) sc__law_take.nd rfl (by first | exact Or.inl rfl | exact Or.inr rfl) (pe_op op_mod (pe_callTy call_intA (by rfl) T.b_int (by decide +kernel) (pa_cons (pe_ix ix_seq (pv 0) (pe_int) (fun _ _ => rfl)) (pa_nil))) (pv 1))) (pss_cons (ps_asg (pe_op op_fdiv (pe_ix ix_seq (pv 0) (pe_int) (fun _ _ => rfl)) (pv 1)) (pg_sub (pv 0) (pe_int) set_list)) (pss_one (ps_ret (pv 4))))) (pss_nil)) (pss_cons (ps_asg (pe_op op_addA (pe_ix ix_seq (pv 0) (pe_int) (fun _ _ => rfl)) (pe_int)) (pg_sub (pv 0) (pe_int) set_list)) (pss_one (ps_ret (pe_op op_mod (pe_callTy call_intA (by rfl) T.b_int (by decide +kernel) (pa_cons (pe_cl c__law_mixed hr (by decide) (pat_of (W := fun cls d _ H => E cls d H) (L2N.takes_of rfl rfl rfl rfl)) (pa_cons (pe_ix ix_seq (pv 0) (pe_int) (fun _ _ => rfl)) (pa_cons (pe_ix ix_seq (pv 0) (pe_int) (fun _ _ => rfl)) (pa_nil)))) (pa_nil))) (pv 1))))))), rd__law_take T vs H Q E h⟩
theorem ok__law_pattern {f : Addr} {fd : FuncData} (T : Txt K mg) (F : FunD K "_law_pattern" "_law_pattern" (defArgs s__law_pattern) (defBody s__law_pattern) (defScope s__law_pattern) [] [] f fd) (c__law_take : Cal P w K mg base 2 "_law_take" ["box", "many"] (sp__law_take K)) : FnOk P w K mg base (L2N.CX P w) 3 f fd ["box", "low", "high"] (sp__law_pattern K) :=
  F.ok sc__law_pattern (len__law_pattern K) fun cdv A outer s H vs Q E hr h => ⟨t__law_pattern K E, pss_cons (ps_if ((pw_or (pt_cmpR (op_eqA hr) (pe_cl c__law_take hr (by decide) (pat_of (W := fun cls d _ H => E cls d H) (L2N.takes_of rfl rfl rfl rfl)) (pa_cons (pv 0) (pa_cons (pe_int) (pa_nil)))) (pe_int) (nomark _)) (pw_or1 (pt_cmpR op_ge (pv 1) (pv 2) (nomark _)))).pt) (pss_one (ps_ret (pe_lst (pa_nil)))) (pss_nil)) (pss_cons (ps_set (i := 3) sc__law_pattern.nd rfl (by first | exact Or.inl rfl | exact Or.inr rfl) (pe_op op_addA (pv 1) (pe_cl c__law_take hr (by decide) (pat_of (W := fun cls d _ H => E cls d H) (L2N.takes_of rfl rfl rfl rfl)) (pa_cons (pv 0) (pa_cons (pe_op op_addA (pe_op op_sub (pv 2) (pv 1)) (pe_int)) (pa_nil)))))) (pss_cons (ps_set (i := 4) sc__law_pattern.nd rfl (by first | exact Or.inl rfl | exact Or.inr rfl) (pe_op op_addA (pv 3) (pe_int))) (pss_cons (ps_if ((pw_or (pt_cmpR op_gt (pv 4) (pv 2) (nomark _)) (pw_or1 ((pw_and (pt_cmpR op_gt (pv 3) (pv 1) (nomark _)) (pw_and1 (pt_cmpR (op_eqA hr) (pe_cl c__law_take hr (by decide) (pat_of (W := fun cls d _ H => E cls d H) (L2N.takes_of rfl rfl rfl rfl)) (pa_cons (pv 0) (pa_cons (pe_int) (pa_nil)))) (pe_int) (nomark _)))).pt))).pt) (pss_one (ps_set (i := 4) sc__law_pattern.nd rfl (by first | exact Or.inl rfl | exact Or.inr rfl) (pe_op op_sub (pv 3) (pe_int)))) (pss_nil)) (pss_one (ps_ret (pe_lst (pa_cons (pv 3) (pa_cons (pv 4) (pa_cons (pv 3) (pa_nil)))))))))), rd__law_pattern T vs H Q E h⟩
theorem ok__law_range {f : Addr} {fd : FuncData} (T : Txt K mg) (F : FunD K "_law_range" "_law_range" (defArgs s__law_range) (defBody s__law_range) (defScope s__law_range) [] [] f fd) (c__law_take : Cal P w K mg base 2 "_law_take" ["box", "many"] (sp__law_take K)) : FnOk P w K mg base (L2N.CX P w) 3 f fd ["box", "size"] (sp__law_range K) :=
  F.ok sc__law_range (len__law_range K) fun cdv A outer s H vs Q E hr h => ⟨t__law_range K E, pss_cons (ps_if ((pw_or (pt_cmpR op_lt (pv 1) (pe_int) (nomark _)) (pw_or1 (pt_cmpR (op_eqA hr) (pe_cl c__law_take hr (by decide) (pat_of (W := fun cls d _ H => E cls d H) (L2N.takes_of rfl rfl rfl rfl)) (pa_cons (pv 0) (pa_cons (pe_int) (pa_nil)))) (pe_int) (nomark _)))).pt) (pss_one (ps_ret (pe_lst (pa_cons (pe_int) (pa_cons (pv 1) (pa_nil)))))) (pss_nil)) (pss_cons (ps_set (i := 2) sc__law_range.nd rfl (by first | exact Or.inl rfl | exact Or.inr rfl) (pe_op op_addA (pe_int) (pe_cl c__law_take hr (by decide) (pat_of (W := fun cls d _ H => E cls d H) (L2N.takes_of rfl rfl rfl rfl)) (pa_cons (pv 0) (pa_cons (pe_op op_sub (pv 1) (pe_int)) (pa_nil)))))) (pss_one (ps_ret (pe_lst (pa_cons (pv 2) (pa_cons (pe_callB (call_min2A rfl) (by rfl) T.b_min (by decide +kernel) (pa_cons (pv 1) (pa_cons (pe_op op_addA (pe_op op_addA (pv 2) (pe_int)) (pe_cl c__law_take hr (by decide) (pat_of (W := fun cls d _ H => E cls d H) (L2N.takes_of rfl rfl rfl rfl)) (pa_cons (pv 0) (pa_cons (pe_int) (pa_nil))))) (pa_nil)))) (pa_nil))))))), rd__law_range T vs H Q E h⟩
theorem ok__law_log {f : Addr} {fd : FuncData} (T : Txt K mg) (F : FunD K "_law_log" "_law_log" (defArgs s__law_log) (defBody s__law_log) (defScope s__law_log) [] [] f fd) (c__law_late : Cal P w K mg base 1 "_law_late" ["book", "node"] (sp__law_late K)) (c__law_pattern : Cal P w K mg base 3 "_law_pattern" ["box", "low", "high"] (sp__law_pattern K)) (c__law_range : Cal P w K mg base 3 "_law_range" ["box", "size"] (sp__law_range K)) (c__law_start : Cal P w K mg base 1 "_law_start" ["size"] (sp__law_start K)) (c__law_step : Cal P w K mg base 1 "_law_step" ["book", "operation"] (sp22__law_step K)) (c__law_take : Cal P w K mg base 2 "_law_take" ["box", "many"] (sp__law_take K)) : FnOk P w K mg base (L2N.CX P w) 4 f fd ["box", "size"] (sp23__law_log K) :=
  F.ok sc__law_log (len__law_log K) fun cdv A outer s H vs Q E hr h => ⟨t__law_log K E, pss_cons (ps_set (i := 2) sc__law_log.nd rfl (by first | exact Or.inl rfl | exact Or.inr rfl) (pe_cl c__law_range hr (by decide) (pat_of (W := fun cls d _ H => E cls d H) (L2N.takes_of rfl rfl rfl rfl)) (pa_cons (pv 0) (pa_cons (pv 1) (pa_nil))))) (pss_cons (ps_set (i := 3) sc__law_log.nd rfl (by first | exact Or.inl rfl | exact Or.inr rfl) (pe_op op_mulA (pe_int) (pe_op op_addA (pe_op op_sub (pe_ix ix_seq (pv 2) (pe_int) (fun _ _ => rfl)) (pe_ix ix_seq (pv 2) (pe_int) (fun _ _ => rfl))) (pe_int)))) (pss_cons (ps_set (i := 4) sc__law_log.nd rfl (by first | exact Or.inl rfl | exact Or.inr rfl) (pe_callB (call_max2A rfl) (by rfl) T.b_max (by decide +kernel) (pa_cons (pe_cl c__law_take hr (by decide) (pat_of (W := fun cls d _ H => E cls d H) (L2N.takes_of rfl rfl rfl rfl)) (pa_cons (pv 0) (pa_cons (pe_op op_addA (pv 3) (pe_int)) (pa_nil)))) (pa_cons (pe_cl c__law_take hr (by decide) (pat_of (W := fun cls d _ H => E cls d H) (L2N.takes_of rfl rfl rfl rfl)) (pa_cons (pv 0) (pa_cons (pe_op op_addA (pv 3) (pe_int)) (pa_nil)))) (pa_nil))))) (pss_cons (ps_set (i := 5) sc__law_log.nd rfl (by first | exact Or.inl rfl | exact Or.inr rfl) (pe_ix ix_seq (pe_lst (pa_cons (pe_int) (pa_cons (pe_int) (pa_cons (pe_int) (pa_cons (pe_int) (pa_cons (pe_int) (pa_cons (pe_int) (pa_cons (pe_int) (pa_cons (pe_int) (pa_nil)))))))))) (pe_cl c__law_take hr (by decide) (pat_of (W := fun cls d _ H => E cls d H) (L2N.takes_of rfl rfl rfl rfl)) (pa_cons (pv 0) (pa_cons (pe_int) (pa_nil)))) (fun _ _ => rfl))) (pss_cons (ps_set (i := 6) sc__law_log.nd rfl (by first | exact Or.inl rfl | exact Or.inr rfl) (pe_cl c__law_take hr (by decide) (pat_of (W := fun cls d _ H => E cls d H) (L2N.takes_of rfl rfl rfl rfl)) (pa_cons (pv 0) (pa_cons (pe_op op_addA (pv 3) (pe_int)) (pa_nil))))) (pss_cons (ps_set (i := 7) sc__law_log.nd rfl (by first | exact Or.inl rfl | exact Or.inr rfl) (pe_cl c__law_pattern hr (by decide) (pat_of (W := fun cls d _ H => E cls d H) (L2N.takes_of rfl rfl rfl rfl)) (pa_cons (pv 0) (pa_cons (pe_ix ix_seq (pv 2) (pe_int) (fun _ _ => rfl)) (pa_cons (pe_ix ix_seq (pv 2) (pe_int) (fun _ _ => rfl)) (pa_nil)))))) (pss_cons (ps_set (i := 8) sc__law_log.nd rfl (by first | exact Or.inl rfl | exact Or.inr rfl) (pe_cl c__law_start hr (by decide) (pat_of (W := fun cls d _ H => E cls d H) (L2N.takes_of rfl rfl rfl rfl)) (pa_cons (pv 1) (pa_nil)))) (pss_cons (ps_set (i := 9) sc__law_log.nd rfl (by first | exact Or.inl rfl | exact Or.inr rfl) (pe_lst (pa_nil))) (pss_cons (ps_set (i := 10) sc__law_log.nd rfl (by first | exact Or.inl rfl | exact Or.inr rfl) (pe_cl c__law_take hr (by decide) (pat_of (W := fun cls d _ H => E cls d H) (L2N.takes_of rfl rfl rfl rfl)) (pa_cons (pv 0) (pa_cons (pe_op op_addA (pv 1) (pe_int)) (pa_nil))))) (pss_cons (ps_for (passes_of rfl) rfl (pi_range1 rfl T.b_range (pa_cons (pv 3) (pa_nil))) (pg_name (i := 11) sc__law_log.nd rfl (by first | exact Or.inl rfl | exact Or.inr rfl)) (pss_cons (ps_setLc (i := 12) (own := [("x", 16)]) (g := gName 16) (tt := tOr (tTest (tOp (rEqA K) (tOp (rIx K) (tOp (rIx K) (tVar 8) (tC (.int 2))) (tVar 16)) (tC (.int 1)))) (tAnd (tTest (tOp rLtA (tVar 11) (tVar 4))) (tTest (tOp (rEqA K) (tOp (rIx K) (tOp (rIx K) (tVar 8) (tC (.int 2))) (tVar 16)) (tC (.int 0)))))) (te := tVar 16) rfl sc__law_log.nd rfl rfl (sw_true rfl rfl rfl (by decide +kernel)) (pi_range2 rfl T.b_range (pa_cons (pe_ix ix_seq (pv 2) (pe_int) (fun _ _ => rfl)) (pa_cons (pe_op op_addA (pe_ix ix_seq (pv 2) (pe_int) (fun _ _ => rfl)) (pe_int)) (pa_nil)))) (blkOk_by (own := [("x", 16)]) (N := ["box", "size", "ends", "many", "steps", "care", "slip", "pattern", "book", "log", "node", "k", "free", "late", "turn", "near", "x"]) (sc := defScope s__law_log) (by decide +kernel)) (fun _ _ _ _ _ => pg_name (i := 16) sc__law_log.nd rfl (by first | exact Or.inl rfl | exact Or.inr rfl)) (fun _ _ _ _ _ => pts_one ((pw_or (pt_cmpR (op_eqA hr) (pe_ix ix_seq (pe_ix ix_seq (pv 8) (pe_int) (fun _ _ => rfl)) (pv 16) (fun _ _ => rfl)) (pe_int) (nomark _)) (pw_or1 ((pw_and (pt_cmpR op_lt (pv 11) (pv 4) (nomark _)) (pw_and1 (pt_cmpR (op_eqA hr) (pe_ix ix_seq (pe_ix ix_seq (pv 8) (pe_int) (fun _ _ => rfl)) (pv 16) (fun _ _ => rfl)) (pe_int) (nomark _)))).pt))).pt)) (fun _ _ _ _ _ => pv 16)) (pss_cons (ps_if (pt_cmpR (op_eqA hr) (pe_callB call_lenA (by rfl) T.b_len (by decide +kernel) (pa_cons (pv 12) (pa_nil))) (pe_int) (nomark _)) (pss_one (ps_break)) (pss_nil)) (pss_cons (ps_set (i := 13) sc__law_log.nd rfl (by first | exact Or.inl rfl | exact Or.inr rfl) (pe_lc (own := [("x", 16)]) (g := gName 16) (tt := tTest (tOp rGtA (tCB (rLenA K) (tCons (tCl (sp__law_late K) (fun _ => E0) (tCons (tVar 8) (tCons (tVar 16) (tNil)))) (tNil))) (tC (.int 0)))) (te := tVar 16) rfl sc__law_log.nd (pi_list (pv 12)) (blkOk_by (own := [("x", 16)]) (N := ["box", "size", "ends", "many", "steps", "care", "slip", "pattern", "book", "log", "node", "k", "free", "late", "turn", "near", "x"]) (sc := defScope s__law_log) (by decide +kernel)) (fun _ _ _ _ _ => pg_name (i := 16) sc__law_log.nd rfl (by first | exact Or.inl rfl | exact Or.inr rfl)) (fun _ _ _ _ _ => pts_one (pt_cmpR op_gt (pe_callB call_lenA (by rfl) T.b_len (by decide +kernel) (pa_cons (pe_cl c__law_late hr (by decide) (pat_no) (pa_cons (pv 8) (pa_cons (pv 16) (pa_nil)))) (pa_nil))) (pe_int) (nomark _))) (fun _ _ _ _ _ => pv 16))) (pss_cons (ps_set (i := 14) sc__law_log.nd rfl (by first | exact Or.inl rfl | exact Or.inr rfl) (pe_cl c__law_take hr (by decide) (pat_of (W := fun cls d _ H => E cls d H) (L2N.takes_of rfl rfl rfl rfl)) (pa_cons (pv 0) (pa_cons (pe_int) (pa_nil))))) (pss_cons (ps_if ((pw_and (pt_cmpR op_lt (pv 11) (pv 4) (nomark _)) (pw_and1 (pt_cmpR op_lt (pv 11) (pe_callB call_lenA (by rfl) T.b_len (by decide +kernel) (pa_cons (pv 7) (pa_nil))) (nomark _)))).pt) (pss_one (ps_set (i := 12) sc__law_log.nd rfl (by first | exact Or.inl rfl | exact Or.inr rfl) (pe_lst (pa_cons (pe_ix ix_seq (pv 7) (pv 11) (fun _ _ => rfl)) (pa_nil))))) (pss_one (ps_if ((pw_and ((pw_or (pt_cmpR (op_eqA hr) (pv 5) (pe_int) (nomark _)) (pw_or1 ((pw_and (pt_cmpR (op_eqA hr) (pv 5) (pe_int) (nomark _)) (pw_and1 (pt_cmpR op_ge (pv 11) (pv 6) (nomark _)))).pt))).pt) (pw_and (pt_cmpR op_lt (pv 14) (pe_int) (nomark _)) (pw_and1 (pt_cmpR op_gt (pe_callB call_lenA (by rfl) T.b_len (by decide +kernel) (pa_cons (pv 13) (pa_nil))) (pe_int) (nomark _))))).pt) (pss_cons (ps_set (i := 12) sc__law_log.nd rfl (by first | exact Or.inl rfl | exact Or.inr rfl) (pv 13)) (pss_one (ps_set (i := 6) sc__law_log.nd rfl (by first | exact Or.inl rfl | exact Or.inr rfl) (pv 3)))) (pss_one (ps_if (pt_cmpR op_gt (pv 5) (pe_int) (nomark _)) (pss_cons (ps_if ((pw_and (pt_cmpR op_gt (pv 5) (pe_int) (nomark _)) (pw_and1 (pt_cmpR op_lt (pe_callB call_lenA (by rfl) T.b_len (by decide +kernel) (pa_cons (pv 13) (pa_nil))) (pe_callB call_lenA (by rfl) T.b_len (by decide +kernel) (pa_cons (pv 12) (pa_nil))) (nomark _)))).pt) (pss_one (ps_setLc (i := 12) (own := [("x", 16)]) (g := gName 16) (tt := tTest (tOp (rIn K true) (tVar 16) (tVar 13))) (te := tVar 16) rfl sc__law_log.nd rfl rfl (sw_true rfl rfl rfl (by decide +kernel)) (pi_list (pv 12)) (blkOk_by (own := [("x", 16)]) (N := ["box", "size", "ends", "many", "steps", "care", "slip", "pattern", "book", "log", "node", "k", "free", "late", "turn", "near", "x"]) (sc := defScope s__law_log) (by decide +kernel)) (fun _ _ _ _ _ => pg_name (i := 16) sc__law_log.nd rfl (by first | exact Or.inl rfl | exact Or.inr rfl)) (fun _ _ _ _ _ => pts_one (pt_cmpR op_notIn_seq (pv 16) (pv 13) (rfl))) (fun _ _ _ _ _ => pv 16))) (pss_nil)) (pss_cons (ps_setLc (i := 15) (own := [("x", 16)]) (g := gName 16) (tt := tTest (tOp (rEqA K) (tCB rAbsA (tCons (tOp rSubA (tVar 16) (tVar 10)) (tNil))) (tC (.int 1)))) (te := tVar 16) rfl sc__law_log.nd rfl rfl (sw_true rfl rfl rfl (by decide +kernel)) (pi_list (pv 12)) (blkOk_by (own := [("x", 16)]) (N := ["box", "size", "ends", "many", "steps", "care", "slip", "pattern", "book", "log", "node", "k", "free", "late", "turn", "near", "x"]) (sc := defScope s__law_log) (by decide +kernel)) (fun _ _ _ _ _ => pg_name (i := 16) sc__law_log.nd rfl (by first | exact Or.inl rfl | exact Or.inr rfl)) (fun _ _ _ _ _ => pts_one (pt_cmpR (op_eqA hr) (pe_callB call_absA (by rfl) T.b_abs (by decide +kernel) (pa_cons (pe_op op_sub (pv 16) (pv 10)) (pa_nil))) (pe_int) (nomark _))) (fun _ _ _ _ _ => pv 16)) (pss_one (ps_if ((pw_and (pt_cmpR op_gt (pv 14) (pe_int) (nomark _)) (pw_and1 (pt_cmpR op_gt (pe_callB call_lenA (by rfl) T.b_len (by decide +kernel) (pa_cons (pv 15) (pa_nil))) (pe_int) (nomark _)))).pt) (pss_one (ps_set (i := 12) sc__law_log.nd rfl (by first | exact Or.inl rfl | exact Or.inr rfl) (pv 15))) (pss_nil))))) (pss_nil)))))) (pss_cons (ps_set (i := 10) sc__law_log.nd rfl (by first | exact Or.inl rfl | exact Or.inr rfl) (pe_ix ix_seq (pv 12) (pe_cl c__law_take hr (by decide) (pat_of (W := fun cls d _ H => E cls d H) (L2N.takes_of rfl rfl rfl rfl)) (pa_cons (pv 0) (pa_cons (pe_callB call_lenA (by rfl) T.b_len (by decide +kernel) (pa_cons (pv 12) (pa_nil))) (pa_nil)))) (fun _ _ => rfl))) (pss_cons (ps_expr (pe_bm PySem.F.plainAttrs_list PySem.F.slot_list_append PySem.F.type_list_append mt_append (pv 9) (pa_cons (pe_ix ix_seq (pe_lst (pa_cons (pe_un un_neg (pv 10)) (pa_cons (pv 10) (pa_nil)))) (pe_ix ix_seq (pe_ix ix_seq (pv 8) (pe_int) (fun _ _ => rfl)) (pv 10) (fun _ _ => rfl)) (fun _ _ => rfl)) (pa_nil)))) (pss_one (ps_expr (pe_cl c__law_step hr (by decide) (pat_of (W := fun cls d _ H => E cls d H) (L2N.takes_of rfl rfl rfl rfl)) (pa_cons (pv 8) (pa_cons (pe_ix ix_seq (pv 9) (pv 11) (fun _ _ => rfl)) (pa_nil)))))))))))))) (pss_one (ps_ret (pv 9)))))))))))), rd__law_log T vs H Q E h⟩
theorem ok__law_size {f : Addr} {fd : FuncData} (T : Txt K mg) (F : FunD K "_law_size" "_law_size" (defArgs s__law_size) (defBody s__law_size) (defScope s__law_size) [] [] f fd) (c__law_take : Cal P w K mg base 2 "_law_take" ["box", "many"] (sp__law_take K)) : FnOk P w K mg base (L2N.CX P w) 3 f fd ["box"] (sp22__law_size K) :=
  F.ok sc__law_size (len__law_size K) fun cdv A outer s H vs Q E hr h => ⟨t__law_size K E, pss_cons (ps_set (i := 1) sc__law_size.nd rfl (by first | exact Or.inl rfl | exact Or.inr rfl) (pe_cl c__law_take hr (by decide) (pat_of (W := fun cls d _ H => E cls d H) (L2N.takes_of rfl rfl rfl rfl)) (pa_cons (pv 0) (pa_cons (pe_int) (pa_nil))))) (pss_cons (ps_if (pt_cmpR (op_eqA hr) (pv 1) (pe_int) (nomark _)) (pss_one (ps_ret (pe_op op_addA (pe_int) (pe_cl c__law_take hr (by decide) (pat_of (W := fun cls d _ H => E cls d H) (L2N.takes_of rfl rfl rfl rfl)) (pa_cons (pv 0) (pa_cons (pe_int) (pa_nil))))))) (pss_nil)) (pss_cons (ps_if (pt_cmpR (op_eqA hr) (pv 1) (pe_int) (nomark _)) (pss_one (ps_ret (pe_op op_addA (pe_int) (pe_cl c__law_take hr (by decide) (pat_of (W := fun cls d _ H => E cls d H) (L2N.takes_of rfl rfl rfl rfl)) (pa_cons (pv 0) (pa_cons (pe_int) (pa_nil))))))) (pss_nil)) (pss_one (ps_ret (pe_ix ix_seq (pe_lst (pa_cons (pe_int) (pa_cons (pe_int) (pa_cons (pe_int) (pa_cons (pe_int) (pa_cons (pe_int) (pa_cons (pe_int) (pa_cons (pe_int) (pa_cons (pe_int) (pa_cons (pe_int) (pa_cons (pe_int) (pa_cons (pe_int) (pa_cons (pe_int) (pa_cons (pe_int) (pa_cons (pe_int) (pa_nil)))))))))))))))) (pv 1) (fun _ _ => rfl)))))), rd__law_size T vs H Q E h⟩
theorem ok_law {f : Addr} {fd : FuncData} (T : Txt K mg) (F : FunD K "law" "law" (defArgs s_law) (defBody s_law) (defScope s_law) [] [] f fd) (c__law_box : Cal P w K mg base 1 "_law_box" ["script"] (sp__law_box K)) (c__law_calm : Cal P w K mg base 11 "_law_calm" ["size", "log"] (sp23__law_calm K)) (c__law_complete : Cal P w K mg base 11 "_law_complete" ["size", "log"] (sp23__law_complete K)) (c__law_first_late : Cal P w K mg base 2 "_law_first_late" ["size", "log"] (sp23__law_first_late K)) (c__law_log : Cal P w K mg base 4 "_law_log" ["box", "size"] (sp23__law_log K)) (c__law_size : Cal P w K mg base 3 "_law_size" ["box"] (sp22__law_size K)) (c__law_take : Cal P w K mg base 2 "_law_take" ["box", "many"] (sp__law_take K)) : FnOk P w K mg base (L2N.CX P w) 12 f fd ["script"] (sp_law K) :=
  F.ok sc_law (len_law K) fun cdv A outer s H vs Q E hr h => ⟨t_law K E, pss_cons (ps_set (i := 1) sc_law.nd rfl (by first | exact Or.inl rfl | exact Or.inr rfl) (pe_cl c__law_box hr (by decide) (pat_of (W := fun cls d _ H => E cls d H) (L2N.takes_of rfl rfl rfl rfl)) (pa_cons (pv 0) (pa_nil)))) (pss_cons (ps_set (i := 2) sc_law.nd rfl (by first | exact Or.inl rfl | exact Or.inr rfl) (pe_cl c__law_size hr (by decide) (pat_of (W := fun cls d _ H => E cls d H) (L2N.takes_of rfl rfl rfl rfl)) (pa_cons (pv 1) (pa_nil)))) (pss_cons (ps_set (i := 3) sc_law.nd rfl (by first | exact Or.inl rfl | exact Or.inr rfl) (pe_cl c__law_log hr (by decide) (pat_of (W := fun cls d _ H => E cls d H) (L2N.takes_of rfl rfl rfl rfl)) (pa_cons (pv 1) (pa_cons (pv 2) (pa_nil))))) (pss_cons (ps_if (pt_not (pt_val (pe_cl c__law_complete hr (by decide) (pat_of (W := fun cls d _ H => E cls d H) (L2N.takes_of rfl rfl rfl rfl)) (pa_cons (pv 2) (pa_cons (pv 3) (pa_nil)))))) (pss_one (ps_ret (pe_bl))) (pss_nil)) (pss_cons (ps_set (i := 4) sc_law.nd rfl (by first | exact Or.inl rfl | exact Or.inr rfl) (pe_cl c__law_first_late hr (by decide) (pat_of (W := fun cls d _ H => E cls d H) (L2N.takes_of rfl rfl rfl rfl)) (pa_cons (pv 2) (pa_cons (pv 3) (pa_nil))))) (pss_cons (ps_set (i := 5) sc_law.nd rfl (by first | exact Or.inl rfl | exact Or.inr rfl) (pe_cl c__law_take hr (by decide) (pat_of (W := fun cls d _ H => E cls d H) (L2N.takes_of rfl rfl rfl rfl)) (pa_cons (pv 1) (pa_cons (pe_op op_addA (pv 4) (pe_int)) (pa_nil))))) (pss_one (ps_ret (pe_and (pe_cl c__law_calm hr (by decide) (pat_of (W := fun cls d _ H => E cls d H) (L2N.takes_of rfl rfl rfl rfl)) (pa_cons (pv 2) (pa_cons (pe_slice sl_list (pv 3) (po_none) (po_some (pv 4))) (pa_nil)))) (pe_one (pe_cl c__law_calm hr (by decide) (pat_of (W := fun cls d _ H => E cls d H) (L2N.takes_of rfl rfl rfl rfl)) (pa_cons (pv 2) (pa_cons (pe_slice sl_list (pv 3) (po_none) (po_some (pv 5))) (pa_nil))))))))))))), rd_law T vs H Q E h⟩
end
end G
set_option Elab.async false
set_option linter.all false
set_option maxRecDepth 100000
set_option maxHeartbeats 4000000
namespace G
open PySem PySem.Spec PyProof.Rows L2
theorem facts {P : Program} {w : World} {K : PySem.W.Frag} {h : Heap} {mg : Str → Option Value} {f : Addr} (X : K.In h) (G : h.Ns mainGlobals mg) (hfa : mg ("law" : Str) = some (.ref f)) (c : SaysY chkL fnL K) :
    ∃ fd : FuncData, (∀ (s : Shared) (v : Value), BindsTo s fd ⟨[v], []⟩ [("script", v)]) ∧ ∀ base : Heap, K.In base → base.Ns mainGlobals mg → FnOk P w K mg base (L2N.CX P w) 12 f fd ["script"] (sp_law K) := by
  have T := txt_of X G c
  obtain ⟨fd__law_box, F__law_box⟩ := c.def_ 0 (d := d__law_box) rfl
  obtain ⟨fd_Links_outs, F_Links_outs⟩ := c.def_ 1 (d := d_Links_outs) rfl
  obtain ⟨fd__law_start, F__law_start⟩ := c.def_ 2 (d := d__law_start) rfl
  obtain ⟨fd__law_step, F__law_step⟩ := c.def_ 3 (d := d__law_step) rfl
  obtain ⟨fd__law_after, F__law_after⟩ := c.def_ 4 (d := d__law_after) rfl
  obtain ⟨fd__law_holders, F__law_holders⟩ := c.def_ 5 (d := d__law_holders) rfl
  obtain ⟨fd__law_integer, F__law_integer⟩ := c.def_ 6 (d := d__law_integer) rfl
  obtain ⟨fd__law_row, F__law_row⟩ := c.def_ 7 (d := d__law_row) rfl
  obtain ⟨fd__law_states, F__law_states⟩ := c.def_ 8 (d := d__law_states) rfl
  obtain ⟨fd_Links_is_out, F_Links_is_out⟩ := c.def_ 9 (d := d_Links_is_out) rfl
  obtain ⟨fd_Links_left, F_Links_left⟩ := c.def_ 10 (d := d_Links_left) rfl
  obtain ⟨fd_Links_right, F_Links_right⟩ := c.def_ 11 (d := d_Links_right) rfl
  obtain ⟨fd_check_gap, F_check_gap⟩ := c.def_ 12 (d := d_check_gap) rfl
  obtain ⟨fd_gap_state, F_gap_state⟩ := c.def_ 13 (d := d_gap_state) rfl
  obtain ⟨fd_gap_states, F_gap_states⟩ := c.def_ 14 (d := d_gap_states) rfl
  obtain ⟨fd_lost_gaps, F_lost_gaps⟩ := c.def_ 15 (d := d_lost_gaps) rfl
  obtain ⟨fd_check_repairable, F_check_repairable⟩ := c.def_ 16 (d := d_check_repairable) rfl
  obtain ⟨fd_sole_holders, F_sole_holders⟩ := c.def_ 17 (d := d_sole_holders) rfl
  obtain ⟨fd_due_nodes, F_due_nodes⟩ := c.def_ 18 (d := d_due_nodes) rfl
  obtain ⟨fd_repair_cost, F_repair_cost⟩ := c.def_ 19 (d := d_repair_cost) rfl
  obtain ⟨fd_debt_of, F_debt_of⟩ := c.def_ 20 (d := d_debt_of) rfl
  obtain ⟨fd_check_size, F_check_size⟩ := c.def_ 21 (d := d_check_size) rfl
  obtain ⟨fd_Links___init__, F_Links___init__⟩ := c.def_ 22 (d := d_Links___init__) rfl
  obtain ⟨fd_Links_is_legal, F_Links_is_legal⟩ := c.def_ 23 (d := d_Links_is_legal) rfl
  obtain ⟨fd_check_operation, F_check_operation⟩ := c.def_ 24 (d := d_check_operation) rfl
  obtain ⟨fd_Links_check, F_Links_check⟩ := c.def_ 25 (d := d_Links_check) rfl
  obtain ⟨fd_Links_apply_at, F_Links_apply_at⟩ := c.def_ 26 (d := d_Links_apply_at) rfl
  obtain ⟨fd_Links_apply, F_Links_apply⟩ := c.def_ 27 (d := d_Links_apply) rfl
  obtain ⟨fd_Links_copy, F_Links_copy⟩ := c.def_ 28 (d := d_Links_copy) rfl
  obtain ⟨fd_play, F_play⟩ := c.def_ 29 (d := d_play) rfl
  obtain ⟨fd_replay, F_replay⟩ := c.def_ 30 (d := d_replay) rfl
  obtain ⟨fd__check_once, F__check_once⟩ := c.def_ 31 (d := d__check_once) rfl
  obtain ⟨fd__late_gaps, F__late_gaps⟩ := c.def_ 32 (d := d__late_gaps) rfl
  obtain ⟨fd_late_writes, F_late_writes⟩ := c.def_ 33 (d := d_late_writes) rfl
  obtain ⟨fd__law_calm, F__law_calm⟩ := c.def_ 34 (d := d__law_calm) rfl
  obtain ⟨fd_Links___eq__, F_Links___eq__⟩ := c.def_ 35 (d := d_Links___eq__) rfl
  obtain ⟨fd_Links_is_whole, F_Links_is_whole⟩ := c.def_ 36 (d := d_Links_is_whole) rfl
  obtain ⟨fd__law_texts, F__law_texts⟩ := c.def_ 37 (d := d__law_texts) rfl
  obtain ⟨fd__law_is_pair, F__law_is_pair⟩ := c.def_ 38 (d := d__law_is_pair) rfl
  obtain ⟨fd__law_told_gaps, F__law_told_gaps⟩ := c.def_ 39 (d := d__law_told_gaps) rfl
  obtain ⟨fd_is_complete, F_is_complete⟩ := c.def_ 40 (d := d_is_complete) rfl
  obtain ⟨fd__law_complete, F__law_complete⟩ := c.def_ 41 (d := d__law_complete) rfl
  obtain ⟨fd__law_late, F__law_late⟩ := c.def_ 42 (d := d__law_late) rfl
  obtain ⟨fd__law_first_late, F__law_first_late⟩ := c.def_ 43 (d := d__law_first_late) rfl
  obtain ⟨fd__law_mixed, F__law_mixed⟩ := c.def_ 44 (d := d__law_mixed) rfl
  obtain ⟨fd__law_take, F__law_take⟩ := c.def_ 45 (d := d__law_take) rfl
  obtain ⟨fd__law_pattern, F__law_pattern⟩ := c.def_ 46 (d := d__law_pattern) rfl
  obtain ⟨fd__law_range, F__law_range⟩ := c.def_ 47 (d := d__law_range) rfl
  obtain ⟨fd__law_log, F__law_log⟩ := c.def_ 48 (d := d__law_log) rfl
  obtain ⟨fd__law_size, F__law_size⟩ := c.def_ 49 (d := d__law_size) rfl
  obtain ⟨fd_law, F_law⟩ := c.def_ 50 (d := d_law) rfl
  obtain ⟨fd_BadGap___init__, F_BadGap___init__⟩ := c.def_ 51 (d := d_BadGap___init__) rfl
  obtain ⟨fd_BadNode___init__, F_BadNode___init__⟩ := c.def_ 52 (d := d_BadNode___init__) rfl
  obtain ⟨fd_BadSize___init__, F_BadSize___init__⟩ := c.def_ 53 (d := d_BadSize___init__) rfl
  obtain ⟨fd_BadWeights___init__, F_BadWeights___init__⟩ := c.def_ 54 (d := d_BadWeights___init__) rfl
  obtain ⟨fd_LogError___init__, F_LogError___init__⟩ := c.def_ 55 (d := d_LogError___init__) rfl
  obtain ⟨fd_NotOnce___init__, F_NotOnce___init__⟩ := c.def_ 56 (d := d_NotOnce___init__) rfl
  obtain ⟨fd_NotRepairable___init__, F_NotRepairable___init__⟩ := c.def_ 57 (d := d_NotRepairable___init__) rfl
  have e := hfa.symm.trans T.gf_law
  cases e
  have bA := FunD.bindsA (ps := ["script"]) F_law fun _ _ _ _ _ _ us hl => match us, hl with | [_], _ => rfl
  refine ⟨fd_law, fun s v => bA s [v] rfl, fun base _ _ => ?_⟩
  have i_BadGap : FnOk P w K mg base (L2N.CX P w) 1 (He.ma K (He.ga K "BadGap") "__init__") fd_BadGap___init__ ["self", "gap"] (spIn K ["gap"]) := FunD.ok F_BadGap___init__ sc_BadGap___init__ (spIn_len rfl) fun cdv A outer s H vs Q E hr h => ⟨_, pss_one (ps_ost (pv 0) (pv 1)), ini1 rfl h⟩
  have i_BadNode : FnOk P w K mg base (L2N.CX P w) 1 (He.ma K (He.ga K "BadNode") "__init__") fd_BadNode___init__ ["self", "node"] (spIn K ["node"]) := FunD.ok F_BadNode___init__ sc_BadNode___init__ (spIn_len rfl) fun cdv A outer s H vs Q E hr h => ⟨_, pss_one (ps_ost (pv 0) (pv 1)), ini1 rfl h⟩
  have i_BadSize : FnOk P w K mg base (L2N.CX P w) 1 (He.ma K (He.ga K "BadSize") "__init__") fd_BadSize___init__ ["self", "size"] (spIn K ["size"]) := FunD.ok F_BadSize___init__ sc_BadSize___init__ (spIn_len rfl) fun cdv A outer s H vs Q E hr h => ⟨_, pss_one (ps_ost (pv 0) (pv 1)), ini1 rfl h⟩
  have i_BadWeights : FnOk P w K mg base (L2N.CX P w) 1 (He.ma K (He.ga K "BadWeights") "__init__") fd_BadWeights___init__ ["self", "count"] (spIn K ["count"]) := FunD.ok F_BadWeights___init__ sc_BadWeights___init__ (spIn_len rfl) fun cdv A outer s H vs Q E hr h => ⟨_, pss_one (ps_ost (pv 0) (pv 1)), ini1 rfl h⟩
  have i_LogError : FnOk P w K mg base (L2N.CX P w) 1 (He.ma K (He.ga K "LogError") "__init__") fd_LogError___init__ ["self", "operation", "index"] (spIn K ["operation", "index"]) := FunD.ok F_LogError___init__ sc_LogError___init__ (spIn_len rfl) fun cdv A outer s H vs Q E hr h => ⟨_, pss_cons (ps_ost (pv 0) (pv 1)) (pss_one (ps_ost (pv 0) (pv 2))), ini2 rfl h⟩
  have i_NotOnce : FnOk P w K mg base (L2N.CX P w) 1 (He.ma K (He.ga K "NotOnce") "__init__") fd_NotOnce___init__ ["self", "index"] (spIn K ["index"]) := FunD.ok F_NotOnce___init__ sc_NotOnce___init__ (spIn_len rfl) fun cdv A outer s H vs Q E hr h => ⟨_, pss_one (ps_ost (pv 0) (pv 1)), ini1 rfl h⟩
  have i_NotRepairable : FnOk P w K mg base (L2N.CX P w) 1 (He.ma K (He.ga K "NotRepairable") "__init__") fd_NotRepairable___init__ ["self", "gap"] (spIn K ["gap"]) := FunD.ok F_NotRepairable___init__ sc_NotRepairable___init__ (spIn_len rfl) fun cdv A outer s H vs Q E hr h => ⟨_, pss_one (ps_ost (pv 0) (pv 1)), ini1 rfl h⟩
  have x_BadGap : ExM P w K mg base 1 "BadGap" (He.ga K "BadGap") ["gap"] := ⟨T.oe_BadGap.1, T.oe_BadGap.2, T.g_BadGap, _, fd_BadGap___init__, ["self", "gap"], i_BadGap, T.in_BadGap.1, T.in_BadGap.2, FunD.bindsN (ps := ["self", "gap"]) F_BadGap___init__ fun _ _ _ _ _ _ us hl => match us, hl with | [_, _], _ => rfl⟩
  have x_BadNode : ExM P w K mg base 1 "BadNode" (He.ga K "BadNode") ["node"] := ⟨T.oe_BadNode.1, T.oe_BadNode.2, T.g_BadNode, _, fd_BadNode___init__, ["self", "node"], i_BadNode, T.in_BadNode.1, T.in_BadNode.2, FunD.bindsN (ps := ["self", "node"]) F_BadNode___init__ fun _ _ _ _ _ _ us hl => match us, hl with | [_, _], _ => rfl⟩
  have x_BadOperation : ExM P w K mg base 1 "BadOperation" (He.ga K "BadOperation") ["operation", "index"] := ⟨T.oe_BadOperation.1, T.oe_BadOperation.2, T.g_BadOperation, _, fd_LogError___init__, ["self", "operation", "index"], i_LogError, (T.sm_BadOperation ▸ T.in_BadOperation).1, (T.sm_BadOperation ▸ T.in_BadOperation).2, FunD.bindsN (ps := ["self", "operation", "index"]) F_LogError___init__ fun _ _ _ _ _ _ us hl => match us, hl with | [_, _, _], _ => rfl⟩
  have x_BadSize : ExM P w K mg base 1 "BadSize" (He.ga K "BadSize") ["size"] := ⟨T.oe_BadSize.1, T.oe_BadSize.2, T.g_BadSize, _, fd_BadSize___init__, ["self", "size"], i_BadSize, T.in_BadSize.1, T.in_BadSize.2, FunD.bindsN (ps := ["self", "size"]) F_BadSize___init__ fun _ _ _ _ _ _ us hl => match us, hl with | [_, _], _ => rfl⟩
  have x_BadWeights : ExM P w K mg base 1 "BadWeights" (He.ga K "BadWeights") ["count"] := ⟨T.oe_BadWeights.1, T.oe_BadWeights.2, T.g_BadWeights, _, fd_BadWeights___init__, ["self", "count"], i_BadWeights, T.in_BadWeights.1, T.in_BadWeights.2, FunD.bindsN (ps := ["self", "count"]) F_BadWeights___init__ fun _ _ _ _ _ _ us hl => match us, hl with | [_, _], _ => rfl⟩
  have x_Illegal : ExM P w K mg base 1 "Illegal" (He.ga K "Illegal") ["operation", "index"] := ⟨T.oe_Illegal.1, T.oe_Illegal.2, T.g_Illegal, _, fd_LogError___init__, ["self", "operation", "index"], i_LogError, (T.sm_Illegal ▸ T.in_Illegal).1, (T.sm_Illegal ▸ T.in_Illegal).2, FunD.bindsN (ps := ["self", "operation", "index"]) F_LogError___init__ fun _ _ _ _ _ _ us hl => match us, hl with | [_, _, _], _ => rfl⟩
  have x_NotOnce : ExM P w K mg base 1 "NotOnce" (He.ga K "NotOnce") ["index"] := ⟨T.oe_NotOnce.1, T.oe_NotOnce.2, T.g_NotOnce, _, fd_NotOnce___init__, ["self", "index"], i_NotOnce, T.in_NotOnce.1, T.in_NotOnce.2, FunD.bindsN (ps := ["self", "index"]) F_NotOnce___init__ fun _ _ _ _ _ _ us hl => match us, hl with | [_, _], _ => rfl⟩
  have x_NotRepairable : ExM P w K mg base 1 "NotRepairable" (He.ga K "NotRepairable") ["gap"] := ⟨T.oe_NotRepairable.1, T.oe_NotRepairable.2, T.g_NotRepairable, _, fd_NotRepairable___init__, ["self", "gap"], i_NotRepairable, T.in_NotRepairable.1, T.in_NotRepairable.2, FunD.bindsN (ps := ["self", "gap"]) F_NotRepairable___init__ fun _ _ _ _ _ _ us hl => match us, hl with | [_, _], _ => rfl⟩
  have c__law_box : Cal P w K mg base 1 "_law_box" ["script"] (sp__law_box K) := ⟨_, fd__law_box, ok__law_box T F__law_box , T.gf__law_box, F__law_box.kp, FunD.bindsN (ps := ["script"]) F__law_box fun _ _ _ _ _ _ us hl => match us, hl with | [_], _ => rfl⟩
  have c_Links_outs : Met P w K mg base 1 (He.ga K "Links") "outs" ["self"] (sp_Links_outs K) := ⟨_, fd_Links_outs, ok_Links_outs T F_Links_outs , T.me_Links_outs, FunD.bindsN (ps := ["self"]) F_Links_outs fun _ _ _ _ _ _ us hl => match us, hl with | [_], _ => rfl⟩
  have c__law_start : Cal P w K mg base 1 "_law_start" ["size"] (sp__law_start K) := ⟨_, fd__law_start, ok__law_start T F__law_start , T.gf__law_start, F__law_start.kp, FunD.bindsN (ps := ["size"]) F__law_start fun _ _ _ _ _ _ us hl => match us, hl with | [_], _ => rfl⟩
  have c__law_step : Cal P w K mg base 1 "_law_step" ["book", "operation"] (sp22__law_step K) := ⟨_, fd__law_step, ok__law_step T F__law_step , T.gf__law_step, F__law_step.kp, FunD.bindsN (ps := ["book", "operation"]) F__law_step fun _ _ _ _ _ _ us hl => match us, hl with | [_, _], _ => rfl⟩
  have c__law_after : Cal P w K mg base 2 "_law_after" ["size", "log"] (sp23__law_after K) := ⟨_, fd__law_after, ok__law_after T F__law_after c__law_start c__law_step, T.gf__law_after, F__law_after.kp, FunD.bindsN (ps := ["size", "log"]) F__law_after fun _ _ _ _ _ _ us hl => match us, hl with | [_, _], _ => rfl⟩
  have c__law_holders : Cal P w K mg base 1 "_law_holders" ["size", "states"] (sp23__law_holders K) := ⟨_, fd__law_holders, ok__law_holders T F__law_holders , T.gf__law_holders, F__law_holders.kp, FunD.bindsN (ps := ["size", "states"]) F__law_holders fun _ _ _ _ _ _ us hl => match us, hl with | [_, _], _ => rfl⟩
  have c__law_integer : Cal P w K mg base 1 "_law_integer" ["told"] (sp__law_integer K) := ⟨_, fd__law_integer, ok__law_integer T F__law_integer , T.gf__law_integer, F__law_integer.kp, FunD.bindsN (ps := ["told"]) F__law_integer fun _ _ _ _ _ _ us hl => match us, hl with | [_], _ => rfl⟩
  have c__law_row : Cal P w K mg base 2 "_law_row" ["told", "due"] (sp__law_row K) := ⟨_, fd__law_row, ok__law_row T F__law_row c__law_integer, T.gf__law_row, F__law_row.kp, FunD.bindsN (ps := ["told", "due"]) F__law_row fun _ _ _ _ _ _ us hl => match us, hl with | [_, _], _ => rfl⟩
  have c__law_states : Cal P w K mg base 1 "_law_states" ["size", "book"] (sp23__law_states K) := ⟨_, fd__law_states, ok__law_states T F__law_states , T.gf__law_states, F__law_states.kp, FunD.bindsN (ps := ["size", "book"]) F__law_states fun _ _ _ _ _ _ us hl => match us, hl with | [_, _], _ => rfl⟩
  have c_Links_is_out : Met P w K mg base 3 (He.ga K "Links") "is_out" ["self", "node"] (sp03_Links_is_out K) := ⟨_, fd_Links_is_out, ok_Links_is_out T F_Links_is_out x_BadNode, T.me_Links_is_out, FunD.bindsN (ps := ["self", "node"]) F_Links_is_out fun _ _ _ _ _ _ us hl => match us, hl with | [_, _], _ => rfl⟩
  have c_Links_left : Met P w K mg base 3 (He.ga K "Links") "left" ["self", "node"] (sp_Links_left K) := ⟨_, fd_Links_left, ok_Links_left T F_Links_left x_BadNode, T.me_Links_left, FunD.bindsN (ps := ["self", "node"]) F_Links_left fun _ _ _ _ _ _ us hl => match us, hl with | [_, _], _ => rfl⟩
  have c_Links_right : Met P w K mg base 3 (He.ga K "Links") "right" ["self", "node"] (sp_Links_right K) := ⟨_, fd_Links_right, ok_Links_right T F_Links_right x_BadNode, T.me_Links_right, FunD.bindsN (ps := ["self", "node"]) F_Links_right fun _ _ _ _ _ _ us hl => match us, hl with | [_, _], _ => rfl⟩
  have c_check_gap : Cal P w K mg base 3 "check_gap" ["size", "gap"] (sp_check_gap K) := ⟨_, fd_check_gap, ok_check_gap T F_check_gap x_BadGap, T.gf_check_gap, F_check_gap.kp, FunD.bindsN (ps := ["size", "gap"]) F_check_gap fun _ _ _ _ _ _ us hl => match us, hl with | [_, _], _ => rfl⟩
  have c_gap_state : Cal P w K mg base 4 "gap_state" ["links", "gap"] (sp_gap_state K) := ⟨_, fd_gap_state, ok_gap_state T F_gap_state c_Links_left c_Links_right c_check_gap, T.gf_gap_state, F_gap_state.kp, FunD.bindsN (ps := ["links", "gap"]) F_gap_state fun _ _ _ _ _ _ us hl => match us, hl with | [_, _], _ => rfl⟩
  have c_gap_states : Cal P w K mg base 5 "gap_states" ["links"] (sp_gap_states K) := ⟨_, fd_gap_states, ok_gap_states T F_gap_states c_gap_state, T.gf_gap_states, F_gap_states.kp, FunD.bindsN (ps := ["links"]) F_gap_states fun _ _ _ _ _ _ us hl => match us, hl with | [_], _ => rfl⟩
  have c_lost_gaps : Cal P w K mg base 6 "lost_gaps" ["links"] (sp_lost_gaps K) := ⟨_, fd_lost_gaps, ok_lost_gaps T F_lost_gaps c_gap_states, T.gf_lost_gaps, F_lost_gaps.kp, FunD.bindsN (ps := ["links"]) F_lost_gaps fun _ _ _ _ _ _ us hl => match us, hl with | [_], _ => rfl⟩
  have c_check_repairable : Cal P w K mg base 7 "check_repairable" ["links"] (sp16_check_repairable K) := ⟨_, fd_check_repairable, ok_check_repairable T F_check_repairable c_lost_gaps x_NotRepairable, T.gf_check_repairable, F_check_repairable.kp, FunD.bindsN (ps := ["links"]) F_check_repairable fun _ _ _ _ _ _ us hl => match us, hl with | [_], _ => rfl⟩
  have c_sole_holders : Cal P w K mg base 6 "sole_holders" ["links"] (sp_sole_holders K) := ⟨_, fd_sole_holders, ok_sole_holders T F_sole_holders c_gap_states, T.gf_sole_holders, F_sole_holders.kp, FunD.bindsN (ps := ["links"]) F_sole_holders fun _ _ _ _ _ _ us hl => match us, hl with | [_], _ => rfl⟩
  have c_due_nodes : Cal P w K mg base 7 "due_nodes" ["links"] (sp16_due_nodes K) := ⟨_, fd_due_nodes, ok_due_nodes T F_due_nodes c_Links_outs c_sole_holders, T.gf_due_nodes, F_due_nodes.kp, FunD.bindsN (ps := ["links"]) F_due_nodes fun _ _ _ _ _ _ us hl => match us, hl with | [_], _ => rfl⟩
  have c_repair_cost : Cal P w K mg base 8 "repair_cost" ["links", "weights"] (sp16_repair_cost K) := ⟨_, fd_repair_cost, ok_repair_cost T F_repair_cost c_Links_is_out c_check_repairable c_due_nodes x_BadWeights, T.gf_repair_cost, F_repair_cost.kp, FunD.bindsN (ps := ["links", "weights"]) F_repair_cost fun _ _ _ _ _ _ us hl => match us, hl with | [_, _], _ => rfl⟩
  have c_debt_of : Cal P w K mg base 9 "debt_of" ["links"] (sp16_debt_of K) := ⟨_, fd_debt_of, ok_debt_of T F_debt_of c_repair_cost, T.gf_debt_of, F_debt_of.kp, FunD.bindsN (ps := ["links"]) F_debt_of fun _ _ _ _ _ _ us hl => match us, hl with | [_], _ => rfl⟩
  have c_check_size : Cal P w K mg base 3 "check_size" ["size"] (sp_check_size K) := ⟨_, fd_check_size, ok_check_size T F_check_size x_BadSize, T.gf_check_size, F_check_size.kp, FunD.bindsN (ps := ["size"]) F_check_size fun _ _ _ _ _ _ us hl => match us, hl with | [_], _ => rfl⟩
  have m_Links : Mak P w K mg base 4 "Links" (He.ga K "Links") ["self", "size"] (sp_Links___init__ K) := ⟨_, fd_Links___init__, ok_Links___init__ T F_Links___init__ c_check_size, T.mk_Links, T.g_Links, FunD.bindsN (ps := ["self", "size"]) F_Links___init__ fun _ _ _ _ _ _ us hl => match us, hl with | [_, _], _ => rfl⟩
  have c_Links_is_legal : Met P w K mg base 1 (He.ga K "Links") "is_legal" ["self", "operation"] (sp_Links_is_legal K) := ⟨_, fd_Links_is_legal, ok_Links_is_legal T F_Links_is_legal , T.me_Links_is_legal, FunD.bindsN (ps := ["self", "operation"]) F_Links_is_legal fun _ _ _ _ _ _ us hl => match us, hl with | [_, _], _ => rfl⟩
  have c_check_operation : Cal P w K mg base 3 "check_operation" ["size", "operation", "index"] (sp_check_operation K) := ⟨_, fd_check_operation, ok_check_operation T F_check_operation x_BadOperation, T.gf_check_operation, F_check_operation.kp, FunD.bindsN (ps := ["size", "operation", "index"]) F_check_operation fun _ _ _ _ _ _ us hl => match us, hl with | [_, _, _], _ => rfl⟩
  have c_Links_check : Met P w K mg base 4 (He.ga K "Links") "check" ["self", "operation", "index"] (sp_Links_check K) := ⟨_, fd_Links_check, ok_Links_check T F_Links_check c_Links_is_legal c_check_operation x_Illegal, T.me_Links_check, FunD.bindsN (ps := ["self", "operation", "index"]) F_Links_check fun _ _ _ _ _ _ us hl => match us, hl with | [_, _, _], _ => rfl⟩
  have c_Links_apply_at : Met P w K mg base 5 (He.ga K "Links") "apply_at" ["self", "operation", "index"] (sp_Links_apply_at K) := ⟨_, fd_Links_apply_at, ok_Links_apply_at T F_Links_apply_at c_Links_check, T.me_Links_apply_at, FunD.bindsN (ps := ["self", "operation", "index"]) F_Links_apply_at fun _ _ _ _ _ _ us hl => match us, hl with | [_, _, _], _ => rfl⟩
  have c_Links_apply : Met P w K mg base 6 (He.ga K "Links") "apply" ["self", "operation"] (sp_Links_apply K) := ⟨_, fd_Links_apply, ok_Links_apply T F_Links_apply c_Links_apply_at, T.me_Links_apply, FunD.bindsN (ps := ["self", "operation"]) F_Links_apply fun _ _ _ _ _ _ us hl => match us, hl with | [_, _], _ => rfl⟩
  have c_Links_copy : Met P w K mg base 6 (He.ga K "Links") "copy" ["self"] (sp_Links_copy K) := ⟨_, fd_Links_copy, ok_Links_copy T F_Links_copy m_Links, T.me_Links_copy, FunD.bindsN (ps := ["self"]) F_Links_copy fun _ _ _ _ _ _ us hl => match us, hl with | [_], _ => rfl⟩
  have c_play : Cal P w K mg base 7 "play" ["links", "log"] (sp_play K) := ⟨_, fd_play, ok_play T F_play c_Links_apply_at c_Links_copy, T.gf_play, F_play.kp, FunD.bindsN (ps := ["links", "log"]) F_play fun _ _ _ _ _ _ us hl => match us, hl with | [_, _], _ => rfl⟩
  have c_replay : Cal P w K mg base 8 "replay" ["size", "log"] (sp_replay K) := ⟨_, fd_replay, ok_replay T F_replay m_Links c_play, T.gf_replay, F_replay.kp, FunD.bindsN (ps := ["size", "log"]) F_replay fun _ _ _ _ _ _ us hl => match us, hl with | [_, _], _ => rfl⟩
  have c__check_once : Cal P w K mg base 9 "_check_once" ["size", "log"] (sp__check_once K) := ⟨_, fd__check_once, ok__check_once T F__check_once c_replay x_NotOnce, T.gf__check_once, F__check_once.kp, FunD.bindsN (ps := ["size", "log"]) F__check_once fun _ _ _ _ _ _ us hl => match us, hl with | [_, _], _ => rfl⟩
  have c__late_gaps : Cal P w K mg base 4 "_late_gaps" ["links", "earlier", "operation"] (sp__late_gaps K) := ⟨_, fd__late_gaps, ok__late_gaps T F__late_gaps c_Links_left c_Links_right, T.gf__late_gaps, F__late_gaps.kp, FunD.bindsN (ps := ["links", "earlier", "operation"]) F__late_gaps fun _ _ _ _ _ _ us hl => match us, hl with | [_, _, _], _ => rfl⟩
  have c_late_writes : Cal P w K mg base 10 "late_writes" ["size", "log"] (sp_late_writes K) := ⟨_, fd_late_writes, ok_late_writes T F_late_writes m_Links c_Links_apply c__check_once c__late_gaps, T.gf_late_writes, F_late_writes.kp, FunD.bindsN (ps := ["size", "log"]) F_late_writes fun _ _ _ _ _ _ us hl => match us, hl with | [_, _], _ => rfl⟩
  have c__law_calm : Cal P w K mg base 11 "_law_calm" ["size", "log"] (sp23__law_calm K) := ⟨_, fd__law_calm, ok__law_calm T F__law_calm c_Links_outs c__law_after c__law_holders c__law_integer c__law_row c__law_states c_debt_of c_late_writes c_lost_gaps c_replay c_sole_holders, T.gf__law_calm, F__law_calm.kp, FunD.bindsN (ps := ["size", "log"]) F__law_calm fun _ _ _ _ _ _ us hl => match us, hl with | [_, _], _ => rfl⟩
  have c_Links___eq__ : Met P w K mg base 1 (He.ga K "Links") "__eq__" ["self", "other"] (sp23_Links___eq__ K) := ⟨_, fd_Links___eq__, ok_Links___eq__ T F_Links___eq__ , T.me_Links___eq__, FunD.bindsN (ps := ["self", "other"]) F_Links___eq__ fun _ _ _ _ _ _ us hl => match us, hl with | [_, _], _ => rfl⟩
  have c_Links_is_whole : Met P w K mg base 6 (He.ga K "Links") "is_whole" ["self"] (sp23_Links_is_whole K) := ⟨_, fd_Links_is_whole, ok_Links_is_whole T F_Links_is_whole c_Links___eq__ m_Links, T.me_Links_is_whole, FunD.bindsN (ps := ["self"]) F_Links_is_whole fun _ _ _ _ _ _ us hl => match us, hl with | [_], _ => rfl⟩
  have c__law_texts : Cal P w K mg base 1 "_law_texts" ["told", "due"] (sp23__law_texts K) := ⟨_, fd__law_texts, ok__law_texts T F__law_texts , T.gf__law_texts, F__law_texts.kp, FunD.bindsN (ps := ["told", "due"]) F__law_texts fun _ _ _ _ _ _ us hl => match us, hl with | [_, _], _ => rfl⟩
  have c__law_is_pair : Cal P w K mg base 2 "_law_is_pair" ["told", "many", "size"] (sp23__law_is_pair K) := ⟨_, fd__law_is_pair, ok__law_is_pair T F__law_is_pair c__law_integer, T.gf__law_is_pair, F__law_is_pair.kp, FunD.bindsN (ps := ["told", "many", "size"]) F__law_is_pair fun _ _ _ _ _ _ us hl => match us, hl with | [_, _, _], _ => rfl⟩
  have c__law_told_gaps : Cal P w K mg base 3 "_law_told_gaps" ["told", "many", "size"] (sp23__law_told_gaps K) := ⟨_, fd__law_told_gaps, ok__law_told_gaps T F__law_told_gaps c__law_is_pair, T.gf__law_told_gaps, F__law_told_gaps.kp, FunD.bindsN (ps := ["told", "many", "size"]) F__law_told_gaps fun _ _ _ _ _ _ us hl => match us, hl with | [_, _, _], _ => rfl⟩
  have c_is_complete : Cal P w K mg base 10 "is_complete" ["size", "log"] (sp_is_complete K) := ⟨_, fd_is_complete, ok_is_complete T F_is_complete c_Links_outs c__check_once c_replay, T.gf_is_complete, F_is_complete.kp, FunD.bindsN (ps := ["size", "log"]) F_is_complete fun _ _ _ _ _ _ us hl => match us, hl with | [_, _], _ => rfl⟩
  have c__law_complete : Cal P w K mg base 11 "_law_complete" ["size", "log"] (sp23__law_complete K) := ⟨_, fd__law_complete, ok__law_complete T F__law_complete c_Links_is_whole c__law_after c__law_states c__law_texts c__law_told_gaps c_gap_states c_is_complete c_late_writes c_replay, T.gf__law_complete, F__law_complete.kp, FunD.bindsN (ps := ["size", "log"]) F__law_complete fun _ _ _ _ _ _ us hl => match us, hl with | [_, _], _ => rfl⟩
  have c__law_late : Cal P w K mg base 1 "_law_late" ["book", "node"] (sp__law_late K) := ⟨_, fd__law_late, ok__law_late T F__law_late , T.gf__law_late, F__law_late.kp, FunD.bindsN (ps := ["book", "node"]) F__law_late fun _ _ _ _ _ _ us hl => match us, hl with | [_, _], _ => rfl⟩
  have c__law_first_late : Cal P w K mg base 2 "_law_first_late" ["size", "log"] (sp23__law_first_late K) := ⟨_, fd__law_first_late, ok__law_first_late T F__law_first_late c__law_late c__law_start c__law_step, T.gf__law_first_late, F__law_first_late.kp, FunD.bindsN (ps := ["size", "log"]) F__law_first_late fun _ _ _ _ _ _ us hl => match us, hl with | [_, _], _ => rfl⟩
  have c__law_mixed : Cal P w K mg base 1 "_law_mixed" ["cell", "turn"] (sp__law_mixed K) := ⟨_, fd__law_mixed, ok__law_mixed T F__law_mixed , T.gf__law_mixed, F__law_mixed.kp, FunD.bindsN (ps := ["cell", "turn"]) F__law_mixed fun _ _ _ _ _ _ us hl => match us, hl with | [_, _], _ => rfl⟩
  have c__law_take : Cal P w K mg base 2 "_law_take" ["box", "many"] (sp__law_take K) := ⟨_, fd__law_take, ok__law_take T F__law_take c__law_mixed, T.gf__law_take, F__law_take.kp, FunD.bindsN (ps := ["box", "many"]) F__law_take fun _ _ _ _ _ _ us hl => match us, hl with | [_, _], _ => rfl⟩
  have c__law_pattern : Cal P w K mg base 3 "_law_pattern" ["box", "low", "high"] (sp__law_pattern K) := ⟨_, fd__law_pattern, ok__law_pattern T F__law_pattern c__law_take, T.gf__law_pattern, F__law_pattern.kp, FunD.bindsN (ps := ["box", "low", "high"]) F__law_pattern fun _ _ _ _ _ _ us hl => match us, hl with | [_, _, _], _ => rfl⟩
  have c__law_range : Cal P w K mg base 3 "_law_range" ["box", "size"] (sp__law_range K) := ⟨_, fd__law_range, ok__law_range T F__law_range c__law_take, T.gf__law_range, F__law_range.kp, FunD.bindsN (ps := ["box", "size"]) F__law_range fun _ _ _ _ _ _ us hl => match us, hl with | [_, _], _ => rfl⟩
  have c__law_log : Cal P w K mg base 4 "_law_log" ["box", "size"] (sp23__law_log K) := ⟨_, fd__law_log, ok__law_log T F__law_log c__law_late c__law_pattern c__law_range c__law_start c__law_step c__law_take, T.gf__law_log, F__law_log.kp, FunD.bindsN (ps := ["box", "size"]) F__law_log fun _ _ _ _ _ _ us hl => match us, hl with | [_, _], _ => rfl⟩
  have c__law_size : Cal P w K mg base 3 "_law_size" ["box"] (sp22__law_size K) := ⟨_, fd__law_size, ok__law_size T F__law_size c__law_take, T.gf__law_size, F__law_size.kp, FunD.bindsN (ps := ["box"]) F__law_size fun _ _ _ _ _ _ us hl => match us, hl with | [_], _ => rfl⟩
  exact ok_law T F_law c__law_box c__law_calm c__law_complete c__law_first_late c__law_log c__law_size c__law_take
end G
open PySem PySem.W PySem.Calls PyProof.Rows
set_option maxRecDepth 100000 in
set_option maxHeartbeats 0 in
theorem PySem.Challenge.cw_latelink_k23_whole_once_gaps_holds : PySem.Challenge.rw_latelink_k23_whole_once_gaps.Holds := by
  w_on; o_law
  refine HandSHeadRun.head_any (r := OpenLaw.row PySem.Challenge.rw_latelink_k23_whole_once_gaps) (q := view (OpenLaw.row PySem.Challenge.rw_latelink_k23_whole_once_gaps).prog [67]) (H := G.hk) (ob := G.ob) (M := 8000) (loose := G.loose) (d := HandSHeadRun.topDef (OpenLaw.row PySem.Challenge.rw_latelink_k23_whole_once_gaps).prog 67) (kwd := []) G.ob_eq
    (by kernel_rfl) (fun s => by kernel_rfl) G.run (by kernel_rfl) (by kernel_rfl) (by kernel_rfl) (by rfl) (by first | assumption | decide +kernel) (by decide +kernel) ⟨rfl, rfl, rfl, rfl, rfl, by decide +kernel⟩ ?hw ?hc
  case hw => w_witness2
  case hc =>
    refine L2.walk_ofE (l := PySem.Challenge.rw_latelink_k23_whole_once_gaps) (n := 63) (k := 12) (x := "script") (CX := L2.CX0) rfl (by decide) (by kernel_rfl) ⟨rfl, by decide, by decide⟩ ?F (fun _ _ _ _ z => z)
    case F =>
      intro w mg fa h Y Gm hmg0
      obtain ⟨K, KX, c⟩ := Y
      have hmg : mg ("law" : PySem.Str) = some (.ref fa) := by
        have e : (HandSHeadRun.topDef (OpenLaw.row PySem.Challenge.rw_latelink_k23_whole_once_gaps).prog 67).name = ("law" : PySem.Str) := by kernel_rfl
        rw [← e]
        exact hmg0
      obtain ⟨fd, hb, hF⟩ := G.facts (P := (PySem.Challenge.rw_latelink_k23_whole_once_gaps).prog) (w := w) KX Gm hmg c
      exact ⟨K, fd, _, KX, hb, fun H a ns hl _ hS => ⟨a, ns, rfl, hS, hl, fun _ => rfl⟩, fun base h1 h2 => G.noX (hF base h1 h2)⟩
